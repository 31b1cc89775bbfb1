import PyProof.Rows.All
import Wide.All
import OpenK.AllK
import Wide.FinOn
import Lean
import PyProof.EqAt
import PyProof.EqKinds
import PyProof.TupleCall
import KE.KRevIter
import KE.KRevSl
import PySem.Challenge.RW_sortlore_k75_whole_never_parted
set_option compiler.extract_closed false
open List renaming length_map → A6, getElem?_eq_some_iff → E6, length_append → D6, map_append → D0, getElem?_eq_getElem → J5, mem_singleton → E5, mem_map → D7, mem_of_getElem? → L3, length_take → F7, mem_append → E8, size_toArray → K9, length_cons → L0, mem_append_right → O4, mem_cons_of_mem → O5, map_cons → G0, mem_cons_self → M7, take_length → L7, mem_append_left → Q2, append_nil → M8, mem_cons → L4, length_singleton → X2, getElem?_map → R6, take_append_drop → e8, append_assoc → X3, mem_flatMap → W0, flatMap_append → e9, getD_eq_getElem?_getD → aK, nodup_cons → W1, mem_iff_getElem → k0, nodup_append → Z5, take_of_length_le → v4, map_map → R3, mem_filter → Y6, length_eq_zero_iff → aL, find?_cons → Y7, drop_eq_getElem_cons → bX, length_nil → Z6, replicate → Y8, nodup_iff_pairwise_ne → eA, length_drop → k5, getElem?_append_left → eB, flatMap_cons → o9, idxOf_lt_length_iff → eC, take_add_one → v6, getElem?_append_right → gF, mem_of_mem_take → bY, find?_eq_none → aM, pairwise_iff_getElem → gG, mem_range → k6, filterMap_cons → bZ, zipWith → Z7, range → U8, foldl_append → aN, filter_append → cA, mem_take_iff_getElem → jQ, cons_lt_cons_iff → gH, not_mem_nil → cB, length → f6, getElem_mem → cC, map_take → v7, filter_cons_of_pos → jR, filter_cons_of_neg → jS, countP_cons → eD, getElem_idxOf → gI, any_cons → aO, nil_append → eE, replicate_succ → jT, map_drop → cD, map_congr_left → jU, cons_append → gJ, take_zero → eF, filter_eq_nil_iff → mV, drop_of_length_le → mW, drop_eq_nil_of_le → mX, mem_filterMap → jV, mem_iff_getElem? → mY, reverse_cons → jW, flatten_cons → jX, length_erase_of_mem → qW, foldl_cons → jY, length_pos_of_mem → qX, lookup → eG
open Nat renaming le_refl → C3, zero_le → G4, ne_of_lt → M4, le_trans → N5, lt_of_lt_of_le → W2, lt_irrefl → f7, min_eq_left → cE, le_add_right → eI, lt_succ_self → jZ, lt_trichotomy → mZ
open Bool renaming false_ne_true → L8, and_eq_true → f8, not_eq_true → cF, false_xor → gK, not_eq_false' → nA, false_eq_true → nB, eq_iff_iff → kA, not_eq_true' → nC
open PySem.F renaming plainAttrs_list → W3, type_list_append → f9, slot_list_append → g0, slot_dict_get → kB, entry_dict_get → qY
open PySem.W renaming nsIn → P5, findIn → U5, keepIn → W4, mg_of → U9, fnOf → U6, codeIn → Y9, mg_none_of → v8, emptyDict → cG, binds_K → aP, instObj → eJ, isFn → gL, plainGet → nE
open PySem.PyData renaming eqvAll → Z8, eqv → V0, depthAll → aQ, strOk → p9, int → aR, depth → eK
open Array renaming length_toList → eL
open PySem.NumText renaming digitsVal → nF
open Int renaming zero_add → aT, lt_irrefl → eM, emod_lt_of_pos → nG
open Option renaming isSome_map → kC
set_option Elab.async false
set_option linter.all false
set_option maxRecDepth 100000
set_option hygiene false
local macro_rules
|`('a')=>`((by lia))
|`('b')=>`((model X.prog X.w))
|`('c')=>`((by simp))
|`('d')=>`((by decide +kernel))
local macro_rules
|`(tactic|sleep 0)=>`(tactic|intro pins s Y H x y v u Q I rx ry h)
|`(tactic|sleep 1)=>`(tactic|intro pins s Y H Q I h)
noncomputable section
set_option genInjectivity false in
set_option genSizeOf false in
structure PySem.W.Fast where (tw10728436661972704207 tw17791605523759313760 tw5927415937713983651 tw3707899889729550940 tw220109103346233304 tw16325756869322965186 tw15477517204297320212 tw1738734320678459585 tw15243259371019183240 tw3054175847679618391 tw7249310181050151284 tw13665517897944517795 tw8568748881359228633 tw3710954706352970972 tw4013107011754824329 tw10945073930657308295 tw5224798417354807196 tw12067366090837208830 tw11428425682784923414 tw10555808414714803031 tw13612125055760864389 tw12087195563547833153 tw5942341815467258536 tw12057918823878642186 tw9727024666566048666 tw8406010187487602480 tw15825908783863218417 tw11346569399730610195 tw2726233316018750622 tw13346541256413987257 tw16401867062547026391 tw6778613901312449005 tw5278636941373303330 tw478775502610709468 tw12009540201977133271 tw5515427897890004640 tw16362908054031019013 tw3549233638821186855 tw12197346089189086498
tw17751660374230951668 tw10726047370781800173 tw7966843125832107080 tw5913036668605395577 tw16953975460365481393 tw10414881457009017239 tw11779191408639583456 tw11050856646649121696 tw14593815967363902418 tw7615409277754880040 tw17100308369817977289 tw13806455028306485271 tw5629051354959859829 tw6728637651914094425 tw18244190618761731880 tw17152410578006533324 tw7875098186043047485 tw16081344947490996554 tw4663098257578119232 tw16078267588834994543 tw4790185041209694862 tw17881584814138595991 tw9972244916052706860 tw17766648220548034448 tw5194970511533892305 tw16305140882445211331 tw12631367413978103408 tw13709425014503173650 tw5033657910654571359 tw10630548417790718984 tw116967467685055160 tw10682932940558821516 tw177583103472979043 tw469870982078923050 tw11550159348515217268 tw13591413303058086313 tw229655133059541408 tw3416919176662535505 tw2867394992485192505 tw9328696069225051111
tw2369768984139049881 tw13952117216907279076 tw11030157771757272791 tw1013070520202671881 tw2262606522195944958 tw15041082524925085042 tw10342753317379648401 tw15708417384399831443 tw4680312490739262124 tw12041665220147844490 tw2702195041544711625 tw6818357592118354444 tw6520015260248120081 tw7094698861564074994 tw10869342611568577550 tw16505151551148748542 tw5138775911148415209 tw4373864406744183659 tw9113960203360564404 tw4577096644337708043 tw14102376917866762211 tw13911333136534837388 tw9591014038141429012 tw4933486964950889956 tw15955344812347628720 tw14775334379898042436 tw13073528606930986001 tw13119222339201180065 tw2543857480858520132 tw5741145396997071497 tw3624967455221767838 tw2341294844639229362 tw9815574153483484153 tw16353030218497239541 tw15936780270523972866 tw14401016774013063993 tw2130947012058556564 tw561950667242007712 tw1859807348425828647 tw12318202444642594754
tw2633819606738829621 tw12803561093452432438 tw5452871100752595169 tw9290153216728753631 tw5287940859764597829 tw8050983301335638339 tw16054186751715780494 tw11351150904249290823 tw4051390229686841226 tw3718707597428385647 tw15223174827471771051 tw8977816294505186999 tw7083262013188190381 tw8129032142705183372 tw12436267640265826383 tw15624027286860419069 tw12934679408620996558 tw1929122831362158154 tw13756181271411916014 tw5350921735985210445 tw17556894795163997981 tw9386474699828707856 tw207732229500366534 tw1357202985886332765 tw13497168749160715456 tw9977357932109524391 tw1015072693796218139 tw600070241759626994 tw13477869031728400242 tw11090789760438585055 tw4354553017916090044 tw4341401220759987275 tw8653913339482312231 tw1934524727589174660 tw8627471140408686447 tw10901406954722689236 tw3540591364679152701 tw17799847572566108825 tw8082872504475513661 tw17314464800035734587
tw4001090582489045107 tw1446161176594125394 tw3622726623082806730 tw9842735667508075282 tw12505403071977187519 tw13665845699845762776 tw11171415351819774313 tw17756152421255735740 tw2085532522768812485 tw18337104954473034451 tw8503640226229891303 tw12187255860930752174 tw1098953752974474694 tw2849726725554309151 tw8577480679097769953 tw7851128629923808583 tw202218941683252099 tw14960898218329103542 tw11772378778909899753 tw12966158235346812630 tw17235076105871267240 tw6861790873562077798 tw2840083046301762397 tw15840360678086610859 tw8302663875022179203 tw11450741973681024620 tw6533330476727256204 tw5870809399300120658 tw4783631321276621272 tw7140915294853170603 tw7431516521191314858 tw7260299294733128971 tw4025606673705859890 tw1536109474845388525 tw1329897172138767217 tw9719870765110950417 tw8507901915371856014 tw4045247001219916176 tw2117200412444800515 tw4362514519801393395
tw8770769601827280104 tw9400093456461810288 tw10158909362521950720 tw290664629399340494 tw16376789080721320177 tw1602061626914929270 tw3772446616872348218 tw17765637720759098768 tw1004145063262151130 tw1265124032605998962 tw1146728827231807252 tw15093972801374678353 tw5833282228323002295 tw11700065542160212477 tw9357656634482382833 tw1613066494615872721 tw3264145259346106106 tw14011710395257526630 tw18049726100544416150 tw7986189547884857201 tw4474138747961163338 tw17743426517783581155 tw11282645994291132502 tw8163079063632339440 tw18469615768333032 tw3083147409833540412 tw6375655216845275462 tw12454184386008632064 tw9676946907181149955 tw338024901197088576 tw1357968276349562771 tw3288107338665775185 tw12290088129341583419 tw18164981978779344183 tw8776948096903032800 tw2019759283673357100 tw4881726853862955229 tw11552085797869535511 tw12662977536381185304 tw7373544492492365367
tw2922368696056573811 tw12601634951743699613 tw13664655049242146312 tw15365638139772097020 tw5002054707597487714 tw13664567079604862085 tw8556810624536619247 tw1476161264316401504 tw15741690584799308817 tw9669905210306921883 tw10276556753371246927 tw8335897213534604238 tw1016903989381208134 tw15896782187855572024 tw13276896766616641910 tw954202513738687115 tw13988123110032850508 tw1828086945213038173 tw2385528368681650026 tw7985546997445335490 tw2903755082099446404 tw2465904388089866128 tw7489998621949993225 tw8839533915790251761 tw6505388820449502193 tw2121274214027519531 tw7904778836409877551 tw8763861041124501231 tw15387039381726560273 tw3127031273058677829 tw16173239009174585663 tw7835405690805997724 tw3694009494740880274 tw7567012261554279184 tw1821800694436899304 tw849639733779814280 tw13406771256212818135 tw2023570828872762936 tw8852740388123827095 tw5709066473556108539
tw13274842078029385848 tw3361737886394414734 tw12948090986527225337 tw10320723086541804122 tw5139629992010858348 tw14291203759040723805 tw16007420800087782259 tw10044012993448010920 tw7110608148185979186 tw1655995754180876637 tw12492535728893086739 tw13729055813902366885 tw15078712762680865820 tw14782097985156096476 tw2479686506477936705 tw3292950637415244048 tw8440367809720942179 tw8130797929144449602 tw1611273543411020567 tw2525657729219817056 tw6652670765589836312 tw7619760788717446365 tw1502167176792175235 tw1642937744653593496 tw3597765511596161752 tw16691930609763983959 tw2066163128380363626 tw13699091638615167307 tw412156315452473203 tw15895699366289113161 tw14539082277245169569 tw192403989262706464 tw13455211755106465489 tw2051218213150672282 tw13773448881103065176 tw11617432981941577325 tw15370131596231321135 tw10327667807728624296 tw14036489417531282516 tw16547727621280695418
tw4963101088760591047 tw18331885983214754177 tw1916733722321710546 tw3194468197739874617 tw4430219337516847695 tw17080120670693076304 tw16708751457947344528 tw14697280434168722537 tw12805285550229490568 tw3892232835920896214 tw13952717764938991101 tw17363215562405845603 tw1571478027063110838 tw4589103596758834736 tw13470827549096656421 tw7400077539840891867 tw17583811938009098799 tw9248543248369236724 tw17474872718188267812 tw11621355616198867617 tw69098144332519053 tw15253957389564961829 tw2993037078279915975 tw15266060372192194994 tw3237209020389117015 tw10453467266012312292 tw10574143511931139029 tw5434414891700179574 tw12005841890492659624 tw10343767684797437149 tw17990448259888258559 tw3355841513946903 tw3705981121440227317 tw12426238068561002232 tw17171769585664270620 tw14245279963915352942 tw799490882505972670 tw3796023984408554275 tw13237454306670410777 tw790670415285448839
tw2436560667298654141 tw208841459968869500 tw18294656522259615577 tw5594144654115250481 tw2460012368030064982 tw14077593160149485234 tw15556536772307050955 tw948954207776817406 tw3578409099242058649 tw14060388792420881807 tw17107828812114810161 tw13192906871698961689 tw14100127650477424764 tw7272304522493516096 tw17490311133185145332 tw17721352011828395377 tw2620207639969858713 tw1828141319441194665 tw89630386806951809 tw10763610679149089294 tw16982983053333562746 tw11613579916137510193 tw1400986056168020884 tw14133593930675362099 tw12661157660834825948 tw9171747881205008708 tw6816714306056486782 tw2453105103677073566 tw9400246468516304798 tw7838860632812076055 tw2277624616374217713 tw12828705201505242349 tw15677896186879464117 tw2819736330274195313 tw10512007270306798613 tw11241984380802163747 tw16799892512777218812 tw2321697184126402874 tw12457584553164465082 tw596001379994125806
tw18369163260547811064 tw18030004542512013656 tw5387930433393502718 tw6096368288806080775 tw5267173959176778881 tw14294516991473263358 tw14751464208753994018 tw308532177827138998 tw9205046661211010770 tw5564469739400345949 tw17487869364590599100 tw16195675415205367166 tw11902906953404487297 tw1273934432423690176 tw10160223645884197333 tw1578411374124825775 tw11239694438699701380 tw17867073765196611457 tw3625685103808687826 tw5175136787402038375 tw5991570551924646634 tw12234132946246605567 tw8954201201911794523 tw12993819656178592300 tw2713841730032391084 tw17587395843900456844 tw5622076679467780932 tw16462986883067868196 tw10167723735058295457 tw1314155643899418896 tw1388136293812415515 tw4395897639420532849 tw1750026853233896745 tw15328426893234745442 tw12300151832800767381 tw688107721266644991 tw13072175248876368598 tw15033743724502304012 tw17631048693790219766 tw17003847820576245841
tw11132198630720772543 tw16664796713903811394 tw8118691756212844784 tw11250077210909801161 tw15433787955748978163 tw1094023188078089468 tw17726763713981249784 tw6710023320781417084 tw15791246140238624300 tw9381526748222628622 tw15895771199531965754 tw17769320199438225440 tw11492524044043892622 tw13633177354463564396 tw15456643565367101161 tw4044659574889650812 tw7015723095054783616 tw9079885704409904443 tw1425443886211051106 tw4183591808725492129 tw12433638848116346460 tw3712122362721418265 tw4351662514004706168 tw15858011155665672104 tw12782760252817785754 tw6807467045178221634 tw3284984642881661381 tw3762327509328543196 tw2934999824975400360 tw15648797242253630175 tw14142548925924663623 tw1541277229615287741 tw3436610708434870361 tw5110832109243047188 tw12551598525495012489 tw3918033704214522434 tw5983397631763606630 tw15653192594441138382 tw8473032016279886607 tw11617461973824856984
tw16568597785160390038 tw10926577991223470181 tw1821018381304410015 tw16827358841976966286 tw2139088812492434247 tw12784954208833336565 tw6198126119089660855 tw3366874092164776041 tw10939501266104801636 tw16658162091805610269 tw11046746056367405881 tw5572103525446571011 tw16092141438291912328 tw11667118602189621863 tw15688714235854226750 tw9399077282228441159 tw16448775081798936059 tw18026003044861328797 tw2996033367964601242 tw8800505407080640662 tw9048855905330814371 tw16381686450077851885 tw16063725451515572841 tw11390479724080045865 tw5173360991628892962 tw959162768975569128 tw577493846752359124 tw16604504339650487770 tw1687465364339384412 tw650076329996655706 tw1286128782712698470 tw13420075176996593593 tw16350924947012187952 tw12144706557443261741 tw12574335562400364888 tw4720101974890380630 tw1030166999239677795 tw3955340941423864351 tw645451736516045314 tw14433682086990076304
tw16451267771778789333 tw1117938809607331707 tw3280445879696037401 tw9092672845063099653 tw15525476878560281758 tw14516352295660283284 tw3752218067385476794 tw16533696271784944158 tw3016980337569158429 tw6609325425232875455 tw13759602532900768794 tw16837592477595291867 tw1335079124012807500 tw10948764136490443491 tw15881928532244352263 tw5771686999806739594 tw5076082283322233294 tw16376207086002815078 tw14546944893387038228 tw5310245990541334101 tw10583827263829667091 tw9599005541531347777 tw6749806108884762716 tw6224159327454724548 tw9438259008737837573 tw6246888190070943014 tw5502411429622926683 tw5919612317152678749 tw16230385781900235171 tw2224506416083014119 tw16832392096555260707 tw621585524083301086 tw8702689038582268009 tw17782054805341548773 tw2761912207213380652 tw10350076225778116282 tw9454725389269911525 tw10683782963244071681 tw3722451589487882909 tw8398652729076123212
tw12598738920735650808 tw12060450699678290633 tw11893268011695719452 tw10296402213854056468 tw10233761826929498344 tw10508947198376514450 tw12398921518726773927 tw3518050589561096179 tw17313908392683314397 tw3114799114857727163 tw18231813715308842730 tw7397632141966679457 tw14705783655942565884 tw13509104369582574544:Nat)
namespace L2
open PySem PySem.Spec PyProof.Rows
noncomputable abbrev B3:=Sum Int Str
noncomputable def keyIs:B3->Value->Bool
 | .inl k,v=>Value.isInt k v
 | .inr x,v=>Value.isStrOf x v
noncomputable def keyH (w:World):B3->Int
 | .inl k=>hashInt k
 | .inr x=>hashStr w x
theorem v9:∀ {k:B3} {v:Value},keyIs k v=true->(∃ i t,k=Sum.inl i/\v=Value.int i t)\/(∃ x t,k=Sum.inr x/\v=Value.str x t)
 | .inl i,v,h=>by
  obtain ⟨t,e⟩:=Value.isInt_shape (k:=i) (v:=v) h;exact .inl ⟨i,t,rfl,e⟩
 | .inr x,v,h=>by
  obtain ⟨t,e⟩:=Value.isStrOf_shape (x:=x) (v:=v) h;exact .inr ⟨x,t,rfl,e⟩
theorem ajh(i:Int)(t:Tok):keyIs (.inl i) (.int i t)=true:=by simp [keyIs,Value.isInt]
theorem kD(x:Str)(t:Tok):keyIs (.inr x) (.str x t)=true:=by simp [keyIs,Value.isStrOf]
theorem ao1(a b:Int):decide ((Sum.inl a:B3)=Sum.inl b)=(a==b):=by
 by_cases e:a=b
 .subst e;simp
 .have h:¬ (Sum.inl a:B3)=Sum.inl b:=fun q=>e (Sum.inl.inj q)
  rw [decide_eq_false h];exact (beq_eq_false_iff_ne.mpr e).symm
theorem ao2(a b:Str):decide ((Sum.inr a:B3)=Sum.inr b)=decide (a=b):=by
 by_cases e:a=b
 .subst e;simp
 .have h:¬ (Sum.inr a:B3)=Sum.inr b:=fun q=>e (Sum.inr.inj q)
  rw [decide_eq_false h,decide_eq_false e]
theorem ao3(a:Int)(b:Str):decide ((Sum.inl a:B3)=Sum.inr b)=false:=decide_eq_false (fun q=>nomatch q)
theorem ao4(a:Str)(b:Int):decide ((Sum.inr a:B3)=Sum.inl b)=false:=decide_eq_false (fun q=>nomatch q)
noncomputable def N4 (prog:Program) (w:World):PySem.KeyKind prog w B3 where
 is:=keyIs
 hash:=keyH w
 inj:=fun v a b ha hb=>by
  rcases v9 ha with ⟨i,t,rfl,rfl⟩ | ⟨x,t,rfl,rfl⟩
  .rcases v9 hb with ⟨j,u,rfl,e⟩ | ⟨y,u,rfl,e⟩
   .injection e with e1 _;rw [e1]
   .exact nomatch e
  .rcases v9 hb with ⟨j,u,rfl,e⟩ | ⟨y,u,rfl,e⟩
   .exact nomatch e
   .injection e with e1 _;rw [e1]
 byValue:=fun k v h=>by
  rcases v9 h with ⟨i,t,rfl,rfl⟩ | ⟨x,t,rfl,rfl⟩ <;> rfl
 pyHash:=fun hv h=>by
  rcases v9 hv with ⟨i,t,rfl,rfl⟩ | ⟨x,t,rfl,rfl⟩
  .exact wpAny_pyHash_int h
  .exact wpAny_pyHash_str h
 eqBool:=fun hu hv h=>by
  rcases v9 hu with ⟨i,t,rfl,rfl⟩ | ⟨x,t,rfl,rfl⟩
  .rcases v9 hv with ⟨j,u,rfl,rfl⟩ | ⟨y,u,rfl,rfl⟩
   .rw [ao1] at h;exact wpAny_eqBool_int h
   .rw [ao3] at h;exact SeqAt.EqAt.int_str i t y u _ _ _ _ h
  .rcases v9 hv with ⟨j,u,rfl,rfl⟩ | ⟨y,u,rfl,rfl⟩
   .rw [ao4] at h;exact SeqAt.EqAt.str_int x t j u _ _ _ _ h
   .rw [ao2] at h;exact wpAny_eqBool_str h
 «strs»:=fun k x t v h=>by
  rcases v9 h with ⟨i,u,rfl,e⟩ | ⟨y,u,rfl,e⟩
  .exact nomatch e
  .injection e with e1 _
   subst e1
   cases v <;> rfl
theorem agT(prog:Program)(w:World)(i:Int)(t:Tok):(N4 prog w).is (.inl i) (.int i t)=true:=ajh i t
theorem agU(prog:Program)(w:World)(x:Str)(t:Tok):(N4 prog w).is (.inr x) (.str x t)=true:=kD x t
inductive V where
 | non | bl (b:Bool) | int (i:Int) | str (x:Str) | byt (b:Array UInt8) | flt (b:UInt64) | ref (a:Addr) | ty (n:String)
 deriving DecidableEq
noncomputable def RelV:V->Value->Prop
 | .non,u=>u=Value.none
 | .bl b,u=>u=Value.bool b
 | .int i,u=>∃ t,u=Value.int i t
 | .str x,u=>∃ t,u=Value.str x t
 | .byt b,u=>∃ t,u=Value.bytes b t
 | .flt b,u=>∃ t,u=Value.float b t
 | .ref a,u=>u=Value.ref a
 | .ty n,u=>u=Value.type n
noncomputable abbrev Vals:List V->List Value->Prop:=Paired RelV
theorem Vals.length{xs:List V}{us:List Value}(r:Vals xs us):xs.length=us.length:=Paired.length r
theorem Vals.get:∀ {xs:List V} {us:List Value} {i:Nat} {x:V},Vals xs us->xs[i]?=some x->∃ u,us[i]?=some u/\RelV x u
 | _,_,_,_,.nil,e=>by simp at e
 | _,_,0,_,.cons r _,e=>by simp at e;subst e;exact ⟨_,rfl,r⟩
 | _,_,i+1,x,.cons _ t,e=>by
  obtain ⟨u,h1,h2⟩:=Vals.get (i:=i) (x:=x) t (by simpa using e);exact ⟨u,by simpa using h1,h2⟩
theorem Vals.set{x:V}{u:Value}(r:RelV x u):∀ {xs:List V} {us:List Value} (i:Nat),Vals xs us->Vals (xs.set i x) (us.set i u)
 | _,_,_,.nil=>.nil
 | _,_,0,.cons _ t=>.cons r t
 | _,_,i+1,.cons q t=>.cons q (Vals.set r i t)
theorem Vals.append:∀ {xs ys:List V} {us ws:List Value},Vals xs us->Vals ys ws->Vals (xs++ys) (us++ws)
 | _,_,_,_,.nil,s=>s
 | _,_,_,_,.cons r t,s=>.cons r (Vals.append t s)
theorem Vals.take:∀ {xs:List V} {us:List Value} (n:Nat),Vals xs us->Vals (xs.take n) (us.take n)
 | _,_,0,_=>.nil
 | _,_,_+1,.nil=>.nil
 | _,_,n+1,.cons r t=>.cons r (Vals.take n t)
theorem Vals.drop:∀ {xs:List V} {us:List Value} (n:Nat),Vals xs us->Vals (xs.drop n) (us.drop n)
 | _,_,0,r=>r
 | _,_,_+1,.nil=>.nil
 | _,_,n+1,.cons _ t=>Vals.drop n t
theorem Vals.none_of:∀ {xs:List V} {us:List Value} {i:Nat},Vals xs us->xs[i]?=none->us[i]?=none:=fun {xs us i} r e=>by
 have h1:=r.length;have h2:xs.length<=i:=List.getElem?_eq_none_iff.mp e;exact List.getElem?_eq_none_iff.mpr 'a'
noncomputable def RelO:Option V->Option Value->Prop
 | some v,some u=>RelV v u
 | none,none=>True
 | _,_=>False
noncomputable def KV {κ:Type} : List (κ×V)->List (κ×Value)->Prop:=Paired fun (p:κ×V) (q:κ×Value)=>p.1=q.1/\RelV p.2 q.2
noncomputable def kV:B3->V
 | .inl i=>.int i
 | .inr x=>.str x
inductive HO where
 | lst (xs:List V)
 | tup (xs:List V)
 | dK (kvs:List (B3×V)) | dT (kvs:List (List B3×V))
 | set (S:Int->Bool) (n:Nat)
 | ins (C dx:Addr) (fs:List (Str×V))
 | own (x:Addr)
 | xd (fs:List (Str×V))
 | met (f x:Addr)
 | rng (lo hi:Int)
 | frz (o:Obj) (u:HO)
 | tbl (ps:Array Value)
 | ext (φ:Heap->Prop)
noncomputable abbrev Hp:=Addr->Option HO
noncomputable def A0 (H:Hp) (a:Addr) (o:HO):Hp:=fun b=>if b=a then some o else H b
theorem A3{H:Hp}{a:Addr}{o:HO} : A0 H a o a=some o:=by unfold A0;rw [if_pos rfl]
theorem A7{H:Hp}{a b:Addr}{o:HO}(h:b≠a):A0 H a o b=H b:=by unfold A0;rw [if_neg h]
theorem ne_of{H:Hp}{a b:Addr}{o u:HO}(h:H a=some o)(h':H b=some u)(d:o≠u):a≠b:=by
 intro e;subst e;rw [h] at h';exact d (Option.some.inj h')
theorem w6{H:Hp}{a b:Addr}{o:HO}(h:H a=some o)(h':H b=none):a≠b:=by
 intro e;subst e;rw [h] at h';cases h'
section
variable (P:Program) (w:World)
noncomputable def ObjOk (H:Hp) (h:Heap) (a:Addr):HO->Prop
 | .lst xs=>xs.length<=sizeLine/\∃ (its:List Value) (n:Nat),Vals xs its/\h.get? a=some { cls:=.type "list",data:=.seq its.toArray n }
 | .tup xs=>xs.length<=sizeLine/\∃ its:List Value,Vals xs its/\IsTup h a its.toArray
 | .dK kvs=>kvs.length<=sizeLine/\(a==sysModules)=false/\∃ vs,KV kvs vs/\h.DictOf (N4 P w) a vs
 | .dT kvs=>kvs.length<=sizeLine/\(a==sysModules)=false/\∃ xs:List (List B3×Addr×Value),
   Paired (fun (p:List B3×V) (q:List B3×Addr×Value)=>p.1=q.1/\H q.2.1=some (.tup (p.1.map kV))/\RelV p.2 q.2.2) kvs xs/\
   ∃ o es ep,h.get? a=some o/\o.ExactDict/\o.data=.dict es ep/\es.toList=xs.map (entryOfKey (tupleKind (N4 P w)))/\(xs.map (·.1)).Nodup
 | .set S n=>h.SetOf (intKind P w) a S n
 | .ins C dx fs=>H dx=some (.own a)/\fs.length<=1000/\dx≠a/\h.get? a=some (eJ C dx)/\
   ∃ mA,h.Ns1 dx mA/\(∀ f,RelO (fs.lookup f) (mA f))/\PySem.Within mA (fs.map (·.1))
 | .own _=>∃ o,h.get? a=some o
 | .xd fs=>∃ mA,h.Ns1 a mA/\∀ f,RelO (fs.lookup f) (mA f)
 | .rng lo hi=>∃ t u v,h.get? a=some { cls:=.type "range",data:=.fields #[.int lo t,.int hi u,.int 1 v] }
 | .frz o u=>h.get? a=some o/\ObjOk H h a u
 | .tbl ps=>h.get? a=some { cls:=.none,data:=.fields ps }
 | .met f x=>h.get? a=some (PySem.W.methodObj (.ref f) (.ref x))
 | .ext φ=>φ h/\(∃ o,h.get? a=some o)/\∀ h1 h2:Heap,φ h1->(∀ o,h1.get? a=some o->h2.get? a=some o)->φ h2
noncomputable def N6 (H:Hp) (h:Heap):Prop:=∀ a o,H a=some o->ObjOk P w H h a o
end
section
variable {P:Program} {w:World} {H H':Hp} {h h':Heap} {a:Addr} {o:HO}
theorem ObjOk.lt(x:ObjOk P w H h a o):a<h.objs.size:=by
 cases o with
 | lst xs=>obtain ⟨_,_,_,_,e⟩:=x;exact Heap.lt_size e
 | tup xs=>obtain ⟨_,_,_,p⟩:=x;exact p.lt
 | dK kvs=>obtain ⟨_,_,_,_,o,_,_,e,_⟩:=x;exact Heap.lt_size e
 | dT kvs=>obtain ⟨_,_,_,_,o,_,_,e,_⟩:=x;exact Heap.lt_size e
 | set S n=>obtain ⟨o,_,_,_,e,_⟩:=x;exact Heap.lt_size e
 | ins C dx fs=>obtain ⟨_,_,_,e,_⟩:=x;exact Heap.lt_size e
 | own y=>obtain ⟨_,e⟩:=x;exact Heap.lt_size e
 | xd fs=>obtain ⟨_,⟨_,_,_,e,_⟩,_⟩:=x;exact Heap.lt_size e
 | rng lo hi=>obtain ⟨_,_,_,e⟩:=x;exact Heap.lt_size e
 | frz ob u=>obtain ⟨e,_⟩:=x;exact Heap.lt_size e
 | tbl ps=>exact Heap.lt_size (show h.get? a=some _ from x)
 | met f y=>exact Heap.lt_size (show h.get? a=some _ from x)
 | ext φ=>obtain ⟨_,⟨_,e⟩,_⟩:=x;exact Heap.lt_size e
theorem O6{α β:Type}{F G:α->β->Prop} : ∀ {l₁:List α} {l₂:List β},Paired F l₁ l₂->(∀ a b,F a b->G a b)->Paired G l₁ l₂
 | _,_,.nil,_=>.nil
 | _,_,.cons r t,f=>.cons (f _ _ r) (O6 t f)
theorem ObjOk.stay(x:ObjOk P w H h a o)(k:∀ b u,(b=a\/H b=some (.own a))->h.get? b=some u->h'.get? b=some u)(ho:∀ b,H b=some (.own a)->H' b=some (.own a))(ht:∀ b xs,H b=some (.tup xs)->H' b=some (.tup xs)):ObjOk P w H' h' a o:=by
 induction o with
 | lst xs=>obtain ⟨z,its,n,r,e⟩:=x;exact ⟨z,its,n,r,k _ _ (.inl rfl) e⟩
 | tup xs=>obtain ⟨z,its,r,ob,e,c⟩:=x;exact ⟨z,its,r,ob,k _ _ (.inl rfl) e,c⟩
 | dK kvs=>obtain ⟨z,y,vs,r,ob,es,ep,e,c⟩:=x;exact ⟨z,y,vs,r,ob,es,ep,k _ _ (.inl rfl) e,c⟩
 | dT kvs=>
  obtain ⟨z,y,xs,r,ob,es,ep,e,c⟩:=x;exact ⟨z,y,xs,O6 r fun p q z=>⟨z.1,ht _ _ z.2.1,z.2.2⟩,ob,es,ep,k _ _ (.inl rfl) e,c⟩
 | set S n=>obtain ⟨ob,es,ep,t,e,c⟩:=x;exact ⟨ob,es,ep,t,k _ _ (.inl rfl) e,c⟩
 | ins C dx fs=>
  obtain ⟨d,z,ne,e,mA,⟨od,es,ep,e2,c⟩,r⟩:=x;exact ⟨ho _ d,z,ne,k _ _ (.inl rfl) e,mA,⟨od,es,ep,k _ _ (.inr d) e2,c⟩,r⟩
 | own y=>obtain ⟨ob,e⟩:=x;exact ⟨ob,k _ _ (.inl rfl) e⟩
 | xd fs=>obtain ⟨mA,⟨od,es,ep,e,c⟩,r⟩:=x;exact ⟨mA,⟨od,es,ep,k _ _ (.inl rfl) e,c⟩,r⟩
 | rng lo hi=>obtain ⟨t,u,v,e⟩:=x;exact ⟨t,u,v,k _ _ (.inl rfl) e⟩
 | frz ob u ih=>obtain ⟨e,q⟩:=x;exact ⟨k _ _ (.inl rfl) e,ih q⟩
 | tbl ps=>
  have e:h.get? a=some { cls:=.none,data:=.fields ps }:=x;show h'.get? a=some { cls:=.none,data:=.fields ps };exact k a _ (.inl rfl) e
 | met f y=>
  have e:h.get? a=some (PySem.W.methodObj (.ref f) (.ref y)):=x;show h'.get? a=some (PySem.W.methodObj (.ref f) (.ref y));exact k a _ (.inl rfl) e
 | ext φ=>obtain ⟨p,⟨o,e⟩,st⟩:=x;exact ⟨st _ _ p fun o q=>k _ _ (.inl rfl) q,⟨o,k _ _ (.inl rfl) e⟩,st⟩
theorem N6.lt(x:N6 P w H h)(e:H a=some o):a<h.objs.size:=(x a o e).lt
theorem N6.fresh(x:N6 P w H h)(e:h.objs.size<=a):H a=none:=by
 cases q:H a with
 | none=>rfl
 | some u=>exact absurd (W2 (x.lt q) e) (f7 _)
theorem N6.kept(x:N6 P w H h)(k:∀ b u,h.get? b=some u->h'.get? b=some u):N6 P w H h':=fun a o e=>
 (x a o e).stay (fun b u _ q=>k b u q) (fun _ q=>q) fun _ _ q=>q
theorem N6.laid(x:N6 P w H h)(k:∀ b u,h.get? b=some u->h'.get? b=some u)(hp:h.objs.size<=a)(new:ObjOk P w (A0 H a o) h' a o):N6 P w (A0 H a o) h':=fun b u e=>by
 have hn:=x.fresh hp
 by_cases hb:b=a
 .subst hb;rw [A3] at e;cases e;exact new
 .rw [A7 hb] at e;exact (x b u e).stay (fun c v _ q=>k c v q) (fun c q=>by rw [A7 (w6 q hn)];exact q) fun c xs q=>by rw [A7 (w6 q hn)];exact q
end
noncomputable def Rd (H:Hp) (a:Addr) (u:HO):Prop:=H a=some u\/∃ o,H a=some (.frz o u)
theorem Rd.of{H:Hp}{a:Addr}{u:HO}(h:H a=some u):Rd H a u:=.inl h
theorem Rd.ok{P:Program}{w:World}{H:Hp}{h:Heap}{a:Addr}{u:HO}(r:Rd H a u)(x:N6 P w H h):ObjOk P w H h a u:=by
 rcases r with r | ⟨o,r⟩
 .exact x a u r
 .obtain ⟨_,q⟩:=x a _ r;exact q
noncomputable def nH:Option HO->Prop
 | some (.lst _)=>True
 | some (.dK _)=>True
 | some (.dT _)=>True
 | some (.set _ _)=>True
 | some (.ins _ _ _)=>True
 | some (.ext _)=>True
 | _=>False
section
variable {P:Program} {w:World} {H:Hp} {h h':Heap} {x e:Addr} {o':HO}
theorem N6.write(ok:N6 P w H h)(mu:nH (H x))(he:e=x\/H e=some (.own x))(k:∀ b u,b≠e->h.get? b=some u->h'.get? b=some u)(lY:∃ u,h'.get? e=some u)(new:ObjOk P w (A0 H x o') h' x o'):N6 P w (A0 H x o') h':=fun b u q=>by
 have nown:∀ c y,H c=some (.own y)->c≠x:=fun c y r z=>by subst z;rw [r] at mu;exact mu
 have ntup:∀ c xs,H c=some (.tup xs)->c≠x:=fun c xs r z=>by subst z;rw [r] at mu;exact mu
 by_cases hb:b=x
 .subst hb;rw [A3] at q;cases q;exact new
 .rw [A7 hb] at q
  by_cases iO:b=e
  .have q':H b=some (.own x):=by
    rcases he with z | z
    .exact absurd (iO.trans z) hb
    .rw [iO];exact z
   rw [q] at q';cases q';obtain ⟨v,hv⟩:=lY;exact ⟨v,by rw [iO];exact hv⟩
  .refine (ok b u q).stay (fun c v hc r=>k c v ?_ r) (fun c r=>by rw [A7 (nown c b r)];exact r) fun c xs r=>by rw [A7 (ntup c xs r)];exact r
   rcases hc with rfl | hc
   .exact iO
   .rintro rfl
    rcases he with z | z
    .exact nown c b hc z
    .rw [hc] at z;cases z;exact hb rfl
end
structure Un(fs ex:List Addr)(H H':Hp)(h h':Heap):Prop where
 keep:∀ b o,h.get? b=some o->H b=none->b∉fs->b∉ex->h'.get? b=some o
 slot:∀ b o,h.get? b=some o->H b=none->b∈fs->b∉ex->∃ sl,h'.get? b=some { o with slots:=sl }
 free:∀ b o,h.get? b=some o->H b=none->b∉ex->H' b=none
 there:∀ b o,h.get? b=some o->b∉ex->∃ o',h'.get? b=some o'
 tups:∀ b xs,H b=some (.tup xs)->H' b=some (.tup xs)
 frzs:∀ b o u,H b=some (.frz o u)->H' b=some (.frz o u)
 tbls:∀ b ps,H b=some (.tbl ps)->∃ more,H' b=some (.tbl (ps++more))
section
variable {fs fs' ex ex':List Addr} {H H1 H2:Hp} {h h1 h2 h':Heap} {a x e:Addr} {o:HO}
theorem Un.any(u:Un fs ex H H1 h h1){b:Addr}{ob:Obj}(q:h.get? b=some ob)(n:H b=none)(hx:b∉ex):∃ sl,h1.get? b=some { ob with slots:=sl }:=by
 by_cases hb:b∈fs
 .exact u.slot b ob q n hb hx
 .exact ⟨ob.slots,u.keep b ob q n hb hx⟩
theorem Un.kept(k:∀ b u,h.get? b=some u->h'.get? b=some u):Un fs ex H H h h':=
 ⟨fun b ob q _ _ _=>k b ob q,fun b ob q _ _ _=>⟨ob.slots,k b ob q⟩,fun _ _ _ n _=>n,fun b ob q _=>⟨ob,k b ob q⟩,fun _ _ q=>q,fun _ _ _ q=>q,fun _ ps q=>⟨#[],by rw [q];simp⟩⟩
theorem uag:Un fs ex H H h h:=Un.kept fun _ _ q=>q
theorem Un.laid(k:∀ b u,h.get? b=some u->h'.get? b=some u)(hp:h.objs.size<=a)(hn:H a=none):Un fs ex H (A0 H a o) h h' where
 keep:=fun b u q _ _ _=>k b u q
 slot:=fun b u q _ _ _=>⟨u.slots,k b u q⟩
 free:=fun b u q n _=>by rw [A7 (M4 (W2 (Heap.lt_size q) hp))];exact n
 there:=fun b u q _=>⟨u,k b u q⟩
 tups:=fun b xs q=>by rw [A7 (w6 q hn)];exact q
 frzs:=fun b u xs q=>by rw [A7 (w6 q hn)];exact q
 tbls:=fun b ps q=>⟨#[],by rw [A7 (w6 q hn),q];simp⟩
theorem Un.write(mu:nH (H x))(he:e=x\/H e=some (.own x))(k:∀ b u,b≠e->h.get? b=some u->h'.get? b=some u)(lY:∃ u,h'.get? e=some u):Un fs ex H (A0 H x o) h h':=by
 have hx:∀ b,H b=none->b≠x:=fun b n z=>by subst z;rw [n] at mu;exact mu
 have hb:∀ b,H b=none->b≠e:=fun b n z=>by
  subst z
  rcases he with r | r
  .exact hx b n r
  .rw [n] at r;cases r
 have hm:∀ b u,H b=some u->¬ nH (some u)->b≠x:=fun b u q nm z=>by subst z;rw [q] at mu;exact nm mu
 refine ⟨fun b u q n _ _=>k b u (hb b n) q,fun b u q n _ _=>⟨u.slots,k b u (hb b n) q⟩,fun b u q n _=>by rw [A7 (hx b n)];exact n,fun b u q _=>?_,
  fun b xs q=>by rw [A7 (hm b _ q fun z=>z)];exact q,fun b u xs q=>by rw [A7 (hm b _ q fun z=>z)];exact q,fun b ps q=>⟨#[],by rw [A7 (hm b _ q fun z=>z),q];simp⟩⟩
 by_cases iO:b=e
 .subst iO;exact lY
 .exact ⟨u,k b u iO q⟩
end
noncomputable def qZ (h:Heap) (H:Hp):List Addr:=(U8 h.objs.size).filter fun a=>(H a).isSome
noncomputable def hidT (h:Heap) (H:Hp):Heap:=PySem.W.hideAll h (qZ h H)
theorem aji(h:Heap)(H:Hp):(hidT h H).objs.size=h.objs.size:=PySem.W.hideAll_size _ _
theorem alf{h:Heap}{H:Hp}{b:Addr}{o:Obj}(e:h.get? b=some o)(n:H b=none):(hidT h H).get? b=some o:=
 PySem.W.hideAll_get _ e fun hm=>by
  have q:(H b).isSome=true:=(Y6.mp hm).2;rw [n] at q;simp at q
theorem anm{h:Heap}{H:Hp}{b:Addr}{o:Obj}(e:(hidT h H).get? b=some o):h.get? b=some o/\H b=none:=by
 have e':h.get? b=some o:=PySem.W.of_hideAll (qZ h H) e;refine ⟨e',?_⟩
 cases q:H b with
 | none=>rfl
 | some x=>
  have hm:b∈qZ h H:=Y6.mpr ⟨k6.mpr (Heap.lt_size e'),by simp [q]⟩;have z:(hidT h H).get? b=none:=PySem.W.hideAll_none (qZ h H) hm;rw [z] at e;cases e
noncomputable def ann (g h:Heap) (L:Addr):List (Addr×Obj):=(U8 h.objs.size).filterMap fun a=>if a=L\/(g.get? a).isSome=true then none else (h.get? a).map fun o=>(a,o)
noncomputable def rest (g h:Heap) (L d:Addr):List (Addr×Obj):=(ann g h L).filter fun p=>decide (p.1≠d)
structure Mod(K:PySem.W.Frag)(mg:Str->Option Value)(base:Heap):Prop where
 kin:K.In base
 glob:base.Ns mainGlobals mg
 blt:∃ mb,base.Ns builtinsNs mb/\∀ x:Str,x≠"__name__"->mb x=bootBuiltins x
 nolimit:base.NoLimit
structure Cx where
 prog:Program
 w:World
 K:PySem.W.Frag
 mg:Str->Option Value
 base:Heap
 A:Around
 N:List Str
 s₀:Shared
 H₀:Hp
 env:Env
 outer:List Env
 stack:List Env
 ex:List Addr
 fn:Str->Bool
 calm:Bool
 pn:List (Addr×Obj)
 xe:Value->Shared->Prop
noncomputable def w8 (l:List Env):List Addr:=l.filterMap (·.frame)
noncomputable abbrev Cx.fs (X:Cx):List Addr:=w8 X.outer
noncomputable def nI (sc:Scope) (x:Str):Prop:=sc.names.lookup x=some .local\/sc.names.lookup x=some .cell\/sc.names.lookup x=some .free
noncomputable def x0 (sc:Scope) (x:Str):Prop:=sc.names.lookup x=some .local\/sc.names.lookup x=some .cell
noncomputable def Look (env:Env) (h:Heap) (m:Str->Option Value) (x:Str) (u:Value):Prop:=
 (env.kindOf x=some .local/\m x=some u)\/((env.kindOf x=some .cell\/env.kindOf x=some .free)/\∃ c,env.cells.lookup x=some c/\h.IsCell c (some u))
structure Cx.Ok(X:Cx):Prop where
 mod:Mod X.K X.mg X.base
 kind:X.env.scope.kind=.function
 glob:X.env.globals=mainGlobals
 blt:X.env.builtins=builtinsNs
 above:X.s₀.heap.objs.size<=X.env.locals
 inj:∀ x y c,X.env.cells.lookup x=some c->X.env.cells.lookup y=some c->x=y
 has:∀ x,(X.env.kindOf x=some .cell\/X.env.kindOf x=some .free)->∃ c,X.env.cells.lookup x=some c
 cab:∀ x c,X.fn x=true->X.env.cells.lookup x=some c->X.s₀.heap.objs.size<=c
 hd:X.calm=true->X.A.handled=none
 frames:X.A.frames=some X.stack
 stk:X.stack=X.outer\/(X.stack=X.env::X.outer/\X.env.frame=some X.env.locals)
 exf:∀ b∈X.ex,b≠X.env.locals/\∀ x c,X.env.cells.lookup x=some c->c≠b
 bs:∀ b o,X.base.get? b=some o->X.s₀.heap.get? b=some o/\X.H₀ b=none
 bsz:X.base.objs.size<=X.s₀.heap.objs.size
 noex:∀ b o,X.base.get? b=some o->b∉X.ex
 exfs:∀ b∈X.ex,b∉X.fs
 funs:X.s₀.heap.FunFrames X.base X.outer
 frf:∀ b∈X.fs,X.H₀ b=none
structure Inv(X:Cx)(pins:List (Addr×Obj))(Y:List (Option V))(H:Hp)(s:Shared):Prop where
 ok:X.Ok
 os:s.os=X.s₀.os
 bare:AllBare s.gens
 base:Un X.fs X.ex X.H₀ H X.s₀.heap s.heap
 loc:∃ m,s.heap.Ns X.env.locals m/\∀ (i:Nat) (x:Str) (v:V),X.N[i]?=some x->Y[i]?=some (some v)->nI X.env.scope x->∃ u,RelV v u/\Look X.env s.heap m x u
 cell:∀ x c,X.env.cells.lookup x=some c->∃ v,s.heap.IsCell c v
 free:H X.env.locals=none
 freeC:∀ x c,X.env.cells.lookup x=some c->H c=none
 pin:∀ p∈X.pn++pins,s.heap.get? p.1=some p.2/\H p.1=none/\p.1≠X.env.locals/\p.1∉X.fs/\∀ v,p.2.data≠.cell v
 hok:N6 X.prog X.w H s.heap
 len:Y.length=X.N.length
section
variable {X:Cx} {pins:List (Addr×Obj)} {Y:List (Option V)} {H H':Hp} {s:Shared} {h':Heap}
theorem Cx.Ok.nofr(ok:X.Ok){b:Addr}{o:Obj}(e:X.base.get? b=some o):b∉X.fs:=fun hb=>by
 have:=(ok.funs.mem hb).1
 rw [e] at this;cases this
theorem Inv.bs(I:Inv X pins Y H s):∀ b o,X.base.get? b=some o->s.heap.get? b=some o/\H b=none:=fun b o e=>
 ⟨I.base.keep b o (I.ok.bs b o e).1 (I.ok.bs b o e).2 (I.ok.nofr e) (I.ok.noex b o e),I.base.free b o (I.ok.bs b o e).1 (I.ok.bs b o e).2 (I.ok.noex b o e)⟩
theorem Inv.bk(I:Inv X pins Y H s):∀ b o,X.base.get? b=some o->s.heap.get? b=some o:=fun b o e=>(I.bs b o e).1
theorem Inv.mod(I:Inv X pins Y H s):Mod X.K X.mg X.base:=I.ok.mod
theorem Inv.kIn(I:Inv X pins Y H s):X.K.In s.heap:=I.ok.mod.kin.keeps I.bk
theorem Inv.lt(I:Inv X pins Y H s):X.env.locals<s.heap.objs.size:=let ⟨_,hn,_⟩:=I.loc;hn.lt
theorem Inv.sz(I:Inv X pins Y H s):X.s₀.heap.objs.size<=s.heap.objs.size:=N5 I.ok.above (Nat.le_of_lt I.lt)
theorem Inv.nofs(I:Inv X pins Y H s){a:Addr}(h:s.heap.objs.size<=a):a∉X.fs:=fun hb=>by
 obtain ⟨_,o,ho,_⟩:=I.ok.funs.mem hb;exact absurd (W2 (Heap.lt_size ho) (N5 I.sz h)) (f7 _)
theorem Inv.cne(I:Inv X pins Y H s):∀ x c,X.env.cells.lookup x=some c->c≠X.env.locals:=fun x c e z=>by
 obtain ⟨v,o,ho,hd⟩:=I.cell x c e;obtain ⟨m,⟨o',es,ep,X9,iP,_⟩,_⟩:=I.loc;rw [z,X9] at ho;cases ho;rw [iP] at hd;cases hd
theorem Inv.funs(I:Inv X pins Y H s):s.heap.FunFrames X.base X.outer:=by
 have all:∀ (l:List Env),(∀ b∈w8 l,b∈X.fs)->X.s₀.heap.FunFrames X.base l->s.heap.FunFrames X.base l:=by
  intro l
  induction l with
  | nil=>intro _ _;trivial
  | cons env r ih=>
   intro hs hl;obtain ⟨hk,⟨L,o,hf,hn,ho,hd⟩,hr⟩:=hl;have hL:L∈X.fs:=hs L (by unfold w8;rw [bZ,hf];exact M7);obtain ⟨sl,e⟩:=I.base.slot L o ho (I.ok.frf L hL) hL fun z=>I.ok.exfs L z hL
   exact ⟨hk,⟨L,_,hf,hn,e,hd⟩,ih (fun b hb=>hs b (by unfold w8;rw [bZ,hf];exact O5 _ hb)) hr⟩
 exact all X.outer (fun _ hb=>hb) I.ok.funs
theorem Inv.stack(I:Inv X pins Y H s):s.heap.FunFrames X.base X.stack:=by
 rcases I.ok.stk with e | ⟨e,hf⟩
 .rw [e];exact I.funs
 .rw [e];obtain ⟨m,hn,_⟩:=I.loc;refine .cons (by rw [I.ok.kind];decide) hf hn ?_ I.funs;exact Heap.get?_none_of_le (N5 I.ok.bsz I.ok.above)
theorem Inv.stkSub(I:Inv X pins Y H s):∀ b∈w8 X.stack,b∈X.env.locals::X.fs:=fun b hb=>by
 rcases I.ok.stk with e | ⟨e,hf⟩
 .rw [e] at hb;exact O5 _ hb
 .rw [e] at hb;unfold w8 at hb;rw [bZ,hf] at hb;exact hb
theorem Inv.stkFree(I:Inv X pins Y H s):∀ b∈w8 X.stack,H b=none:=fun b hb=>by
 rcases L4.mp (I.stkSub b hb) with e | hb
 .rw [e];exact I.free
 .obtain ⟨_,o,ho,_⟩:=I.ok.funs.mem hb;exact I.base.free b o ho (I.ok.frf b hb) fun z=>I.ok.exfs b z hb
theorem Inv.step{g':Array GenState}{t':Nat}{d':Drawn}{ch:List Addr}(I:Inv X pins Y H s)(bL:∀ b∈ch,(b∈X.ex\/X.s₀.heap.objs.size<=b)/\b≠X.env.locals/\(∀ x c,X.env.cells.lookup x=some c->c≠b)/\∀ p∈X.pn++pins,p.1≠b)(keep:∀ b o,b≠X.env.locals->b∉X.fs->b∉ch->s.heap.get? b=some o->H b=none->h'.get? b=some o)(slot:∀ b o,b≠X.env.locals->b∈X.fs->b∉ch->s.heap.get? b=some o->H b=none->∃ sl,h'.get? b=some { o with slots:=sl })(free:∀ b o,b∉ch->s.heap.get? b=some o->H b=none->H' b=none)(there:∀ b o,b∉ch->s.heap.get? b=some o->∃ o',h'.get? b=some o')(tups:∀ b xs,H b=some (.tup xs)->H' b=some (.tup xs))(frzs:∀ b o u,H b=some (.frz o u)->H' b=some (.frz o u))(tbls:∀ b ps,H b=some (.tbl ps)->∃ more,H' b=some (.tbl (ps++more)))(ns:∀ m,s.heap.Ns X.env.locals m->h'.Ns X.env.locals m)(hok:N6 X.prog X.w H' h')(hg:AllBare g') :
  Inv X pins Y H' { s with heap:=h',gens:=g',drawn:=d',toks:=t' }:=by
 have neL:∀ b o,X.s₀.heap.get? b=some o->b≠X.env.locals:=fun b o e=>M4 (W2 (Heap.lt_size e) I.ok.above)
 have neC:∀ b o,X.s₀.heap.get? b=some o->b∉X.ex->b∉ch:=fun b o e hx hb=>by
  rcases (bL b hb).1 with z | z
  .exact hx z
  .exact absurd (W2 (Heap.lt_size e) z) (f7 _)
 have cellK:∀ x c,X.env.cells.lookup x=some c->∀ v,s.heap.IsCell c v->h'.IsCell c v:=fun x c e v ⟨o,ho,hd⟩=>by
  have nch:c∉ch:=fun z=>(bL c z).2.2.1 x c e rfl
  by_cases hc:c∈X.fs
  .obtain ⟨sl,q⟩:=slot c o (I.cne x c e) hc nch ho (I.freeC x c e);exact ⟨_,q,hd⟩
  .exact ⟨o,keep c o (I.cne x c e) hc nch ho (I.freeC x c e),hd⟩
 refine ⟨I.ok,I.os,hg,⟨fun b o e n hb hx=>?_,fun b o e n hb hx=>?_,fun b o e n hx=>?_,fun b o e hx=>?_,fun b xs e=>tups b xs (I.base.tups b xs e),fun b o xs e=>frzs b o xs (I.base.frzs b o xs e),fun b ps e=>?_⟩,?_,fun x c e=>?_,?_,fun x c e=>?_,fun p hp=>?_,hok,I.len⟩
 .exact keep b o (neL b o e) hb (neC b o e hx) (I.base.keep b o e n hb hx) (I.base.free b o e n hx)
 .obtain ⟨sl,e1⟩:=I.base.slot b o e n hb hx;obtain ⟨sl',e2⟩:=slot b _ (neL b o e) hb (neC b o e hx) e1 (I.base.free b o e n hx);exact ⟨sl',e2⟩
 .obtain ⟨o',e1⟩:=I.base.there b o e hx;exact free b o' (neC b o e hx) e1 (I.base.free b o e n hx)
 .obtain ⟨o',e1⟩:=I.base.there b o e hx;exact there b o' (neC b o e hx) e1
 .obtain ⟨m1,e1⟩:=I.base.tbls b ps e;obtain ⟨m2,e2⟩:=tbls b _ e1;exact ⟨m1++m2,by rw [e2,Array.append_assoc]⟩
 .obtain ⟨m,hn,hl⟩:=I.loc;refine ⟨m,ns m hn,fun i x v e1 e2 e3=>?_⟩;obtain ⟨u,r,l⟩:=hl i x v e1 e2 e3;refine ⟨u,r,?_⟩
  rcases l with l | ⟨k,c,e,z⟩
  .exact .inl l
  .exact .inr ⟨k,c,e,cellK x c e _ z⟩
 .obtain ⟨v,z⟩:=I.cell x c e;exact ⟨v,cellK x c e v z⟩
 .obtain ⟨m,⟨o,_,_,ho,_⟩,_⟩:=I.loc;exact free _ o (fun z=>(bL _ z).2.1 rfl) ho I.free
 .obtain ⟨v,o,ho,hd⟩:=I.cell x c e;exact free c o (fun z=>(bL c z).2.2.1 x c e rfl) ho (I.freeC x c e)
 .obtain ⟨e,n,ne,nf,d⟩:=I.pin p hp;have nch:p.1∉ch:=fun z=>(bL p.1 z).2.2.2 p hp rfl
  exact ⟨keep p.1 p.2 ne nf nch e n,free p.1 p.2 nch e n,ne,nf,d⟩
theorem Inv.un{t':Nat}(I:Inv X pins Y H s)(u:Un X.fs [] H H' s.heap h')(hok:N6 X.prog X.w H' h'):Inv X pins Y H' { s with heap:=h',toks:=t' }:=by
 obtain ⟨m,⟨o,es,ep,ho,r⟩,_⟩:=id I.loc;obtain ⟨sl,hL⟩:=u.any ho I.free 'c';exact I.step (g':=s.gens) (d':=s.drawn) (ch:=[]) (fun _ z=>nomatch z) (fun b o _ hb _ e n=>u.keep b o e n hb 'c') (fun b o _ hb _ e n=>u.slot b o e n hb 'c') (fun b o _ e n=>u.free b o e n 'c') (fun b o _ e=>u.there b o e 'c') u.tups u.frzs u.tbls (fun m' hm=>by
  obtain ⟨o',es',ep',X9,r'⟩:=hm;rw [ho] at X9;cases X9;exact ⟨_,es',ep',hL,r'⟩) hok I.bare
theorem Inv.call{g':Array GenState}{t':Nat}{d':Drawn}{ch:List Addr}(I:Inv X pins Y H s)(u:Un (w8 X.stack) ch H H' s.heap h')(hok:N6 X.prog X.w H' h')(hg:AllBare g')(bL:∀ b∈ch,(b∈X.ex\/X.s₀.heap.objs.size<=b)/\b≠X.env.locals/\(∀ x c,X.env.cells.lookup x=some c->c≠b)/\∀ p∈X.pn++pins,p.1≠b) :
  Inv X pins Y H' { s with heap:=h',gens:=g',drawn:=d',toks:=t' }:=by
 obtain ⟨m,⟨o,es,ep,ho,r⟩,_⟩:=id I.loc;obtain ⟨sl,hL⟩:=u.any ho I.free fun z=>(bL _ z).2.1 rfl
 exact I.step (ch:=ch) bL (fun b o hL hb hc e n=>u.keep b o e n (fun z=>(L4.mp (I.stkSub b z)).elim hL hb) hc) (fun b o _ _ hc e n=>u.any e n hc) (fun b o hc e n=>u.free b o e n hc) (fun b o hc e=>u.there b o e hc) u.tups u.frzs u.tbls (fun m' hm=>by
  obtain ⟨o',es',ep',X9,r'⟩:=hm;rw [ho] at X9;cases X9;exact ⟨_,es',ep',hL,r'⟩) hok hg
theorem Inv.turned{t':Nat}{it:Addr}(I:Inv X pins Y H s)(k:∀ b o,b≠it->s.heap.get? b=some o->h'.get? b=some o)(hn:H it=none)(hL:it≠X.env.locals)(h1:it∈X.ex\/X.s₀.heap.objs.size<=it)(h2:∀ x c,X.env.cells.lookup x=some c->c≠it)(h3:∀ p∈X.pn++pins,p.1≠it):Inv X pins Y H { s with heap:=h',toks:=t' }:=by
 have nit:∀ b u,H b=some u->b≠it:=fun b u e z=>by rw [z,hn] at e;cases e
 refine I.step (g':=s.gens) (d':=s.drawn) (ch:=[it]) (fun b hb=>?_) (fun b o _ _ hc e _=>k b o (fun z=>hc (by simp [z])) e) (fun b o _ _ hc e _=>⟨o.slots,k b o (fun z=>hc (by simp [z])) e⟩) (fun _ _ _ _ n=>n)
  (fun b o hc e=>⟨o,k b o (fun z=>hc (by simp [z])) e⟩) (fun _ _ e=>e) (fun _ _ _ e=>e) (fun b ps e=>⟨#[],by rw [e];simp⟩) (fun m hm=>?_) (fun b u e=>?_) I.bare
 .have e:b=it:=by simpa using hb
  subst e;exact ⟨h1,hL,h2,h3⟩
 .obtain ⟨o,es,ep,ho,r⟩:=hm;exact ⟨o,es,ep,k _ o (Ne.symm hL) ho,r⟩
 .refine (I.hok b u e).stay (fun c v hc q=>k c v ?_ q) (fun _ q=>q) fun _ _ q=>q
  rcases hc with z | z
  .rw [z];exact nit b u e
  .exact nit c _ z
theorem Inv.tok(I:Inv X pins Y H s)(t:Nat):Inv X pins Y H { s with toks:=t }:=I.un (h':=s.heap) (t':=t) uag I.hok
theorem Inv.kept{t':Nat}(I:Inv X pins Y H s)(k:∀ b u,s.heap.get? b=some u->h'.get? b=some u):Inv X pins Y H { s with heap:=h',toks:=t' }:=I.un (Un.kept k) (I.hok.kept k)
theorem Inv.laid{a:Addr}{o:HO}{t':Nat}(I:Inv X pins Y H s)(k:∀ b u,s.heap.get? b=some u->h'.get? b=some u)(hp:s.heap.objs.size<=a)(new:ObjOk X.prog X.w (A0 H a o) h' a o) :
  Inv X pins Y (A0 H a o) { s with heap:=h',toks:=t' }:=I.un (Un.laid k hp (I.hok.fresh hp)) (I.hok.laid k hp new)
theorem Inv.write{x e:Addr}{o:HO}{t':Nat}(I:Inv X pins Y H s)(mu:nH (H x))(he:e=x\/H e=some (.own x))(k:∀ b u,b≠e->s.heap.get? b=some u->h'.get? b=some u)(lY:∃ u,h'.get? e=some u)(new:ObjOk X.prog X.w (A0 H x o) h' x o):Inv X pins Y (A0 H x o) { s with heap:=h',toks:=t' }:=I.un (Un.write mu he k lY) (I.hok.write mu he k lY new)
theorem Inv.pins_of{pins':List (Addr×Obj)}(I:Inv X pins Y H s)(h:∀ p∈pins',s.heap.get? p.1=some p.2/\H p.1=none/\p.1≠X.env.locals/\p.1∉X.fs/\∀ v,p.2.data≠.cell v):Inv X pins' Y H s:=
 ⟨I.ok,I.os,I.bare,I.base,I.loc,I.cell,I.free,I.freeC,fun p hp=>(E8.mp hp).elim (fun z=>I.pin p (Q2 _ z)) (h p),I.hok,I.len⟩
theorem ahH{N:List Str}(hN:N.Nodup){i j:Nat}{x:Str}(a:N[i]?=some x)(b:N[j]?=some x):i=j:=by
 obtain ⟨h1,e1⟩:=E6.mp a;obtain ⟨h2,e2⟩:=E6.mp b;exact (List.getElem_inj hN).mp (e1.trans e2.symm)
theorem ajj{M:Model}{A:Around}{E:Value->Shared->Prop}{i:Nat}{x:Str}{v:V}{u:Value}{Q:Unit->Shared->Prop}(I:Inv X pins Y H s)(hN:X.N.Nodup)(hi:X.N[i]?=some x)(hx:x0 X.env.scope x)(r:RelV v u)(h:∀ s',Inv X pins (Y.set i (some v)) H s'->(∃ a,Heap.SameBut a s.heap s'.heap/\(a=X.env.locals\/X.env.cells.lookup x=some a))->Q () s')(hf:X.fn x=true\/X.env.scope.names.lookup x=some .local:=by first | exact .inl rfl | exact .inr rfl | assumption):wpAny M A (storeName X.env x u) Q E s:=by
 obtain ⟨m,hn,hl⟩:=id I.loc;have zV:(X.env.scope.kind == .class || (X.env.scope.kind == .module&&X.env.locals != X.env.globals))=false:=by rw [I.ok.kind];rfl
 have hiσ:i<Y.length:=by rw [I.len];exact (E6.mp hi).1
 have cne:=I.cne;have tracked:∀ {a:Addr} {h':Heap},(∃ o,s.heap.get? a=some o/\H a=none)->Heap.SameBut a s.heap h'->N6 X.prog X.w H h':=fun {a h'} ha hs b ob e=>by
  obtain ⟨_,_,fJ⟩:=ha;refine (I.hok b ob e).stay (fun c w' hc q=>(hs.2 c ?_).trans q) (fun _ q=>q) fun _ _ q=>q
  rintro rfl
  rcases hc with rfl | hc
  .rw [fJ] at e;cases e
  .rw [fJ] at hc;cases hc
 rcases hx with hk | hk
 .refine wpAny_storeName_local hk hn (fun h' hn' hs=>?_) zV;obtain ⟨oL,_,_,hoL,_⟩:=id hn;refine h _ ⟨I.ok,I.os,I.bare,⟨fun b o e n hb hx=>?_,fun b o e n hb hx=>?_,I.base.free,fun b o e hx=>?_,I.base.tups,I.base.frzs,I.base.tbls⟩,⟨_,hn',fun j y v' e1 e2 e3=>?_⟩,fun y c e=>?_,I.free,I.freeC,fun p hp=>?_,tracked ⟨oL,hoL,I.free⟩ hs,by simpa using I.len⟩ ⟨_,hs,.inl rfl⟩
  .exact (hs.2 b (M4 (W2 (Heap.lt_size e) I.ok.above))).trans (I.base.keep b o e n hb hx)
  .obtain ⟨sl,e1⟩:=I.base.slot b o e n hb hx;exact ⟨sl,(hs.2 b (M4 (W2 (Heap.lt_size e) I.ok.above))).trans e1⟩
  .obtain ⟨o',e1⟩:=I.base.there b o e hx;exact ⟨o',(hs.2 b (M4 (W2 (Heap.lt_size e) I.ok.above))).trans e1⟩
  .by_cases hj:j=i
   .subst hj;rw [hi] at e1;cases e1;rw [List.getElem?_set_self hiσ] at e2;cases e2;exact ⟨u,r,.inl ⟨hk,by simp⟩⟩
   .rw [List.getElem?_set_ne (Ne.symm hj)] at e2;obtain ⟨u',r',q⟩:=hl j y v' e1 e2 e3;refine ⟨u',r',?_⟩
    rcases q with ⟨k,e⟩ | ⟨k,c,e,z⟩
    .refine .inl ⟨k,?_⟩
     have:y≠x:=fun e=>hj (ahH hN e1 (e ▸ hi))
     simp [this,e]
    .exact .inr ⟨k,c,e,z.sameBut hs (cne y c e)⟩
  .obtain ⟨w',z⟩:=I.cell y c e;exact ⟨w',z.sameBut hs (cne y c e)⟩
  .obtain ⟨e,n,ne,nf,d⟩:=I.pin p hp;exact ⟨(hs.2 p.1 ne).trans e,n,ne,nf,d⟩
 .have zW:X.fn x=true:=by
   rcases hf with z | z
   .exact z
   .rw [z] at hk;cases hk
  obtain ⟨c,hc⟩:=I.ok.has x (.inl hk);obtain ⟨w',z⟩:=I.cell x c hc;refine wpAny_storeName_cell I.ok.kind hk hc z (fun h' bM hs=>?_);obtain ⟨oc,zX,zY⟩:=id z;refine h { s with heap:=h' } ⟨I.ok,I.os,I.bare,⟨fun b o e n hb hx=>?_,fun b o e n hb hx=>?_,I.base.free,fun b o e hx=>?_,I.base.tups,I.base.frzs,I.base.tbls⟩,⟨m,hn.sameBut hs (Ne.symm (cne x c hc)),fun j y v' e1 e2 e3=>?_⟩,fun y c' e=>?_,I.free,I.freeC,fun p hp=>?_,tracked ⟨oc,zX,I.freeC x c hc⟩ hs,by simpa using I.len⟩ ⟨c,hs,.inr hc⟩
  .exact (hs.2 b (M4 (W2 (Heap.lt_size e) (I.ok.cab x c zW hc)))).trans (I.base.keep b o e n hb hx)
  .obtain ⟨sl,e1⟩:=I.base.slot b o e n hb hx;exact ⟨sl,(hs.2 b (M4 (W2 (Heap.lt_size e) (I.ok.cab x c zW hc)))).trans e1⟩
  .obtain ⟨o',e1⟩:=I.base.there b o e hx;exact ⟨o',(hs.2 b (M4 (W2 (Heap.lt_size e) (I.ok.cab x c zW hc)))).trans e1⟩
  .by_cases hj:j=i
   .subst hj;rw [hi] at e1;cases e1;rw [List.getElem?_set_self hiσ] at e2;cases e2;exact ⟨u,r,.inr ⟨.inl hk,c,hc,bM⟩⟩
   .rw [List.getElem?_set_ne (Ne.symm hj)] at e2;obtain ⟨u',r',q⟩:=hl j y v' e1 e2 e3;refine ⟨u',r',?_⟩
    rcases q with q | ⟨k,c',e,z'⟩
    .exact .inl q
    .refine .inr ⟨k,c',e,z'.sameBut hs ?_⟩;rintro rfl;exact hj (ahH hN e1 (I.ok.inj _ _ _ e hc ▸ hi))
  .by_cases hcc:c'=c
   .subst hcc;exact ⟨_,bM⟩
   .obtain ⟨w2,z2⟩:=I.cell y c' e;exact ⟨w2,z2.sameBut hs hcc⟩
  .obtain ⟨e,n,ne,nf,d⟩:=I.pin p hp;refine ⟨(hs.2 p.1 ?_).trans e,n,ne,nf,d⟩;intro q;rw [q,zX] at e;have q':oc=p.2:=Option.some.inj e;exact d w' (by rw [<- q'];exact zY)
theorem rA{M:Model}{A:Around}{E:Value->Shared->Prop}{i:Nat}{x:Str}{v:V}{u:Value}{Q:Unit->Shared->Prop}(I:Inv X pins Y H s)(hN:X.N.Nodup)(hi:X.N[i]?=some x)(hx:x0 X.env.scope x)(r:RelV v u)(h:∀ s',Inv X pins (Y.set i (some v)) H s'->Q () s')(hf:X.fn x=true\/X.env.scope.names.lookup x=some .local:=by first | exact .inl rfl | exact .inr rfl | assumption):wpAny M A (storeName X.env x u) Q E s:=
 ajj I hN hi hx r (fun s' I' _=>h s' I') hf
theorem Inv.call'{s':Shared}{ch:List Addr}(I:Inv X pins Y H s)(ho:s'.os=s.os)(u:Un (w8 X.stack) ch H H' s.heap s'.heap)(hok:N6 X.prog X.w H' s'.heap)(hg:AllBare s'.gens)(bL:∀ b∈ch,(b∈X.ex\/X.s₀.heap.objs.size<=b)/\b≠X.env.locals/\(∀ x c,X.env.cells.lookup x=some c->c≠b)/\∀ p∈X.pn++pins,p.1≠b):Inv X pins Y H' s':=by
 obtain ⟨h',g',d',t',o'⟩:=s';have e:o'=s.os:=ho;subst e;exact I.call (g':=g') (t':=t') (d':=d') u hok hg bL
end
noncomputable abbrev XK:=Value->Option Addr->Hp->Prop
noncomputable abbrev St:=List (Option V)
noncomputable abbrev VK:=V->Hp->Prop
noncomputable abbrev TE:=St->Hp->VK->Prop
noncomputable abbrev TT:=St->Hp->(Bool->Hp->Prop)->Prop
noncomputable abbrev TA:=St->Hp->(List V->Hp->Prop)->Prop
structure Ends where
 nx:St->Hp->Prop
 rt:VK
 bk:St->Hp->Prop:=fun _ _=>False
 ct:St->Hp->Prop:=fun _ _=>False
noncomputable abbrev TS:=Ends->St->Hp->Prop
noncomputable def EP (X:Cx) (pins:List (Addr×Obj)) (Y:St) (Q:VK) (u:Value) (s':Shared):Prop:=∃ v H',Inv X pins Y H' s'/\RelV v u/\Q v H'
noncomputable def TP (X:Cx) (pins:List (Addr×Obj)) (Y:St) (Q:Bool->Hp->Prop) (b:Bool) (s':Shared):Prop:=∃ H',Inv X pins Y H' s'/\Q b H'
noncomputable def AP (X:Cx) (pins:List (Addr×Obj)) (Y:St) (Q:List V->Hp->Prop) (us:List Value) (s':Shared):Prop:=∃ vs H',Inv X pins Y H' s'/\Vals vs us/\Q vs H'
noncomputable def SP (X:Cx) (pins:List (Addr×Obj)) (D:Ends) (f:Flow) (s':Shared):Prop:=
 match f with
 | .next=>∃ σ' H',Inv X pins σ' H' s'/\D.nx σ' H'
 | .brk=>∃ σ' H',Inv X pins σ' H' s'/\D.bk σ' H'
 | .cont=>∃ σ' H',Inv X pins σ' H' s'/\D.ct σ' H'
 | .ret u=>∃ v σ' H',Inv X pins σ' H' s'/\RelV v u/\D.rt v H'
noncomputable def PE (X:Cx) (e:Expr) (t:TE):Prop:=
 ∀ (pins:List (Addr×Obj)) (s:Shared) (Y:St) (H:Hp) (Q:VK),Inv X pins Y H s->t Y H Q->wpAny 'b' X.A (eval e X.env) (EP X pins Y Q) X.xe s
noncomputable def PT (X:Cx) (e:Expr) (t:TT):Prop:=
 ∀ (pins:List (Addr×Obj)) (s:Shared) (Y:St) (H:Hp) (Q:Bool->Hp->Prop),Inv X pins Y H s->t Y H Q->wpAny 'b' X.A (isTrue e X.env (eval e X.env)) (TP X pins Y Q) X.xe s
noncomputable def PW (X:Cx) (e:Expr) (t:TT):Prop:=
 ∀ (whole:Sem Value) (pins:List (Addr×Obj)) (s:Shared) (Y:St) (H:Hp) (Q:Bool->Hp->Prop),Inv X pins Y H s->t Y H Q->wpAny 'b' X.A (isTrue e X.env whole) (TP X pins Y Q) X.xe s
theorem PW.pt{X:Cx}{e:Expr}{t:TT}(h:PW X e t):PT X e t:=h _
noncomputable def PA (X:Cx) (es:List Expr) (t:TA):Prop:=
 ∀ (pos:Pos) (pins:List (Addr×Obj)) (s:Shared) (Y:St) (H:Hp) (Q:List V->Hp->Prop),Inv X pins Y H s->t Y H Q->wpAny 'b' X.A (spliced (backTo pos (starEach es X.env))) (AP X pins Y Q) X.xe s
noncomputable def PS (X:Cx) (st:Stmt) (t:TS):Prop:=
 ∀ (pins:List (Addr×Obj)) (s:Shared) (Y:St) (H:Hp) (D:Ends),Inv X pins Y H s->t D Y H->wpAny 'b' X.A (exec st X.env) (SP X pins D) X.xe s
noncomputable def Z9 (X:Cx) (st:List Stmt) (t:TS):Prop:=
 ∀ (pins:List (Addr×Obj)) (s:Shared) (Y:St) (H:Hp) (D:Ends),Inv X pins Y H s->t D Y H->wpAny 'b' X.A (execs st X.env) (SP X pins D) X.xe s
theorem A8{α:Type}{t:Sem α}{Q Q':α->Shared->Prop}{M:Model}{A:Around}{E:Value->Shared->Prop}{s:Shared}(h:wpAny M A t Q E s)(hQ:∀ a s,Q a s->Q' a s):wpAny M A t Q' E s:=wpAny_mono h hQ fun _ _ x=>x
section
variable {X:Cx}
noncomputable def tVar (i:Nat):TE:=fun Y H Q=>∃ v,Y[i]?=some (some v)/\Q v H
noncomputable def tC (v:V):TE:=fun _ H Q=>Q v H
theorem amL{i:Nat}{x:Str}{pos:Pos}(hN:X.N[i]?=some x)(hv:nI X.env.scope x)(hd:(x==("__debug__" : Str))=false:=by decide)(u8:(x==("__classdict__" : Str))=false:=by decide):PE X (.Name x pos) (tVar i):=by
 sleep 1;obtain ⟨v,e,h⟩:=h;obtain ⟨m,hn,hl⟩:=I.loc;obtain ⟨u,r,l⟩:=hl i x v hN e hv;have fin:EP X pins Y Q u s:=⟨v,H,I,r,h⟩
 rcases l with ⟨hk,hm⟩ | ⟨hk,c,hc,N1⟩
 .exact wpAny_Name (wpAny_loadName_local I.ok.kind hk hn hm fin) hd
 .rcases hk with hk | hk
  .exact wpAny_Name (wpAny_loadName_cell I.ok.kind hk hc N1 fin) hd
  .exact wpAny_Name (wpAny_loadName_free I.ok.kind hk hc N1 fin u8) hd
theorem amM{i j pos} : PE X (.Constant (.int i) j pos) (tC (.int i)):=fun _ _ _ H _ I h=>wpAny_Constant_int ⟨.int i,H,I.tok _,⟨_,rfl⟩,h⟩
theorem pe_bl{b j pos} : PE X (.Constant (.bool b) j pos) (tC (.bl b)):=fun _ _ _ H _ I h=>Constant_bool ⟨.bl b,H,I,rfl,h⟩
theorem ao5{j pos} : PE X (.Constant .none j pos) (tC .non):=fun _ _ _ H _ I h=>Constant_none ⟨.non,H,I,rfl,h⟩
theorem ao6{x j pos} : PE X (.Constant (.str x) j pos) (tC (.str x)):=fun _ _ _ H _ I h=>Calls.Constant_str ⟨.str x,H,I.tok _,⟨_,rfl⟩,h⟩
noncomputable def Gl (X:Cx) (x:Str):Prop:=X.env.kindOf x=some .globalImplicit
theorem uU{E:Value->Shared->Prop}{pins:List (Addr×Obj)}{s:Shared}{Y:St}{H:Hp}{x:Str}{u:Value}{pos:Pos}{Q:Value->Shared->Prop}(I:Inv X pins Y H s)(hg:Gl X x)(hm:X.mg x=some u)(h:Q u s)(hd:(x==("__debug__" : Str))=false:=by decide):wpAny 'b' X.A (eval (.Name x pos) X.env) Q E s:=
 Calls.Name_function_global I.ok.kind hg (Calls.loadGlobal_global (by rw [I.ok.glob];exact I.mod.glob.keeps I.bk) hm h) hd
theorem cH{E:Value->Shared->Prop}{pins:List (Addr×Obj)}{s:Shared}{Y:St}{H:Hp}{x:Str}{u:Value}{pos:Pos}{Q:Value->Shared->Prop}(I:Inv X pins Y H s)(hg:Gl X x)(hm:X.mg x=none)(hv:bootBuiltins x=some u)(h:Q u s)(hn:x≠"__name__":=by decide)(hd:(x==("__debug__" : Str))=false:=by decide):wpAny 'b' X.A (eval (.Name x pos) X.env) Q E s:=by
 obtain ⟨mb,h1,h2⟩:=I.mod.blt;exact Calls.Name_function_global I.ok.kind hg (Calls.loadGlobal_builtin (by rw [I.ok.glob];exact I.mod.glob.keeps I.bk) hm (by rw [I.ok.blt];exact h1.keeps I.bk) ((h2 x hn).trans hv) h) hd
theorem ajk{x:Str}{v:V}{u:Value}{pos:Pos}(hg:Gl X x)(hm:X.mg x=some u)(r:RelV v u)(hd:(x==("__debug__" : Str))=false:=by decide):PE X (.Name x pos) (tC v):=
 fun _ _ _ H _ I h=>uU I hg hm ⟨v,H,I,r,h⟩ hd
variable {a b:Expr} {ta tb:TE} {pos:Pos}
noncomputable def tB (t:TE):TT:=fun Y H Q=>t Y H fun x H1=>∃ c,x=.bl c/\Q c H1
variable {tA tB':TT} {rest:List Expr}
noncomputable def tAnd (t u:TT):TT:=fun Y H Q=>t Y H fun c H1=>if c=true then u Y H1 Q else Q false H1
noncomputable def uV (t u:TT):TT:=fun Y H Q=>t Y H fun c H1=>if c=true then Q true H1 else u Y H1 Q
noncomputable def tNot (t:TT):TT:=fun Y H Q=>t Y H fun c H1=>Q (!c) H1
theorem ano(ha:PT X a tA):PW X (.BoolOp .And [a] pos) tA:=by
 intro wh pins s Y H Q I h;refine isTrue_and (A8 (ha pins s Y H Q I h) fun c s1 e=>?_)
 cases c with
 | true=>exact isTrue_and_nil e
 | false=>exact e
theorem ao7(ha:PT X a tA):PW X (.BoolOp .Or [a] pos) tA:=by
 intro wh pins s Y H Q I h;refine isTrue_or (A8 (ha pins s Y H Q I h) fun c s1 e=>?_)
 cases c with
 | false=>exact isTrue_or_nil e
 | true=>exact e
theorem ao8(ha:PT X a tA)(hb:PW X (.BoolOp .And (b::rest) pos) tB'):PW X (.BoolOp .And (a::b::rest) pos) (tAnd tA tB'):=by
 intro wh pins s Y H Q I h;refine isTrue_and (A8 (ha pins s Y H _ I h) fun c s1 ⟨H1,I1,q1⟩=>?_)
 cases c with
 | true=>exact hb wh pins s1 Y H1 Q I1 q1
 | false=>exact ⟨H1,I1,q1⟩
theorem pw_or(ha:PT X a tA)(hb:PW X (.BoolOp .Or (b::rest) pos) tB'):PW X (.BoolOp .Or (a::b::rest) pos) (uV tA tB'):=by
 intro wh pins s Y H Q I h;refine isTrue_or (A8 (ha pins s Y H _ I h) fun c s1 ⟨H1,I1,q1⟩=>?_)
 cases c with
 | true=>exact ⟨H1,I1,q1⟩
 | false=>exact hb wh pins s1 Y H1 Q I1 q1
theorem ao9(ha:PT X a tA):PT X (.UnaryOp .Not a pos) (tNot tA):=by
 sleep 1;exact isTrue_not (ha pins s Y H (fun c H1=>Q (!c) H1) I h)
noncomputable def tAndV (ta tb:TE):TE:=fun Y H Q=>ta Y H fun x H1=>∃ c,x=.bl c/\if c=true then tb Y H1 Q else Q (.bl false) H1
noncomputable def tOrV (ta tb:TE):TE:=fun Y H Q=>ta Y H fun x H1=>∃ c,x=.bl c/\if c=true then Q (.bl true) H1 else tb Y H1 Q
noncomputable def tNotV (ta:TE):TE:=fun Y H Q=>ta Y H fun x H1=>∃ c,x=.bl c/\Q (.bl (!c)) H1
theorem aqa{op}{t:TE}(h:PE X a t):PE X (.BoolOp op [a] pos) t:=fun pins s Y H Q I hw=>BoolOp_one (h pins s Y H Q I hw)
theorem aqb(ha:PE X a ta)(hb:PE X (.BoolOp .And (b::rest) pos) tb):PE X (.BoolOp .And (a::b::rest) pos) (tAndV ta tb):=by
 sleep 1;refine BoolOp_and (A8 (ha pins s Y H _ I h) fun v s1 ⟨x,H1,I1,r1,q1⟩=>?_);obtain ⟨c,rfl,q1⟩:=q1
 cases r1
 refine wpAny_truthy_bool ?_
 cases c with
 | true=>exact hb pins s1 Y H1 Q I1 q1
 | false=>exact ⟨.bl false,H1,I1,rfl,q1⟩
theorem pe_or(ha:PE X a ta)(hb:PE X (.BoolOp .Or (b::rest) pos) tb):PE X (.BoolOp .Or (a::b::rest) pos) (tOrV ta tb):=by
 sleep 1;refine BoolOp_or (A8 (ha pins s Y H _ I h) fun v s1 ⟨x,H1,I1,r1,q1⟩=>?_);obtain ⟨c,rfl,q1⟩:=q1
 cases r1
 refine wpAny_truthy_bool ?_
 cases c with
 | false=>exact hb pins s1 Y H1 Q I1 q1
 | true=>exact ⟨.bl true,H1,I1,rfl,q1⟩
noncomputable def uW (t:TT) (ta tb:TE):TE:=fun Y H Q=>t Y H fun c H1=>if c=true then ta Y H1 Q else tb Y H1 Q
theorem alg{c:Expr}(hc:PT X c tA)(ha:PE X a ta)(hb:PE X b tb):PE X (.IfExp c a b pos) (uW tA ta tb):=by
 sleep 1;refine wpAny_IfExp (A8 (hc pins s Y H _ I h) fun d s1 ⟨H1,I1,q1⟩=>?_)
 cases d with
 | true=>exact ha pins s1 Y H1 Q I1 q1
 | false=>exact hb pins s1 Y H1 Q I1 q1
end
noncomputable def D8 (K:PySem.W.Frag) (H:Hp) (a:Addr) (xs:List V):Prop:=
 Rd H a (.lst xs)\/
  ∃ (o:Obj) (its:Array Value) (n:Nat),K.lookup a=some o/\o.cls=.type "list"/\o.dict=none/\o.data=.seq its n/\its.size<=sizeLine/\Vals xs its.toList
noncomputable def B1 (K:PySem.W.Frag) (H:Hp) (a:Addr) (xs:List V):Prop:=
 Rd H a (.tup xs)\/
  ∃ (o:Obj) (its:Array Value) (n:Nat),K.lookup a=some o/\o.cls=.type "tuple"/\o.data=.seq its n/\its.size<=sizeLine/\Vals xs its.toList
noncomputable def absV:Value->Option V
 | .none=>some .non
 | .bool b=>some (.bl b)
 | .int i _=>some (.int i)
 | .str x _=>some (.str x)
 | .bytes b _=>some (.byt b)
 | .float b _=>some (.flt b)
 | .ref a=>some (.ref a)
 | .type n=>some (.ty n)
 | _=>none
theorem RelV.abs{x:V}{u:Value}(r:RelV x u):absV u=some x:=by
 cases x with
 | non=>cases r;rfl
 | bl _=>cases r;rfl
 | int _=>obtain ⟨t,rfl⟩:=r;rfl
 | str _=>obtain ⟨t,rfl⟩:=r;rfl
 | byt _=>obtain ⟨t,rfl⟩:=r;rfl
 | flt _=>obtain ⟨t,rfl⟩:=r;rfl
 | ref _=>cases r;rfl
 | ty _=>cases r;rfl
theorem RelV.inj{x y:V}{u:Value}(r:RelV x u)(q:RelV y u):x=y:=Option.some.inj (r.abs.symm.trans q.abs)
theorem Vals.inj:∀ {xs ys:List V} {us:List Value},Vals xs us->Vals ys us->xs=ys
 | _,_,_,.nil,.nil=>rfl
 | _,_,_,.cons r t,.cons r' t'=>by rw [r.inj r',Vals.inj t t']
section
variable {X:Cx} {pins:List (Addr×Obj)} {Y:St} {H:Hp} {s:Shared} {a:Addr} {xs ys:List V}
theorem D8.of{K:PySem.W.Frag}(h:H a=some (.lst xs)):D8 K H a xs:=.inl (.inl h)
theorem B1.of{K:PySem.W.Frag}(h:H a=some (.tup xs)):B1 K H a xs:=.inl (.inl h)
theorem Inv.list(I:Inv X pins Y H s)(h:D8 X.K H a xs):∃ its:List Value,Vals xs its/\PlainL s.heap a its.toArray/\xs.length<=sizeLine:=by
 rcases h with h | ⟨o,its,n,hk,hc,hd,hs,hz,r⟩
 .obtain ⟨z,its,n,r,e⟩:=h.ok I.hok;exact ⟨its,r,⟨_,n,e,rfl,rfl,rfl⟩,z⟩
 .refine ⟨its.toList,r,⟨o,n,I.kIn a o hk,hc,hd,by simpa using hs⟩,?_⟩;have e:=r.length;simp only [eL] at e;lia
theorem Inv.tuple(I:Inv X pins Y H s)(h:B1 X.K H a xs):∃ its:List Value,Vals xs its/\IsTup s.heap a its.toArray/\xs.length<=sizeLine:=by
 rcases h with h | ⟨o,its,n,hk,hc,hs,hz,r⟩
 .obtain ⟨z,its,r,p⟩:=h.ok I.hok;exact ⟨its,r,p,z⟩
 .refine ⟨its.toList,r,⟨o,I.kIn a o hk,hc,n,by simpa using hs⟩,?_⟩;have e:=r.length;simp only [eL] at e;lia
theorem Inv.list_inj(I:Inv X pins Y H s)(h:D8 X.K H a xs)(h':D8 X.K H a ys):xs=ys:=by
 obtain ⟨its,r,⟨o,n,e,_,_,d⟩,_⟩:=I.list h;obtain ⟨its',r',⟨o',n',e',_,_,d'⟩,_⟩:=I.list h';rw [e] at e';cases e';rw [d] at d'
 injection d' with d1 _
 have:its=its':=by simpa using congrArg Array.toList d1
 subst this;exact r.inj r'
theorem Inv.tuple_inj(I:Inv X pins Y H s)(h:B1 X.K H a xs)(h':B1 X.K H a ys):xs=ys:=by
 obtain ⟨its,r,⟨o,e,_,n,d⟩,_⟩:=I.tuple h;obtain ⟨its',r',⟨o',e',_,n',d'⟩,_⟩:=I.tuple h';rw [e] at e';cases e';rw [d] at d'
 injection d' with d1 _
 have:its=its':=by simpa using congrArg Array.toList d1
 subst this;exact r.inj r'
end
noncomputable abbrev Cx.wish (X:Cx) (E:Value->Shared->Prop):Cx:={ X with xe:=E }
noncomputable abbrev Cx.nox (X:Cx):Cx:=X.wish fun _ _=>False
theorem Cx.Ok.wish{X:Cx}(ok:X.Ok)(E:Value->Shared->Prop):(X.wish E).Ok:=
 ⟨ok.mod,ok.kind,ok.glob,ok.blt,ok.above,ok.inj,ok.has,ok.cab,ok.hd,ok.frames,ok.stk,ok.exf,ok.bs,ok.bsz,ok.noex,ok.exfs,ok.funs,ok.frf⟩
theorem Cx.Ok.unwish{X:Cx}{E:Value->Shared->Prop}(ok:(X.wish E).Ok):X.Ok:=
 ⟨ok.mod,ok.kind,ok.glob,ok.blt,ok.above,ok.inj,ok.has,ok.cab,ok.hd,ok.frames,ok.stk,ok.exf,ok.bs,ok.bsz,ok.noex,ok.exfs,ok.funs,ok.frf⟩
section
variable {X:Cx} {pins:List (Addr×Obj)} {Y:St} {H:Hp} {s:Shared} {E:Value->Shared->Prop}
theorem Inv.wish(I:Inv X pins Y H s)(E:Value->Shared->Prop):Inv (X.wish E) pins Y H s:=⟨I.ok.wish E,I.os,I.bare,I.base,I.loc,I.cell,I.free,I.freeC,I.pin,I.hok,I.len⟩
theorem Inv.unwish(I:Inv (X.wish E) pins Y H s):Inv X pins Y H s:=⟨I.ok.unwish,I.os,I.bare,I.base,I.loc,I.cell,I.free,I.freeC,I.pin,I.hok,I.len⟩
theorem SP.unwish{D:Ends}{f:Flow}{s':Shared}(h:SP (X.wish E) pins D f s'):SP X pins D f s':=by
 cases f with
 | next=>obtain ⟨σ',H',I,q⟩:=h;exact ⟨σ',H',I.unwish,q⟩
 | brk=>obtain ⟨σ',H',I,q⟩:=h;exact ⟨σ',H',I.unwish,q⟩
 | cont=>obtain ⟨σ',H',I,q⟩:=h;exact ⟨σ',H',I.unwish,q⟩
 | ret u=>obtain ⟨v,σ',H',I,r,q⟩:=h;exact ⟨v,σ',H',I.unwish,r,q⟩
theorem Z9.nox{st:List Stmt}{t:TS}(h:Z9 X.nox st t):Z9 X st t:=fun pins s Y H D I hw=>
 wpAny_mono (h pins s Y H D (I.wish _) hw) (fun _ _ q=>q.unwish) fun _ _ z=>False.elim z
end
section
variable {X:Cx} {st:Stmt} {rest:List Stmt} {t u:TS} {e:Expr} {te:TE} {pos:Pos}
noncomputable def tNext:TS:=fun D Y H=>D.nx Y H
noncomputable def tSeq (t u:TS):TS:=fun D Y H=>t { D with nx:=u D } Y H
theorem anp:Z9 X [] tNext:=fun _ _ Y H _ I h=>wpAny_execs_nil ⟨Y,H,I,h⟩
theorem alh(h1:PS X st t)(h2:Z9 X rest u):Z9 X (st::rest) (tSeq t u):=by
 intro pins s Y H D I h;refine wpAny_execs_cons (A8 (h1 pins s Y H { D with nx:=u D } I h) fun f s1 q=>?_)
 cases f with
 | next=>
  obtain ⟨σ',H',I',q⟩:=q;exact h2 pins s1 σ' H' D I' q
 | ret v=>exact q
 | brk=>exact q
 | cont=>exact q
theorem anq(h1:PS X st t):Z9 X [st] t:=by
 intro pins s Y H D I h;refine wpAny_execs_cons (A8 (h1 pins s Y H D I h) fun f s1 q=>?_)
 cases f with
 | next=>exact wpAny_execs_nil q
 | ret v=>exact q
 | brk=>exact q
 | cont=>exact q
noncomputable def aqc:TS:=fun D Y H=>D.bk Y H
noncomputable def tCont:TS:=fun D Y H=>D.ct Y H
theorem Inv.quiet{pins:List (Addr×Obj)}{Y:St}{H:Hp}{s:Shared}(I:Inv X pins Y H s):interactive X.env=false:=by simp [interactive,I.ok.kind]
noncomputable def tDrop (te:TE):TS:=fun D Y H=>te Y H fun _ H1=>D.nx Y H1
theorem anr(he:PE X e te)(hs:swapsWith e none pos.line X.env=pure false:=by rfl):PS X (.Expr e pos) (tDrop te):=by
 intro pins s Y H D I h;exact wpAny_Expr_any (A8 (he pins s Y H _ I h) fun v s1 ⟨x,H1,I1,r1,q1⟩=>⟨Y,H1,I1,q1⟩) I.quiet hs
noncomputable def tRet (te:TE):TS:=fun D Y H=>te Y H D.rt
theorem aqd(he:PE X e te):PS X (.Return (some e) pos) (tRet te):=by
 intro pins s Y H D I h;exact wpAny_Return_some (A8 (he pins s Y H _ I h) fun v s1 ⟨x,H1,I1,r1,q1⟩=>⟨x,Y,H1,I1,r1,q1⟩)
noncomputable def tRetN:TS:=fun D _ H=>D.rt .non H
noncomputable def tIfS (c:TT) (t u:TS):TS:=fun D Y H=>c Y H fun b H1=>if b=true then t D Y H1 else u D Y H1
theorem ps_if{c:Expr}{a b:List Stmt}{tc:TT}(hc:PT X c tc)(ha:Z9 X a t)(hb:Z9 X b u):PS X (.If c a b pos) (tIfS tc t u):=by
 intro pins s Y H D I h;refine wpAny_If (A8 (hc pins s Y H _ I h) fun d s1 ⟨H1,I1,q1⟩=>?_)
 cases d with
 | true=>exact ha pins s1 Y H1 D I1 q1
 | false=>exact hb pins s1 Y H1 D I1 q1
noncomputable def uX:TS:=fun _ _ _=>False
theorem ali:PS X st uX:=fun _ _ _ _ _ _ h=>h.elim
end
noncomputable abbrev TG:=V->St->Hp->(St->Hp->Prop)->Prop
noncomputable abbrev q0:=List V->St->Hp->(St->Hp->Prop)->Prop
noncomputable def PG (X:Cx) (target:Expr) (t:TG):Prop:=
 ∀ (pins:List (Addr×Obj)) (s:Shared) (Y:St) (H:Hp) (v:V) (u:Value) (Q:St->Hp->Prop),Inv X pins Y H s->RelV v u->t v Y H Q->
  wpAny 'b' X.A (assign target X.env u) (fun _ s'=>∃ σ' H',Inv X pins σ' H' s'/\Q σ' H') X.xe s
noncomputable def nJ (X:Cx) (ts:List Expr) (t:q0):Prop:=
 ∀ (pins:List (Addr×Obj)) (s:Shared) (Y:St) (H:Hp) (vs:List V) (us:List Value) (Q:St->Hp->Prop),Inv X pins Y H s->Vals vs us->t vs Y H Q->
  wpAny 'b' X.A (assignInOrder ((assignEach ts X.env).map (·.2)) us) (fun _ s'=>∃ σ' H',Inv X pins σ' H' s'/\Q σ' H') X.xe s
noncomputable abbrev TSet:=V->V->V->Hp->(Hp->Prop)->Prop
noncomputable def PSet (X:Cx) (t:TSet):Prop:=
 ∀ (pins:List (Addr×Obj)) (s:Shared) (Y:St) (H:Hp) (o i v:V) (ov iv u:Value) (Q:Hp->Prop),Inv X pins Y H s->RelV o ov->RelV i iv->RelV v u->t o i v H Q->
  wpAny 'b' X.A (setItem ov iv u) (fun _ s'=>∃ H',Inv X pins Y H' s'/\Q H') X.xe s
noncomputable abbrev gM:=V->V->Hp->VK->Prop
noncomputable def uY (X:Cx) (op:Operator) (t:gM):Prop:=
 ∀ (pins:List (Addr×Obj)) (s:Shared) (Y:St) (H:Hp) (x y:V) (v u:Value) (Q:VK),Inv X pins Y H s->RelV x v->RelV y u->t x y H Q->
  wpAny 'b' X.A (inplaceOp op v u) (EP X pins Y Q) X.xe s
section
variable {X:Cx} {pos:Pos}
noncomputable def gName (i:Nat):TG:=fun v Y H Q=>Q (Y.set i (some v)) H
theorem ans{i:Nat}{x:Str}(hN:X.N.Nodup)(hi:X.N[i]?=some x)(hx:x0 X.env.scope x)(hf:X.fn x=true\/X.env.scope.names.lookup x=some .local:=by first | exact .inl rfl | exact .inr rfl | assumption):PG X (.Name x pos) (gName i):=by
 intro pins s Y H v u Q I r h;exact wpAny_assign_Name (rA I hN hi hx r (fun s' I'=>⟨_,H,I',h⟩) hf)
noncomputable def gNil:q0:=fun vs Y H Q=>vs=[]/\Q Y H
noncomputable def gCons (t:TG) (u:q0):q0:=fun vs Y H Q=>∃ v r,vs=v::r/\t v Y H fun σ' H'=>u r σ' H' Q
theorem ant:nJ X [] gNil:=by
 intro pins s Y H vs us Q I r h;obtain ⟨e,h⟩:=h;subst e
 cases r
 exact assignInOrder_nil ⟨Y,H,I,h⟩
theorem alj{e:Expr}{es:List Expr}{t:TG}{u:q0}(h1:PG X e t)(h2:nJ X es u)(hs:(assignEach (e::es) X.env).map (·.2)=assign e X.env::(assignEach es X.env).map (·.2):=by rfl):nJ X (e::es) (gCons t u):=by
 intro pins s Y H vs us Q I r h;obtain ⟨v,vr,e1,h⟩:=h;subst e1
 cases r with
 | cons r rr=>
  rw [hs];refine assignInOrder_cons (A8 (h1 pins s Y H _ _ _ I r h) fun _ s1 ⟨σ1,H1,I1,q1⟩=>?_);exact h2 pins s1 σ1 H1 _ _ Q I1 rr q1
noncomputable def gTup (K:PySem.W.Frag) (n:Nat) (t:q0):TG:=fun v Y H Q=>∃ a xs,v=.ref a/\B1 K H a xs/\xs.length=n/\t xs Y H Q
theorem aqe{es:List Expr}{k:Nat}{t:q0}{n:Nat}(hc:X.calm=true)(h:nJ X es t)(hn:(assignEach es X.env).length=n:=by rfl)(b9:(assignEach es X.env).findIdx? (·.1)=none:=by rfl):PG X (.Tuple es k pos) (gTup X.K n t):=by
 intro pins s Y H v u Q I r hw;obtain ⟨a,xs,e1,hq,hl,hw⟩:=hw;subst e1
 cases r
 obtain ⟨its,rv,ht,hz⟩:=I.tuple hq;refine assign_Tuple_tuple (I.ok.hd hc) ht (by simp [hn,<- hl,rv.length]) b9 fun h' hx=>?_
 have I1:Inv X pins Y H { s with heap:=h' }:=I.kept (t':=s.toks) fun b o e=>hx b o (M4 (Heap.lt_size e)) e
 exact h pins _ Y H xs _ Q I1 (by simpa using rv) hw
noncomputable def gSub (to ti:TE) (t:TSet):TG:=fun v Y H Q=>to Y H fun o H1=>ti Y H1 fun i H2=>t o i v H2 fun H3=>Q Y H3
theorem aqf{o i:Expr}{to ti:TE}{t:TSet}(ho:PE X o to)(hi:PE X i ti)(hs:PSet X t)(ha:∀ v,assign (.Subscript o i pos) X.env v=(do
   let ov <- holding [v] (eval o X.env)
   let iv <- holding [v,ov] (eval i X.env)
   standAt pos
   holding [v,ov,iv] (setItem ov iv v)
   release [v,ov,iv] []):=by intro _;rfl):PG X (.Subscript o i pos) (gSub to ti t):=by
 intro pins s Y H v u Q I r h;rw [ha];refine wpAny_bind (wpAny_holding (A8 (ho pins s Y H _ I h) fun ov s1 ⟨x,H1,I1,r1,q1⟩=>?_));refine wpAny_bind (wpAny_holding (A8 (hi pins s1 Y H1 _ I1 q1) fun iv s2 ⟨y,H2,I2,r2,q2⟩=>?_));refine wpAny_bind (wpAny_standAt (wpAny_bind (wpAny_holding (A8 (hs pins s2 Y H2 x y v ov iv u _ I2 r1 r2 r q2) fun _ s3 ⟨H3,I3,q3⟩=>?_))));exact wpAny_release ⟨Y,H3,I3,q3⟩
noncomputable def tAsg (te:TE) (g:TG):TS:=fun D Y H=>te Y H fun x H1=>g x Y H1 D.nx
theorem aqg{tg e:Expr}{te:TE}{g:TG}(he:PE X e te)(hg:PG X tg g)(hs:swapsWithSole [tg] e pos.line X.env=pure false:=by rfl)(hw:swappedStores [tg] e X.env=pure none:=by rfl)(h1:(assignEach [tg] X.env).map (·.2)=[assign tg X.env]:=by rfl):PS X (.Assign [tg] e pos) (tAsg te g):=by
 intro pins s Y H D I h;refine wpAny_Assign_stores (A8 (he pins s Y H _ I h) fun v s1 ⟨x,H1,I1,r1,q1⟩=>?_) hs hw;rw [h1];exact A8 (hg pins s1 Y H1 x v _ I1 r1 q1) fun _ s2 q=>q
theorem aqh{i:Nat}{x:Str}{e:Expr}{te:TE}{pos':Pos}(hN:X.N.Nodup)(hi:X.N[i]?=some x)(hx:x0 X.env.scope x)(he:PE X e te)(hs:swapsWith e (some (.Name x pos')) pos.line X.env=pure false:=by rfl)(hf:X.fn x=true\/X.env.scope.names.lookup x=some .local:=by first | exact .inl rfl | exact .inr rfl | assumption) :
  PS X (.Assign [.Name x pos'] e pos) (tAsg te (gName i)):=by
 intro pins s Y H D I h;refine wpAny_Assign_Name (A8 (he pins s Y H _ I h) fun v s1 ⟨y,H1,I1,r1,q1⟩=>?_) hs;exact rA I1 hN hi hx r1 (fun s2 I2=>⟨_,H1,I2,q1⟩) hf
noncomputable def tAug (i:Nat) (te:TE) (ti:gM):TS:=fun D Y H=>∃ x,Y[i]?=some (some x)/\te Y H fun y H1=>ti x y H1 fun z H2=>D.nx (Y.set i (some z)) H2
theorem aqi{i:Nat}{x:Str}{e:Expr}{te:TE}{op:Operator}{ti:gM}{pos':Pos}(hN:X.N.Nodup)(hi:X.N[i]?=some x)(hx:x0 X.env.scope x)(he:PE X e te)(ho:uY X op ti)(hf:X.fn x=true\/X.env.scope.names.lookup x=some .local:=by first | exact .inl rfl | exact .inr rfl | assumption) :
  PS X (.AugAssign (.Name x pos') op e pos) (tAug i te ti):=by
 intro pins s Y H D I h;obtain ⟨v,e1,h⟩:=h;obtain ⟨m,hn,hl⟩:=I.loc;have vis:nI X.env.scope x:=by rcases hx with k | k;exact .inl k;exact .inr (.inl k)
 obtain ⟨u,r,l⟩:=hl i x v hi e1 vis;refine wpAny_AugAssign_Name ?_;have go:wpAny 'b' X.A (eval e X.env) (fun w zx=>wpAny 'b' X.A (inplaceOp op u w) (fun r zw=>wpAny 'b' X.A (storeName X.env x r) (fun _=>SP X pins D .next) X.xe zw) X.xe zx) X.xe s:=by
  refine A8 (he pins s Y H _ I h) fun w s1 ⟨y,H1,I1,r1,q1⟩=>?_
  refine A8 (ho pins s1 Y H1 v y u w _ I1 r r1 q1) fun z s2 ⟨zv,H2,I2,r2,q2⟩=>?_
  exact rA I2 hN hi hx r2 (fun s3 I3=>⟨_,H2,I3,q2⟩) hf
 rcases l with ⟨hk,hm⟩ | ⟨hk,c,hc,N1⟩
 .exact wpAny_loadName_local I.ok.kind hk hn hm go
 .rcases hk with hk | hk
  .exact wpAny_loadName_cell I.ok.kind hk hc N1 go
  .rcases hx with k | k
   .have:X.env.scope.names.lookup x=some .free:=hk
    rw [k] at this;cases this
   .have:X.env.scope.names.lookup x=some .free:=hk
    rw [k] at this;cases this
noncomputable def uZ (f:Int->Int->Int):gM:=fun x y H Q=>∃ i j,x=.int i/\y=.int j/\Q (.int (f i j)) H
theorem aqj:uY X .Add (uZ fun i j=>i+j):=by
 intro pins s Y H x y v u Q I r1 r2 h;obtain ⟨i,j,e1,e2,q⟩:=h;subst e1;subst e2;obtain ⟨t,rfl⟩:=r1;obtain ⟨t',rfl⟩:=r2;exact iadd_int ⟨.int _,H,I.tok _,⟨_,rfl⟩,q⟩
end
section
variable {X:Cx} {pos:Pos}
noncomputable def rB (c:TT) (tb:TS):TS:=fun D Y H=>∃ W:Nat->St->Hp->Prop,(∃ m,W m Y H)/\∀ m Y H,W m Y H->
 c Y H fun b H1=>if b=true then ∃ N:St->Hp->Prop,(∀ σ' H',N σ' H'->∃ m',m'<m/\W m' σ' H')/\tb { D with nx:=N,ct:=N,bk:=D.nx } Y H1 else D.nx Y H1
theorem alk{c:Expr}{body:List Stmt}{tc:TT}{tb:TS}(hp:PassesOwn 'b' X.A X.env X.xe)(hc:PT X c tc)(hb:Z9 X body tb):PS X (.While c body [] pos) (rB tc tb):=by
 intro pins s Y H D I h;obtain ⟨W,⟨m0,w0⟩,turn⟩:=h;refine wpAny_While (codeAny_whileLoop (fun n s'=>∃ σ' H',Inv X pins σ' H' s'/\W n σ' H') ?_ m0 ⟨Y,H,I,w0⟩);rintro n s1 ⟨σ1,H1,I1,w1⟩;refine wpAny_passesOwn hp (A8 (hc pins s1 σ1 H1 _ I1 (turn n σ1 H1 w1)) fun b s2 ⟨H2,I2,q2⟩=>?_)
 cases b with
 | true=>
  obtain ⟨N,hN,q2⟩:=q2;rw [if_pos rfl];refine wpAny_passesOwn hp (A8 (hb pins s2 σ1 H2 _ I2 q2) fun f s3 q3=>?_)
  cases f with
  | next=>
   obtain ⟨σ3,H3,I3,n3⟩:=q3;obtain ⟨m',hm,w3⟩:=hN σ3 H3 n3;exact ⟨m',hm,σ3,H3,I3,w3⟩
  | cont=>
   obtain ⟨σ3,H3,I3,n3⟩:=q3;obtain ⟨m',hm,w3⟩:=hN σ3 H3 n3;exact ⟨m',hm,σ3,H3,I3,w3⟩
  | brk=>exact q3
  | ret v=>exact q3
 | false=>
  rw [if_neg L8];exact wpAny_execs_nil ⟨σ1,H2,I2,q2⟩
end
structure It where
 go:Nat->Hp->Prop
 yld:Nat->Hp->V->Hp->Prop
 stop:Nat->Hp->Prop
noncomputable def FpOk (X:Cx) (pins:List (Addr×Obj)) (H:Hp) (b:Addr):Prop:=
 H b=none/\b≠X.env.locals/\b∉X.fs/\(b∈X.ex\/X.s₀.heap.objs.size<=b)/\(∀ x c,X.env.cells.lookup x=some c->c≠b)/\∀ p∈X.pn++pins,p.1≠b
theorem Inv.fpOk{X:Cx}{pins:List (Addr×Obj)}{Y:St}{H H':Hp}{s:Shared}{b:Addr}(I:Inv X pins Y H s)(hb:s.heap.objs.size<=b)(hn:H' b=none):FpOk X pins H' b:=by
 refine ⟨hn,Nat.ne_of_gt (W2 I.lt hb),I.nofs hb,.inr (N5 I.sz hb),fun x c e z=>?_,fun p hp z=>?_⟩
 .obtain ⟨v,q⟩:=I.cell x c e;exact absurd (W2 q.lt (by rw [z];exact hb)) (f7 _)
 .exact absurd (W2 (Heap.lt_size (I.pin p hp).1) (by rw [z];exact hb)) (f7 _)
structure Turn(P:Program)(w:World)(K:PySem.W.Frag)(tg:Expr)(J:It)(fp:List Addr)(it:Addr)(tn:Nat->Heap->Prop):Prop where
 mem:it∈fp
 obj:∀ i h,tn i h->∀ b∈fp,∃ o,h.get? b=some o/\∀ v,o.data≠.cell v
 keep:∀ i h h',tn i h->(∀ b∈fp,∀ o,h.get? b=some o->h'.get? b=some o)->tn i h'
 item:∀ (X:Cx),X.prog=P->X.w=w->X.K=K->X.calm=true->∀ (i:Nat) (pins:List (Addr×Obj)) (s:Shared) (Y:St) (H:Hp) (E:Value->Shared->Prop),Inv X pins Y H s->(∀ b∈fp,FpOk X pins H b)->tn i s.heap->J.go i H->
  wpAny (model P w) X.A (pyNext (.ref it)) (fun r s1=>∃ u,r=some u/\
   wpAny (model P w) X.A (letOwnedTupleGo tg (.ref it) u) (fun _ s2=>∃ x H',Inv X pins Y H' s2/\RelV x u/\J.yld i H x H'/\tn (i+1) s2.heap/\∀ b∈fp,H' b=none) E s1) E s
 done:∀ (X:Cx),X.prog=P->X.w=w->X.K=K->X.calm=true->∀ (i:Nat) (pins:List (Addr×Obj)) (s:Shared) (Y:St) (H:Hp) (E:Value->Shared->Prop),Inv X pins Y H s->(∀ b∈fp,FpOk X pins H b)->tn i s.heap->J.stop i H->
  wpAny (model P w) X.A (pyNext (.ref it)) (fun r s1=>r=none/\Inv X pins Y H s1) E s
 self:∀ (A:Around) (i:Nat) (s:Shared) (Q:Value->Shared->Prop) (E:Value->Shared->Prop),tn i s.heap->Q (.ref it) s->wpAny (model P w) A (pyIter (.ref it)) Q E s
noncomputable abbrev TI:=St->Hp->(It->Hp->Prop)->Prop
noncomputable def vA (X:Cx) (pins:List (Addr×Obj)) (Y:St) (tg:Expr) (R:It->Hp->Prop) (itv:Value) (s2:Shared):Prop:=
 ∃ (it:Addr) (fp:List Addr) (tn:Nat->Heap->Prop) (J:It) (H':Hp),itv=.ref it/\Inv X pins Y H' s2/\Turn X.prog X.w X.K tg J fp it tn/\tn 0 s2.heap/\(∀ b∈fp,FpOk X pins H' b)/\R J H'
noncomputable def PI (X:Cx) (tg iter:Expr) (wi:TI):Prop:=
 ∀ (pins:List (Addr×Obj)) (s:Shared) (Y:St) (H:Hp) (R:It->Hp->Prop),Inv X pins Y H s->wi Y H R->
  wpAny 'b' X.A (eval iter X.env) (fun v s1=>wpAny 'b' X.A (pyIter v) (vA X pins Y tg R) X.xe s1) X.xe s
theorem go_of{M : Model}{A : Around}{E : Value -> Shared -> Prop}{s : Shared}{tg : Expr}{it : Addr}{u : Value}{o : Obj}{n : String}{vs : Array Value}{Q : Unit -> Shared -> Prop}(ho : s.heap.get? it = some o)(hc : o.cls = .type n)(hd : o.data = .fields vs)(hn : ["enumerate", "zip", "dict_itemiterator", "dict_reverseitemiterator", "odict_iterator", "itertools.zip_longest", "itertools.pairwise"].contains n = false)(hQ : Q () s) : wpAny M A (letOwnedTupleGo tg (.ref it) u) Q E s := by
  unfold letOwnedTupleGo
  cases tg <;> first
    | exact wpAny_pure hQ
    | (cases u <;> first
        | exact wpAny_pure hQ
        | (refine wpAny_bind (wpAny_load ho ?_)
           rw [hc, hd];show wpAny M A (if (["enumerate", "zip", "dict_itemiterator", "dict_reverseitemiterator", "odict_iterator", "itertools.zip_longest", "itertools.pairwise"].contains n&&vs[0]? == some (rawInt _)) = true then _ else _) Q E s;rw [if_neg (by intro h; rw [hn, Bool.false_and] at h; cases h)];exact wpAny_pure hQ))
noncomputable def aU (K:PySem.W.Frag) (a:Addr):It:=
 ⟨fun i H=>∃ xs x,D8 K H a xs/\xs[i]?=some x,fun i H x H'=>H'=H/\∀ xs,D8 K H a xs->xs[i]?=some x,fun i H=>∃ xs,D8 K H a xs/\xs.length<=i⟩
noncomputable def eN (K:PySem.W.Frag) (a:Addr):It:=
 ⟨fun i H=>∃ xs x,B1 K H a xs/\xs[i]?=some x,fun i H x H'=>H'=H/\∀ xs,B1 K H a xs->xs[i]?=some x,fun i H=>∃ xs,B1 K H a xs/\xs.length<=i⟩
noncomputable def q9 (lo:Int) (n:Nat):It:=⟨fun i _=>i<n,fun i H x H'=>H'=H/\x=.int (lo+i),fun i _=>n<=i⟩
theorem ajm{P:Program}{w:World}{K:PySem.W.Frag}{tg:Expr}(a it:Addr):Turn P w K tg (aU K a) [it] it (fun i h=>h.IsListIter it a i) where
 mem:=by simp
 obj:=fun i h st b hb=>by
  have e:b=it:=by simpa using hb
  subst e;obtain ⟨o,e,c,d⟩:=st;exact ⟨o,e,fun v z=>by rw [d] at z;cases z⟩
 keep:=fun i h h' st k=>st.at fun o e=>k it 'c' o e
 item:=by
  intro X hP hw hK hc i pins s Y H E I hf st hg;subst hP hw hK;obtain ⟨xs,x,hq,hx⟩:=hg;obtain ⟨its,rv,p,hz⟩:=I.list hq;obtain ⟨u,hu,ru⟩:=rv.get hx;obtain ⟨f0,f1,f2,f3,f4,f5⟩:=hf it 'c';refine wpAny_pyNext_list_item st p.isList (x:=u) (by simpa using hu) fun h' st' sb=>?_
  have I1:Inv X pins Y H { s with heap:=h' }:=I.turned (t':=s.toks) (fun b o hb e=>(sb.2 b hb).trans e) f0 f1 f3 f4 f5;obtain ⟨o,e,c,d⟩:=id st';exact ⟨u,rfl,go_of (s:={ s with heap:=h' }) e c d (by decide) ⟨x,H,I1,ru,⟨rfl,fun ys hy=>by rw [I.list_inj hy hq];exact hx⟩,st',fun b hb=>(hf b hb).1⟩⟩
 done:=by
  intro X hP hw hK hc i pins s Y H E I hf st hg;subst hP hw hK;obtain ⟨xs,hq,hx⟩:=hg;obtain ⟨its,rv,p,hz⟩:=I.list hq;obtain ⟨f0,f1,f2,f3,f4,f5⟩:=hf it 'c';have hl:=rv.length;exact wpAny_pyNext_list_end (I.ok.hd hc) st p.isList (by simp;lia) fun h' eb=>⟨rfl,I.turned (t':=s.toks) (fun b o hb e=>eb b o hb e) f0 f1 f3 f4 f5⟩
 self:=fun _ _ _ _ _ st h=>wpAny_pyIter_listiter st h
theorem aix{P:Program}{w:World}{K:PySem.W.Frag}{tg:Expr}(a it:Addr):Turn P w K tg (eN K a) [it] it (fun i h=>h.IsTupleIter it a i) where
 mem:=by simp
 obj:=fun i h st b hb=>by
  have e:b=it:=by simpa using hb
  subst e;obtain ⟨o,e,c,d⟩:=st;exact ⟨o,e,fun v z=>by rw [d] at z;cases z⟩
 keep:=fun i h h' st k=>st.at fun o e=>k it 'c' o e
 item:=by
  intro X hP hw hK hc i pins s Y H E I hf st hg;subst hP hw hK;obtain ⟨xs,x,hq,hx⟩:=hg;obtain ⟨its,rv,p,hz⟩:=I.tuple hq;obtain ⟨u,hu,ru⟩:=rv.get hx;obtain ⟨f0,f1,f2,f3,f4,f5⟩:=hf it 'c';refine wpAny_pyNext_tuple_item st (show s.heap.IsTuple a its.toArray from p) (x:=u) (by simpa using hu) fun h' st' sb=>?_
  have I1:Inv X pins Y H { s with heap:=h' }:=I.turned (t':=s.toks) (fun b o hb e=>(sb.2 b hb).trans e) f0 f1 f3 f4 f5;obtain ⟨o,e,c,d⟩:=id st';exact ⟨u,rfl,go_of (s:={ s with heap:=h' }) e c d (by decide) ⟨x,H,I1,ru,⟨rfl,fun ys hy=>by rw [I.tuple_inj hy hq];exact hx⟩,st',fun b hb=>(hf b hb).1⟩⟩
 done:=by
  intro X hP hw hK hc i pins s Y H E I hf st hg;subst hP hw hK;obtain ⟨xs,hq,hx⟩:=hg;obtain ⟨its,rv,p,hz⟩:=I.tuple hq;obtain ⟨f0,f1,f2,f3,f4,f5⟩:=hf it 'c';have hl:=rv.length;exact wpAny_pyNext_tuple_end (I.ok.hd hc) st (show s.heap.IsTuple a its.toArray from p) (by simp;lia) fun h' eb=>⟨rfl,I.turned (t':=s.toks) (fun b o hb e=>eb b o hb e) f0 f1 f3 f4 f5⟩
 self:=fun _ _ _ _ _ st h=>wpAny_pyIter_tupleiter st h
theorem aiy{P:Program}{w:World}{K:PySem.W.Frag}{tg:Expr}(it:Addr)(lo:Int)(n:Nat):Turn P w K tg (q9 lo n) [it] it (fun i h=>IsRangeIter h it (lo+(i:Nat)*1) ((n:Int)-(i:Nat)) 1) where
 mem:=by simp
 obj:=fun i h st b hb=>by
  have e:b=it:=by simpa using hb
  subst e;exact ⟨_,st,fun v z=>by
   have z':Data.fields _=Data.cell v:=z
   cases z'⟩
 keep:=fun i h h' st k=>k it 'c' _ st
 item:=by
  intro X hP hw hK hc i pins s Y H E I hf st hg;subst hP hw hK;obtain ⟨f0,f1,f2,f3,f4,f5⟩:=hf it 'c';have W:=Walks.range (prog:=X.prog) (w:=X.w) (I.ok.hd hc) it lo 1 n;refine W.item i s _ _ hg st fun v h' tk hv st' kk=>?_
  obtain ⟨t,rfl⟩:=hv;have I1:Inv X pins Y H { s with heap:=h',toks:=tk }:=I.turned (fun b o hb e=>kk b o (by simpa using hb) e) f0 f1 f3 f4 f5;refine ⟨_,rfl,go_of (s:={ s with heap:=h',toks:=tk }) (n:="range_iterator") st' rfl rfl (by decide) ⟨.int (lo+i),H,I1,⟨t,?_⟩,⟨rfl,rfl⟩,st',fun b hb=>(hf b hb).1⟩⟩;rw [Int.mul_one]
 done:=by
  intro X hP hw hK hc i pins s Y H E I hf st hg;subst hP hw hK;obtain ⟨f0,f1,f2,f3,f4,f5⟩:=hf it 'c';exact wpAny_pyNext_range_end (I.ok.hd hc) st (by have:n<=i:=hg;lia) fun h' eb=>⟨rfl,I.turned (t':=s.toks) (fun b o hb e=>eb b o hb e) f0 f1 f3 f4 f5⟩
 self:=fun _ _ _ _ _ st h=>wpAny_pyIter_rangeiter st h
section
variable {X:Cx} {tg:Expr}
noncomputable def iList (K:PySem.W.Frag) (tl:TE):TI:=fun Y H R=>tl Y H fun x H1=>∃ a,x=.ref a/\(∃ xs,D8 K H1 a xs)/\R (aU K a) H1
noncomputable def iTup (K:PySem.W.Frag) (tl:TE):TI:=fun Y H R=>tl Y H fun x H1=>∃ a,x=.ref a/\(∃ xs,B1 K H1 a xs)/\R (eN K a) H1
theorem anu{l:Expr}{tl:TE}(hl:PE X l tl):PI X tg l (iList X.K tl):=by
 intro pins s Y H R I h;refine A8 (hl pins s Y H _ I h) fun v s1 ⟨x,H1,I1,r1,q1⟩=>?_
 obtain ⟨a,e,⟨xs,hq⟩,q⟩:=q1;subst e
 cases r1
 obtain ⟨its,rv,p,hz⟩:=I1.list hq;refine wpAny_pyIter_list p.isList ?_;refine ⟨s1.heap.objs.size,[s1.heap.objs.size],_,_,H1,rfl,I1.kept (t':=s1.toks) fun b o e=>Heap.get?_push_of_some _ e,ajm a _,⟨_,Heap.get?_push_size _ rfl,rfl,rfl⟩,fun b hb=>?_,q⟩;have e:b=s1.heap.objs.size:=by simpa using hb
 subst e;exact I1.fpOk (C3 _) (I1.hok.fresh (C3 _))
theorem aqk{l:Expr}{tl:TE}(hl:PE X l tl):PI X tg l (iTup X.K tl):=by
 intro pins s Y H R I h;refine A8 (hl pins s Y H _ I h) fun v s1 ⟨x,H1,I1,r1,q1⟩=>?_
 obtain ⟨a,e,⟨xs,hq⟩,q⟩:=q1;subst e
 cases r1
 obtain ⟨its,rv,p,hz⟩:=I1.tuple hq;refine wpAny_pyIter_tuple (show s1.heap.IsTuple a its.toArray from p) ?_;refine ⟨s1.heap.objs.size,[s1.heap.objs.size],_,_,H1,rfl,I1.kept (t':=s1.toks) fun b o e=>Heap.get?_push_of_some _ e,aix a _,⟨_,Heap.get?_push_size _ rfl,rfl,rfl⟩,fun b hb=>?_,q⟩;have e:b=s1.heap.objs.size:=by simpa using hb
 subst e;exact I1.fpOk (C3 _) (I1.hok.fresh (C3 _))
theorem ahJ{pins:List (Addr×Obj)}{Y:St}{H:Hp}{s:Shared}{R:It->Hp->Prop}{E:Value->Shared->Prop}{lo hi:Int}{t u v:Tok}{tk:Nat}(I:Inv X pins Y H s)(h1:-(2 ^ 62)<=lo)(h2:lo<2 ^ 62)(h3:-(2 ^ 62)<=hi)(h4:hi<2 ^ 62)(q:R (q9 lo (hi-lo).toNat) H):wpAny 'b' X.A (pyIter (.ref s.heap.objs.size)) (vA X pins Y tg R) E { s with heap:=s.heap.push { cls:=.type "range",data:=.fields #[.int lo t,.int hi u,.int 1 v] },toks:=tk }:=by
 refine wpAny_pyIter_range (IsRange.new ..) (small_one h1 h2 h3 h4) ?_;have I1:Inv X pins Y H { s with heap:=s.heap.push { cls:=.type "range",data:=.fields #[.int lo t,.int hi u,.int 1 v] },toks:=tk }:=I.kept fun b o e=>Heap.get?_push_of_some _ e
 refine ⟨(s.heap.push { cls:=.type "range",data:=.fields #[.int lo t,.int hi u,.int 1 v] }).objs.size,[(s.heap.push { cls:=.type "range",data:=.fields #[.int lo t,.int hi u,.int 1 v] }).objs.size],_,_,H,rfl,
  I1.kept (t':=tk) fun b o e=>Heap.get?_push_of_some _ e,aiy _ lo (hi-lo).toNat,?_,fun b hb=>?_,q⟩
 .have e1:lo+((0:Nat):Int)*1=lo:=by simp
  have e2:(((hi-lo).toNat:Nat):Int)-((0:Nat):Int)=Builtin.Range.rangeSize lo hi 1:=by rw [rangeSize_one];split <;> lia
  show IsRangeIter _ _ (lo+((0:Nat):Int)*1) ((((hi-lo).toNat:Nat):Int)-((0:Nat):Int)) 1;rw [e1,e2];exact Heap.get?_push_size _ rfl
 .have e:b=(s.heap.push { cls:=.type "range",data:=.fields #[.int lo t,.int hi u,.int 1 v] }).objs.size:=by simpa using hb
  subst e;exact I1.fpOk (C3 _) (I1.hok.fresh (C3 _))
noncomputable def iRng1 (ta:TA):TI:=fun Y H R=>ta Y H fun vs H1=>∃ j:Int,vs=[.int j]/\-(2 ^ 62)<=j/\j<2 ^ 62/\R (q9 0 j.toNat) H1
noncomputable def iRng2 (ta:TA):TI:=fun Y H R=>ta Y H fun vs H1=>∃ i j:Int,vs=[.int i,.int j]/\(-(2 ^ 62)<=i/\i<2 ^ 62/\-(2 ^ 62)<=j/\j<2 ^ 62)/\R (q9 i (j-i).toNat) H1
theorem ajn{a:Expr}{ta:TA}{p pos:Pos}(hg:Gl X "range")(hm:X.mg "range"=none)(ha:PA X [a] ta)(hs:starEach [a] X.env=[(false,eval a X.env)]:=by rfl):PI X tg (.Call (.Name "range" p) [a] [] pos) (iRng1 ta):=by
 intro pins s Y H R I h;refine Call_ (cH I hg hm boot_range (PyProof.Rows.callWith_type1 (A8 (ha pos pins s Y H _ I h) fun us s1 ⟨vs,H1,I1,r1,q1⟩=>?_) hs rfl));obtain ⟨j,e,q1,q2,q⟩:=q1;subst e
 cases r1 with
 | cons r rr=>
  cases rr
  obtain ⟨t,rfl⟩:=r;exact call_range_1 (ahJ I1 'a' 'a' q1 q2 (by simpa using q))
theorem ajo{a b:Expr}{ta:TA}{p pos:Pos}(hg:Gl X "range")(hm:X.mg "range"=none)(ha:PA X [a,b] ta)(hs:starEach [a,b] X.env=[(false,eval a X.env),(false,eval b X.env)]:=by rfl)(dC:starEach [b] X.env=[(false,eval b X.env)]:=by rfl) :
  PI X tg (.Call (.Name "range" p) [a,b] [] pos) (iRng2 ta):=by
 intro pins s Y H R I h;refine Call_ (cH I hg hm boot_range (PyProof.Rows.callWith_type1 (A8 (ha pos pins s Y H _ I h) fun us s1 ⟨vs,H1,I1,r1,q1⟩=>?_) (by rw [hs,dC]) (by rw [dC];rfl)));obtain ⟨i,j,e,⟨q1,q2,q3,q4⟩,q⟩:=q1;subst e
 cases r1 with
 | cons r rr=>
  cases rr with
  | cons r' rr=>
   cases rr
   obtain ⟨t,rfl⟩:=r;obtain ⟨t',rfl⟩:=r';exact call_range_2 (ahJ I1 q1 q2 q3 q4 q)
noncomputable def tFor (wi:TI) (g:TG) (tb:TS):TS:=fun D Y H=>wi Y H fun J H1=>∃ W:Nat->Nat->St->Hp->Prop,(∃ m,W 0 m Y H1)/\∀ i m Y H,W i m Y H->
 (J.stop i H/\D.nx Y H)\/(J.go i H/\∃ N:St->Hp->Prop,(∀ σ' H',N σ' H'->∃ m',m'<m/\W (i+1) m' σ' H')/\∀ x H',J.yld i H x H'->g x Y H' fun σ2 H2=>tb { D with nx:=N,ct:=N,bk:=D.nx } σ2 H2)
noncomputable def kE (fp:List Addr) (h:Heap):List (Addr×Obj):=fp.filterMap fun b=>(h.get? b).map fun o=>(b,o)
theorem kF{fp:List Addr}{h:Heap}{b:Addr}{o:Obj}(hb:b∈fp)(e:h.get? b=some o):(b,o)∈kE fp h:=jV.mpr ⟨b,hb,by rw [e];rfl⟩
theorem ajp{fp:List Addr}{h:Heap}{p:Addr×Obj}(hp:p∈kE fp h):p.1∈fp/\h.get? p.1=some p.2:=by
 obtain ⟨b,hb,e⟩:=jV.mp hp
 cases q:h.get? b with
 | none=>rw [q] at e;cases e
 | some o=>
  rw [q] at e;have e':(b,o)=p:=Option.some.inj e;subst e';exact ⟨hb,q⟩
theorem Inv.pinned{pins:List (Addr×Obj)}{Y:St}{H:Hp}{s:Shared}{fp:List Addr}(I:Inv X pins Y H s)(hf:∀ b∈fp,FpOk X pins H b)(ho:∀ b∈fp,∃ o,s.heap.get? b=some o/\∀ v,o.data≠.cell v):Inv X (pins++kE fp s.heap) Y H s:=
 I.pins_of fun p hp=>(E8.mp hp).elim (fun z=>I.pin p (O4 _ z)) fun z=>by
  obtain ⟨hb,e⟩:=ajp z;obtain ⟨f0,f1,f2,_⟩:=hf p.1 hb;obtain ⟨o,e',d⟩:=ho p.1 hb;rw [e] at e';cases e';exact ⟨e,f0,f1,f2,d⟩
theorem Inv.unpinned{pins pl:List (Addr×Obj)}{Y:St}{H:Hp}{s:Shared}(I:Inv X (pins++pl) Y H s):Inv X pins Y H s:=I.pins_of fun p hp=>I.pin p (O4 _ (Q2 _ hp))
theorem aql{iter:Expr}{body:List Stmt}{wi:TI}{g:TG}{tb:TS}{pos:Pos}(hp:PassesOwn 'b' X.A X.env X.xe)(hc:X.calm=true)(hi:PI X tg iter wi)(hg:PG X tg g)(hb:Z9 X body tb)(hs:∀ x,foldedSetIterable iter X.env x=pure x:=by intro _;rfl):PS X (.For tg iter body [] pos) (tFor wi g tb):=by
 intro pins s Y H D I h;refine wpAny_For (A8 (hi pins s Y H _ I h) fun v s1 h1=>A8 h1 fun itv s2 h2=>?_) hs;obtain ⟨it,fp,tn,J,H2,e,I2,T,pN,f2,W,⟨m0,w0⟩,turn⟩:=h2;subst e;have stat:∀ {H':Hp},(∀ b∈fp,H' b=none)->∀ b∈fp,FpOk X pins H' b:=fun hn b hb=>⟨hn b hb,(f2 b hb).2⟩
 refine codeAny_forLoop_any (fun n s'=>∃ i σ' H',Inv X pins σ' H' s'/\tn i s'.heap/\(∀ b∈fp,H' b=none)/\W i n σ' H') ?_ m0 ⟨0,Y,H2,I2,pN,fun b hb=>(f2 b hb).1,w0⟩;rintro n s3 ⟨i,σ3,H3,I3,fK,pO,w3⟩
 rcases turn i n σ3 H3 w3 with ⟨stop,qn⟩ | ⟨go,N,hN,step⟩
 .refine wpAny_passesOwn hp (A8 (T.done X rfl rfl rfl hc i pins s3 σ3 H3 X.xe I3 (stat pO) fK stop) fun r s4 ⟨hr,I4⟩=>?_);subst hr;exact wpAny_execs_nil ⟨σ3,H3,I4,qn⟩
 .refine wpAny_passesOwn hp (A8 (T.item X rfl rfl rfl hc i pins s3 σ3 H3 X.xe I3 (stat pO) fK go) fun r s4 ⟨u,hr,h4⟩=>?_);subst hr;refine wpAny_passesOwn hp (A8 h4 fun _ s5 ⟨x,H5,I5,r5,y5,iQ,zZ⟩=>?_);have I5':=I5.pinned (stat zZ) (T.obj _ _ iQ);refine wpAny_passesOwn hp (A8 (hg _ s5 σ3 H5 x u _ I5' r5 (step x H5 y5)) fun _ s6 ⟨σ6,H6,I6,q6⟩=>?_);refine wpAny_passesOwn hp (A8 (hb _ s6 σ6 H6 _ I6 q6) fun f s7 q7=>?_);have again:∀ {σ7:St} {H7:Hp},Inv X (pins++kE fp s5.heap) σ7 H7 s7->N σ7 H7->∃ m,m<n/\∃ i σ' H',Inv X pins σ' H' s7/\tn i s7.heap/\(∀ b∈fp,H' b=none)/\W i m σ' H':=fun {σ7 H7} I7 n7=>by
   obtain ⟨m',hm,w7⟩:=hN σ7 H7 n7;refine ⟨m',hm,i+1,σ7,H7,I7.unpinned,T.keep _ _ _ iQ fun b hb o e=>(I7.pin (b,o) (O4 _ (O4 _ (kF hb e)))).1,fun b hb=>?_,w7⟩;obtain ⟨o,e,d⟩:=T.obj _ _ iQ b hb;exact (I7.pin (b,o) (O4 _ (O4 _ (kF hb e)))).2.1
  cases f with
  | next=>obtain ⟨σ7,H7,I7,n7⟩:=q7;exact again I7 n7
  | cont=>obtain ⟨σ7,H7,I7,n7⟩:=q7;exact again I7 n7
  | brk=>obtain ⟨σ7,H7,I7,q7⟩:=q7;exact ⟨σ7,H7,I7.unpinned,q7⟩
  | ret v=>obtain ⟨x7,σ7,H7,I7,r7,q7⟩:=q7;exact ⟨x7,σ7,H7,I7.unpinned,r7,q7⟩
end
theorem alm{K:PySem.W.Frag}{a:Addr}{xs:List V}{g:TG}{tb:TS}{D:Ends}{Y:St}{H:Hp}(Pv:Nat->St->Hp->Prop)(h0:Pv 0 Y H)(hl:∀ i Y H,i<=xs.length->Pv i Y H->D8 K H a xs)(hs:∀ i x Y H,xs[i]?=some x->Pv i Y H->g x Y H fun σ2 H2=>tb { D with nx:=Pv (i+1),ct:=Pv (i+1),bk:=D.nx } σ2 H2)(hd:∀ Y H,Pv xs.length Y H->D.nx Y H) :
  ∃ W:Nat->Nat->St->Hp->Prop,(∃ m,W 0 m Y H)/\∀ i m Y H,W i m Y H->
   ((aU K a).stop i H/\D.nx Y H)\/((aU K a).go i H/\∃ N:St->Hp->Prop,(∀ σ' H',N σ' H'->∃ m',m'<m/\W (i+1) m' σ' H')/\∀ x H',(aU K a).yld i H x H'->g x Y H' fun σ2 H2=>tb { D with nx:=N,ct:=N,bk:=D.nx } σ2 H2):=by
 refine ⟨fun i m Y H=>m=xs.length-i/\i<=xs.length/\Pv i Y H,⟨xs.length,by simp,G4 _,h0⟩,?_⟩;rintro i m Y H ⟨rfl,hi,p⟩;have q:=hl i Y H hi p
 by_cases C5:i<xs.length
 .refine .inr ⟨⟨xs,xs[i],q,by simp [C5]⟩,Pv (i+1),fun σ' H' p'=>⟨xs.length-(i+1),by lia,rfl,C5,p'⟩,fun x H' y=>?_⟩;obtain ⟨e,y⟩:=y;subst e;exact hs i x Y _ (y xs q) p
 .have e:i=xs.length:=by lia
  subst e;exact .inl ⟨⟨xs,q,C3 _⟩,hd Y H p⟩
theorem anv{K:PySem.W.Frag}{a:Addr}{xs:List V}{g:TG}{tb:TS}{D:Ends}{Y:St}{H:Hp}(Pv:Nat->St->Hp->Prop)(h0:Pv 0 Y H)(hl:∀ i Y H,i<=xs.length->Pv i Y H->B1 K H a xs)(hs:∀ i x Y H,xs[i]?=some x->Pv i Y H->g x Y H fun σ2 H2=>tb { D with nx:=Pv (i+1),ct:=Pv (i+1),bk:=D.nx } σ2 H2)(hd:∀ Y H,Pv xs.length Y H->D.nx Y H) :
  ∃ W:Nat->Nat->St->Hp->Prop,(∃ m,W 0 m Y H)/\∀ i m Y H,W i m Y H->
   ((eN K a).stop i H/\D.nx Y H)\/((eN K a).go i H/\∃ N:St->Hp->Prop,(∀ σ' H',N σ' H'->∃ m',m'<m/\W (i+1) m' σ' H')/\∀ x H',(eN K a).yld i H x H'->g x Y H' fun σ2 H2=>tb { D with nx:=N,ct:=N,bk:=D.nx } σ2 H2):=by
 refine ⟨fun i m Y H=>m=xs.length-i/\i<=xs.length/\Pv i Y H,⟨xs.length,by simp,G4 _,h0⟩,?_⟩;rintro i m Y H ⟨rfl,hi,p⟩;have q:=hl i Y H hi p
 by_cases C5:i<xs.length
 .refine .inr ⟨⟨xs,xs[i],q,by simp [C5]⟩,Pv (i+1),fun σ' H' p'=>⟨xs.length-(i+1),by lia,rfl,C5,p'⟩,fun x H' y=>?_⟩;obtain ⟨e,y⟩:=y;subst e;exact hs i x Y _ (y xs q) p
 .have e:i=xs.length:=by lia
  subst e;exact .inl ⟨⟨xs,q,C3 _⟩,hd Y H p⟩
theorem ajq{lo:Int}{n:Nat}{g:TG}{tb:TS}{D:Ends}{Y:St}{H:Hp}(Pv:Nat->St->Hp->Prop)(h0:Pv 0 Y H)(hs:∀ i Y H,i<n->Pv i Y H->g (.int (lo+i)) Y H fun σ2 H2=>tb { D with nx:=Pv (i+1),ct:=Pv (i+1),bk:=D.nx } σ2 H2)(hd:∀ Y H,Pv n Y H->D.nx Y H) :
  ∃ W:Nat->Nat->St->Hp->Prop,(∃ m,W 0 m Y H)/\∀ i m Y H,W i m Y H->
   ((q9 lo n).stop i H/\D.nx Y H)\/((q9 lo n).go i H/\∃ N:St->Hp->Prop,(∀ σ' H',N σ' H'->∃ m',m'<m/\W (i+1) m' σ' H')/\∀ x H',(q9 lo n).yld i H x H'->g x Y H' fun σ2 H2=>tb { D with nx:=N,ct:=N,bk:=D.nx } σ2 H2):=by
 refine ⟨fun i m Y H=>m=n-i/\i<=n/\Pv i Y H,⟨n,by simp,G4 _,h0⟩,?_⟩;rintro i m Y H ⟨rfl,hi,p⟩
 by_cases C5:i<n
 .refine .inr ⟨C5,Pv (i+1),fun σ' H' p'=>⟨n-(i+1),by lia,rfl,C5,p'⟩,fun x H' y=>?_⟩;obtain ⟨e,y⟩:=y;subst e y;exact hs i Y _ C5 p
 .have e:i=n:=by lia
  subst e;exact .inl ⟨C3 _,hd Y H p⟩
noncomputable abbrev R2:=V->V->Hp->VK->Prop
noncomputable def G7 (X:Cx) (f:Value->Value->Sem Value) (r:R2):Prop:=
 ∀ (pins:List (Addr×Obj)) (s:Shared) (Y:St) (H:Hp) (x y:V) (v u:Value) (Q:VK),Inv X pins Y H s->RelV x v->RelV y u->r x y H Q->
  wpAny 'b' X.A (f v u) (EP X pins Y Q) X.xe s
noncomputable def rC (X:Cx) (f:Value->Sem Value) (r:V->Hp->VK->Prop):Prop:=
 ∀ (pins:List (Addr×Obj)) (s:Shared) (Y:St) (H:Hp) (x:V) (v:Value) (Q:VK),Inv X pins Y H s->RelV x v->r x H Q->
  wpAny 'b' X.A (f v) (EP X pins Y Q) X.xe s
noncomputable def CallR (X:Cx) (f:Value) (r:List V->Hp->VK->Prop):Prop:=
 ∀ (pins:List (Addr×Obj)) (s:Shared) (Y:St) (H:Hp) (xs:List V) (us:List Value) (Q:VK),Inv X pins Y H s->Vals xs us->r xs H Q->
  wpAny 'b' X.A (call f us) (EP X pins Y Q) X.xe s
noncomputable def TruR (X:Cx) (r:V->Hp->(Bool->Hp->Prop)->Prop):Prop:=
 ∀ (pins:List (Addr×Obj)) (s:Shared) (Y:St) (H:Hp) (x:V) (v:Value) (Q:Bool->Hp->Prop),Inv X pins Y H s->RelV x v->r x H Q->
  wpAny 'b' X.A (truthy v) (TP X pins Y Q) X.xe s
noncomputable def cI (r:R2) (ta tb:TE):TE:=fun Y H Q=>ta Y H fun x H1=>tb Y H1 fun y H2=>r x y H2 Q
noncomputable def vB (r:V->Hp->VK->Prop) (ta:TE):TE:=fun Y H Q=>ta Y H fun x H1=>r x H1 Q
noncomputable def rI (C:Int->Int->Prop) (g:Int->Int->V):R2:=fun x y H Q=>∃ i j,x=.int i/\y=.int j/\C i j/\Q (g i j) H
noncomputable def aV (g:Int->Int->V):R2:=fun x y H Q=>∃ i j,x=.int i/\y=.int j/\Q (g i j) H
noncomputable def rU (g:Int->V):V->Hp->VK->Prop:=fun x H Q=>∃ i,x=.int i/\Q (g i) H
section
variable {X:Cx} {a b c:Expr} {ta tb tc:TE} {pos:Pos}
theorem binT(ha:PE X a ta)(hb:PE X b tb){pins:List (Addr×Obj)}{s:Shared}{Y:St}{H:Hp}{R:V->V->Hp->Prop}(I:Inv X pins Y H s)(h:ta Y H fun x H1=>tb Y H1 fun y H2=>R x y H2){Q:Value->Shared->Prop}{f:Value->Value->Sem Value}(hf:∀ v u s2 x y H2,Inv X pins Y H2 s2->RelV x v->RelV y u->R x y H2->wpAny 'b' X.A (f v u) Q X.xe s2) :
  wpAny 'b' X.A (eval a X.env) (fun v zu=>wpAny 'b' X.A (eval b X.env) (fun u zx=>wpAny 'b' X.A (f v u) Q X.xe zx) X.xe zu) X.xe s:=by
 refine A8 (ha pins s Y H _ I h) fun v s1 ⟨x,H1,I1,r1,q1⟩=>?_
 refine A8 (hb pins s1 Y H1 _ I1 q1) fun u s2 ⟨y,H2,I2,r2,q2⟩=>?_
 exact hf v u s2 x y H2 I2 r1 r2 q2
theorem pe_op{op:Operator}{r:R2}(ho:G7 X (binaryOp op) r)(ha:PE X a ta)(hb:PE X b tb):PE X (.BinOp a op b pos) (cI r ta tb):=by
 sleep 1;exact wpAny_BinOp (binT ha hb I h fun v u s2 x y H2 I2 rx ry q=>ho pins s2 Y H2 x y v u Q I2 rx ry q)
theorem pe_un{op:UnaryOp}{r:V->Hp->VK->Prop}(ho:rC X (unaryOp op) r)(ha:PE X a ta):PE X (.UnaryOp op a pos) (vB r ta):=by
 sleep 1;exact UnaryOp_ (A8 (ha pins s Y H _ I h) fun v s1 ⟨x,H1,I1,r1,q1⟩=>ho pins s1 Y H1 x v Q I1 r1 q1)
theorem vC{f:Value->Value->Sem Value}{C:Int->Int->Prop}{g:Int->Int->Int}(rule:∀ (i j:Int) (t u:Tok) (s:Shared) (Q:Value->Shared->Prop) (E:Value->Shared->Prop),C i j->Q (.int (g i j) s.toks) { s with toks:=s.toks+1 }->wpAny 'b' X.A (f (.int i t) (.int j u)) Q E s) :
  G7 X f (rI C fun i j=>.int (g i j)):=by
 sleep 0;obtain ⟨i,j,rfl,rfl,hc,q⟩:=h;obtain ⟨t,rfl⟩:=rx;obtain ⟨t',rfl⟩:=ry;exact rule i j t t' s _ _ hc ⟨.int (g i j),H,I.tok _,⟨_,rfl⟩,q⟩
theorem opI0{f:Value->Value->Sem Value}{g:Int->Int->Int}(rule:∀ (i j:Int) (t u:Tok) (s:Shared) (Q:Value->Shared->Prop) (E:Value->Shared->Prop),Q (.int (g i j) s.toks) { s with toks:=s.toks+1 }->wpAny 'b' X.A (f (.int i t) (.int j u)) Q E s) :
  G7 X f (aV fun i j=>.int (g i j)):=by
 sleep 0;obtain ⟨i,j,rfl,rfl,q⟩:=h;obtain ⟨t,rfl⟩:=rx;obtain ⟨t',rfl⟩:=ry;exact rule i j t t' s _ _ ⟨.int (g i j),H,I.tok _,⟨_,rfl⟩,q⟩
theorem opB0{f:Value->Value->Sem Value}{g:Int->Int->Bool}(rule:∀ (i j:Int) (t u:Tok) (s:Shared) (Q:Value->Shared->Prop) (E:Value->Shared->Prop),Q (.bool (g i j)) s->wpAny 'b' X.A (f (.int i t) (.int j u)) Q E s) :
  G7 X f (aV fun i j=>.bl (g i j)):=by
 sleep 0;obtain ⟨i,j,rfl,rfl,q⟩:=h;obtain ⟨t,rfl⟩:=rx;obtain ⟨t',rfl⟩:=ry;exact rule i j t t' s _ _ ⟨.bl (g i j),H,I,rfl,q⟩
noncomputable def CDiv (i j:Int):Prop:=0<j/\j<1073741824
noncomputable def CMul (i j:Int):Prop:=(-(2 ^ 64)<i/\i<2 ^ 64)\/(-(2 ^ 64)<j/\j<2 ^ 64)
theorem CMul.ok{i j:Int}(h:CMul i j):IntMulOk i j:=by
 rcases h with ⟨h1,h2⟩ | ⟨h1,h2⟩
 .exact .of_left (intBits_le_64 h1 h2)
 .exact .of_right (intBits_le_64 h1 h2)
theorem aqm:G7 X (binaryOp .Add) (aV fun i j=>.int (i+j)):=opI0 fun _ _ _ _ _ _ _ q=>add_int q
theorem aqn:G7 X (binaryOp .Sub) (aV fun i j=>.int (i-j)):=opI0 fun _ _ _ _ _ _ _ q=>sub_int q
theorem aqo:G7 X (binaryOp .Mult) (rI CMul fun i j=>.int (i*j)):=vC fun _ _ _ _ _ _ _ hc q=>mul_int q hc.ok
theorem anw:G7 X (binaryOp .FloorDiv) (rI CDiv fun i j=>.int (i / j)):=vC fun i j _ _ _ _ _ hc q=>by
 have h1:(0:Int)<j:=hc.1;have h2:j<1073741824:=hc.2;exact floordiv_int 'a' (by rw [Int.fdiv_eq_ediv_of_nonneg i 'a'];exact q) (.inl (PyProof.noPylong_small 'a'))
theorem aqp:G7 X (binaryOp .Mod) (rI (fun _ j=>0<j) fun i j=>.int (i % j)):=vC fun i j _ _ _ _ _ hc q=>by
 have h1:(0:Int)<j:=hc;exact mod_int' 'a' (by rw [Int.fmod_eq_emod_of_nonneg i 'a'];exact q)
theorem unI{f:Value->Sem Value}{g:Int->Int}(rule:∀ (i:Int) (t:Tok) (s:Shared) (Q:Value->Shared->Prop) (E:Value->Shared->Prop),Q (.int (g i) s.toks) { s with toks:=s.toks+1 }->wpAny 'b' X.A (f (.int i t)) Q E s) :
  rC X f (rU fun i=>.int (g i)):=by
 intro pins s Y H x v Q I rx h;obtain ⟨i,rfl,q⟩:=h;obtain ⟨t,rfl⟩:=rx;exact rule i t s _ _ ⟨.int (g i),H,I.tok _,⟨_,rfl⟩,q⟩
theorem aqq:rC X (unaryOp .USub) (rU fun i=>.int (-i)):=unI fun _ _ _ _ _ q=>neg_int q
end
noncomputable def scal:V->V->Bool
 | .non,.non=>true | .non,.int _=>true | .int _,.non=>true | .non,.bl _=>true | .bl _,.non=>true | .non,.str _=>true | .str _,.non=>true
 | .int _,.int _=>true | .bl _,.bl _=>true | .str _,.str _=>true | .byt _,.byt _=>true
 | .int _,.str _=>true | .str _,.int _=>true | .bl _,.str _=>true | .str _,.bl _=>true
 | _,_=>false
noncomputable def rEq:R2:=fun x y H Q=>scal x y=true/\Q (.bl (decide (x=y))) H
noncomputable def rNe:R2:=fun x y H Q=>scal x y=true/\Q (.bl (!decide (x=y))) H
theorem ajr{i j:Int} : decide (V.int i=V.int j)=(i==j):=by
 rw [kA]
 simp
theorem amN{i j:Bool} : decide (V.bl i=V.bl j)=(i==j):=by
 rw [kA]
 simp
theorem ajs{i j:Str} : decide (V.str i=V.str j)=(i==j):=by
 rw [kA]
 simp
theorem ajt{i j:Array UInt8} : decide (V.byt i=V.byt j)=(i.toList==j.toList):=by
 rw [kA]
 cases i
 cases j
 simp
section
variable {X:Cx} {a b c:Expr} {ta tb tc:TE} {pos:Pos}
theorem M0{pins:List (Addr×Obj)}{Y:St}{H:Hp}{s:Shared}{Q:VK}{k k':Bool}(I:Inv X pins Y H s)(q:Q (.bl k) H)(e:k=k'):EP X pins Y Q (.bool k') s:=by
 subst e;exact ⟨.bl k,H,I,rfl,q⟩
theorem op_eq:G7 X (compareOp .Eq) rEq:=by
 sleep 0;obtain ⟨hs,q⟩:=h
 cases x with
 | non=>
  cases rx
  cases y with
  | non=>cases ry;exact PySem.EqNone.eq_none_none (M0 I q 'c')
  | bl j=>cases ry;exact PySem.EqNone.eq_none_bool (M0 I q 'c')
  | int j=>obtain ⟨t',rfl⟩:=ry;exact PySem.EqNone.eq_none_int (M0 I q 'c')
  | str j=>obtain ⟨t',rfl⟩:=ry;exact PySem.EqNone.eq_none_str (M0 I q 'c')
  | _=>exact absurd (show false=true from hs) L8
 | bl i=>
  cases rx
  cases y with
  | non=>cases ry;exact PySem.EqNone.eq_bool_none (M0 I q 'c')
  | bl j=>cases ry;exact eq_bool (M0 I q amN)
  | str j=>obtain ⟨t',rfl⟩:=ry;exact PySem.EqMixed.eq_bool_str (M0 I q 'c')
  | _=>exact absurd (show false=true from hs) L8
 | int i=>
  obtain ⟨t,rfl⟩:=rx
  cases y with
  | non=>cases ry;exact PySem.EqNone.eq_int_none (M0 I q 'c')
  | int j=>obtain ⟨t',rfl⟩:=ry;exact eq_int (M0 I q ajr)
  | str j=>obtain ⟨t',rfl⟩:=ry;exact PySem.EqMixed.eq_int_str (M0 I q 'c')
  | _=>exact absurd (show false=true from hs) L8
 | str i=>
  obtain ⟨t,rfl⟩:=rx
  cases y with
  | non=>cases ry;exact PySem.EqNone.eq_str_none (M0 I q 'c')
  | bl j=>cases ry;exact PySem.EqMixed.eq_str_bool (M0 I q 'c')
  | int j=>obtain ⟨t',rfl⟩:=ry;exact PySem.EqMixed.eq_str_int (M0 I q 'c')
  | str j=>obtain ⟨t',rfl⟩:=ry;exact eq_str (M0 I q ajs)
  | _=>exact absurd (show false=true from hs) L8
 | byt i=>
  obtain ⟨t,rfl⟩:=rx
  cases y with
  | byt j=>obtain ⟨t',rfl⟩:=ry;exact PySem.W.eq_bytes (M0 I q ajt)
  | _=>exact absurd (show false=true from hs) L8
 | _=>cases y <;> exact absurd (show false=true from hs) L8
theorem op_ne:G7 X (compareOp .NotEq) rNe:=by
 sleep 0;obtain ⟨hs,q⟩:=h
 cases x with
 | non=>
  cases rx
  cases y with
  | non=>cases ry;exact PySem.EqNone.ne_none_none (M0 I q 'c')
  | bl j=>cases ry;exact PySem.EqNone.ne_none_bool (M0 I q 'c')
  | int j=>obtain ⟨t',rfl⟩:=ry;exact PySem.EqNone.ne_none_int (M0 I q 'c')
  | str j=>obtain ⟨t',rfl⟩:=ry;exact PySem.EqNone.ne_none_str (M0 I q 'c')
  | _=>exact absurd (show false=true from hs) L8
 | bl i=>
  cases rx
  cases y with
  | non=>cases ry;exact PySem.EqNone.ne_bool_none (M0 I q 'c')
  | bl j=>cases ry;exact ne_bool (M0 I q (congrArg not amN))
  | str j=>obtain ⟨t',rfl⟩:=ry;exact PySem.EqMixed.ne_bool_str (M0 I q 'c')
  | _=>exact absurd (show false=true from hs) L8
 | int i=>
  obtain ⟨t,rfl⟩:=rx
  cases y with
  | non=>cases ry;exact PySem.EqNone.ne_int_none (M0 I q 'c')
  | int j=>obtain ⟨t',rfl⟩:=ry;exact ne_int (M0 I q (congrArg not ajr))
  | str j=>obtain ⟨t',rfl⟩:=ry;exact PySem.EqMixed.ne_int_str (M0 I q 'c')
  | _=>exact absurd (show false=true from hs) L8
 | str i=>
  obtain ⟨t,rfl⟩:=rx
  cases y with
  | non=>cases ry;exact PySem.EqNone.ne_str_none (M0 I q 'c')
  | bl j=>cases ry;exact PySem.EqMixed.ne_str_bool (M0 I q 'c')
  | int j=>obtain ⟨t',rfl⟩:=ry;exact PySem.EqMixed.ne_str_int (M0 I q 'c')
  | str j=>obtain ⟨t',rfl⟩:=ry;exact ne_str (M0 I q (congrArg not ajs))
  | _=>exact absurd (show false=true from hs) L8
 | byt i=>
  obtain ⟨t,rfl⟩:=rx
  cases y with
  | byt j=>obtain ⟨t',rfl⟩:=ry;exact PySem.W.ne_bytes (M0 I q (congrArg not ajt))
  | _=>exact absurd (show false=true from hs) L8
 | _=>cases y <;> exact absurd (show false=true from hs) L8
theorem op_lt:G7 X (compareOp .Lt) (aV fun i j=>.bl (decide (i<j))):=opB0 fun _ _ _ _ _ _ _ q=>lt_int q
theorem op_le:G7 X (compareOp .LtE) (aV fun i j=>.bl (decide (i<=j))):=opB0 fun _ _ _ _ _ _ _ q=>le_int q
theorem op_gt:G7 X (compareOp .Gt) (aV fun i j=>.bl (decide (j<i))):=opB0 fun _ _ _ _ _ _ _ q=>gt_int q
theorem afW:G7 X (compareOp .Lt) (fun x y H Q=>∃ i j,x=.str i/\y=.str j/\Q (.bl (decide (i.cps.toList<j.cps.toList))) H):=by
 sleep 0;obtain ⟨i,j,rfl,rfl,q⟩:=h;obtain ⟨t,rfl⟩:=rx;obtain ⟨t',rfl⟩:=ry;exact lt_str (M0 I q rfl)
theorem aju:G7 X (compareOp .In) (fun x y H Q=>∃ i j,x=.str i/\y=.str j/\Q (.bl (!(Builtin.Str.occurrences j i 0 j.length 1).isEmpty)) H):=by
 sleep 0;obtain ⟨i,j,rfl,rfl,q⟩:=h;obtain ⟨t,rfl⟩:=rx;obtain ⟨t',rfl⟩:=ry;exact in_str (M0 I q rfl)
theorem aqr:G7 X (compareOp .Is) (fun x y H Q=>y=.non/\Q (.bl (decide (x=.non))) H):=by
 sleep 0;obtain ⟨rfl,q⟩:=h
 cases ry
 refine is_none_gen (M0 I q ?_)
 cases x <;> first
  | (cases rx;rfl)
  | (obtain ⟨t,rfl⟩:=rx;rfl)
theorem anx:G7 X (compareOp .IsNot) (fun x y H Q=>y=.non/\Q (.bl (!decide (x=.non))) H):=by
 sleep 0;obtain ⟨rfl,q⟩:=h
 cases ry
 refine isnot_none_gen (M0 I q ?_)
 cases x <;> first
  | (cases rx;rfl)
  | (obtain ⟨t,rfl⟩:=rx;rfl)
theorem amO(b:Expr){op:CmpOp}(h:op≠.In:=by decide)(h2:op≠.NotIn:=by decide):behindInMarks op b=false:=by
 have e1:(op==CmpOp.In)=false:=by cases op <;> first | rfl | exact absurd rfl h
 have e2:(op==CmpOp.NotIn)=false:=by cases op <;> first | rfl | exact absurd rfl h2
 cases b <;> simp [behindInMarks,e1,e2]
theorem anz{op:CmpOp}{r:R2}(ho:G7 X (compareOp op) r)(ha:PE X a ta)(hb:PE X b tb)(hm:behindInMarks op b=false):PE X (.Compare a [op] [b] pos) (cI r ta tb):=by
 sleep 1;exact wpAny_Compare1 (binT ha hb I h fun v u s2 x y H2 I2 rx ry q=>ho pins s2 Y H2 x y v u Q I2 rx ry q) hm
noncomputable def tTest (t:TE):TT:=fun Y H Q=>t Y H fun x H'=>∃ k,x=.bl k/\Q k H'
theorem anA{op:CmpOp}{r:R2}(ho:G7 X (compareOp op) r)(ha:PE X a ta)(hb:PE X b tb)(hm:behindInMarks op b=false):PT X (.Compare a [op] [b] pos) (tTest (cI r ta tb)):=by
 sleep 1;refine wpAny_isTrue_Compare1 (A8 (ha pins s Y H _ I h) fun v s1 ⟨x,H1,I1,r1,q1⟩=>A8 (hb pins s1 Y H1 _ I1 q1) fun u s2 ⟨y,H2,I2,r2,q2⟩=>
  A8 (ho pins s2 Y H2 x y v u _ I2 r1 r2 q2) fun c s3 ⟨z,H3,I3,r3,k,e,q3⟩=>?_) hm
 subst e
 cases r3
 exact wpAny_truthy_bool ⟨H3,I3,q3⟩
noncomputable def nK (r r':R2) (ta tb tc:TE):TE:=fun Y H Q=>ta Y H fun x H1=>tb Y H1 fun y H2=>r x y H2 fun z H3=>∃ k,z=.bl k/\
 (if k=true then tc Y H3 fun w' H4=>r' y w' H4 Q else Q (.bl false) H3)
theorem aln{op op':CmpOp}{r r':R2}(ho:G7 X (compareOp op) r)(X9:G7 X (compareOp op') r')(ha:PE X a ta)(hb:PE X b tb)(hc:PE X c tc)(hm:lastMarks [op,op'] [b,c]=false:=by with_unfolding_all rfl):PE X (.Compare a [op,op'] [b,c] pos) (nK r r' ta tb tc):=by
 sleep 1;refine Compare_chain (A8 (ha pins s Y H _ I h) fun v s1 ⟨x,H1,I1,r1,q1⟩=>chain_link (A8 (hb pins s1 Y H1 _ I1 q1) fun u s2 ⟨y,H2,I2,r2,q2⟩=>
  A8 (ho pins s2 Y H2 x y v u _ I2 r1 r2 q2) fun d s3 ⟨z,H3,I3,r3,k,e,q3⟩=>?_)) hm
 subst e
 cases r3
 refine wpAny_truthy_bool ?_
 cases k with
 | false=>exact ite_ff ⟨.bl false,H3,I3,rfl,q3⟩
 | true=>exact ite_tt (chain_last (A8 (hc pins s3 Y H3 _ I3 q3) fun w' s4 ⟨z',H4,I4,r4,q4⟩=>X9 pins s4 Y H4 y z' u w' Q I4 r2 r4 q4))
theorem alo{op op':CmpOp}{r r':R2}(ho:G7 X (compareOp op) r)(X9:G7 X (compareOp op') r')(ha:PE X a ta)(hb:PE X b tb)(hc:PE X c tc)(hm:lastMarks [op,op'] [b,c]=false:=by with_unfolding_all rfl):PT X (.Compare a [op,op'] [b,c] pos) (tTest (nK r r' ta tb tc)):=by
 sleep 1;refine isTrue_chain (A8 (ha pins s Y H _ I h) fun v s1 ⟨x,H1,I1,r1,q1⟩=>test_link (A8 (hb pins s1 Y H1 _ I1 q1) fun u s2 ⟨y,H2,I2,r2,q2⟩=>
  A8 (ho pins s2 Y H2 x y v u _ I2 r1 r2 q2) fun d s3 ⟨z,H3,I3,r3,k,e,q3⟩=>?_)) hm
 subst e
 cases r3
 refine wpAny_truthy_bool ?_
 cases k with
 | false=>
  obtain ⟨k',e',q'⟩:=q3;cases e';exact ite_ff ⟨H3,I3,q'⟩
 | true=>
  refine ite_tt (test_last (A8 (hc pins s3 Y H3 _ I3 q3) fun w' s4 ⟨z',H4,I4,r4,q4⟩=>A8 (X9 pins s4 Y H4 y z' u w' _ I4 r2 r4 q4) fun d' s5 ⟨z2,H5,I5,r5,k2,e2,q5⟩=>?_));subst e2
  cases r5
  exact wpAny_truthy_bool ⟨H5,I5,q5⟩
noncomputable def TruV (K:PySem.W.Frag) (x:V) (H:Hp) (k:Bool):Prop:=
 match x with
 | .non=>k=false
 | .bl b=>k=b
 | .int i=>k=(i != 0)
 | .str y=>y.length<=sizeLine/\k=((y.length:Int) != 0)
 | .byt y=>y.size<=sizeLine/\k=((y.size:Int) != 0)
 | .ref p=>(∃ xs,D8 K H p xs/\k=!xs.isEmpty)\/(∃ xs,B1 K H p xs/\k=!xs.isEmpty)\/∃ kvs,H p=some (.dK kvs)/\k=!kvs.isEmpty
 | _=>False
theorem aiz{κ:Type}{kvs:List (κ×V)}{vs:List (κ×Value)}(r:KV kvs vs):(!vs.isEmpty)=!kvs.isEmpty:=by
 cases r <;> rfl
theorem ae3{xs:List V}{its:List Value}(r:Vals xs its):(!its.toArray.isEmpty)=!xs.isEmpty:=by
 cases r <;> simp
theorem kG:(sizeLine:Nat)<2 ^ 63:=by rw [sizeLine_eq];decide
theorem aqs:TruR X (fun x H Q=>∃ k,TruV X.K x H k/\Q k H):=by
 intro pins s Y H x v Q I rx h;obtain ⟨k,e,q⟩:=h;have hl:=kG;have hs:sizeLine=16777216:=sizeLine_eq
 cases x with
 | non=>
  cases rx
  have e':k=false:=e;subst e';exact truthy_none ⟨H,I,q⟩
 | bl b=>
  cases rx
  have e':k=b:=e;subst e';exact wpAny_truthy_bool ⟨H,I,q⟩
 | int i=>
  obtain ⟨t,rfl⟩:=rx;have e':k=(i != 0):=e;subst e';exact PySem.P.truthy_int ⟨H,I,q⟩
 | str y=>
  obtain ⟨t,rfl⟩:=rx;obtain ⟨hy,e'⟩:y.length<=sizeLine/\k=((y.length:Int) != 0):=e;subst e';exact PySem.P.truthy_str 'a' ⟨H,I.tok _,q⟩
 | byt y=>
  obtain ⟨t,rfl⟩:=rx;obtain ⟨hy,e'⟩:y.size<=sizeLine/\k=((y.size:Int) != 0):=e;subst e';exact PySem.W.truthy_bytes 'a' ⟨H,I.tok _,q⟩
 | ref p=>
  cases rx
  have e':(∃ xs,D8 X.K H p xs/\k=!xs.isEmpty)\/(∃ xs,B1 X.K H p xs/\k=!xs.isEmpty)\/∃ kvs,H p=some (.dK kvs)/\k=!kvs.isEmpty:=e
  rcases e' with ⟨xs,hx,e'⟩ | ⟨xs,hx,e'⟩ | ⟨kvs,hx,e'⟩
  .subst e';obtain ⟨its,r,pl,hz⟩:=I.list hx;have A9:=r.length;exact wpAny_truthy_list pl.isList (by simp only [K9];lia) ⟨H,I.tok _,by rw [ae3 r];exact q⟩
  .subst e';obtain ⟨its,r,pl,hz⟩:=I.tuple hx;have A9:=r.length;exact truthy_tuple pl (by simp only [K9];lia) ⟨H,I.tok _,by rw [ae3 r];exact q⟩
  .subst e';obtain ⟨hz,hS,vs,r,m⟩:kvs.length<=sizeLine/\(p==sysModules)=false/\∃ vs,KV kvs vs/\s.heap.DictOf (N4 X.prog X.w) p vs:=I.hok p _ hx;have A9:kvs.length=vs.length:=Paired.length r;exact wpAny_truthy_dict hS m 'a' ⟨H,I.tok _,by rw [aiz r];exact q⟩
 | _=>exact (show False from e).elim
theorem alp(ha:PE X a ta)(he:∀ whole,isTrue a X.env whole=(do let v <- whole;standAt a.pos;holding [v] (truthy v))) :
  PT X a (fun Y H Q=>ta Y H fun x H'=>∃ k,TruV X.K x H' k/\Q k H'):=by
 sleep 1;exact isTrue_plain (A8 (ha pins s Y H _ I h) fun v s1 ⟨x,H1,I1,r1,q1⟩=>aqs pins s1 Y H1 x v Q I1 r1 q1) (he _)
theorem aiA:G7 X (binaryOp .Add) (fun x y H Q=>∃ i j,x=.str i/\y=.str j/\i.length+j.length<=sizeLine/\Q (.str (i++j)) H):=by
 sleep 0;obtain ⟨i,j,rfl,rfl,hz,q⟩:=h;obtain ⟨t,rfl⟩:=rx;obtain ⟨t',rfl⟩:=ry;exact add_str (fun t' tk=>⟨.str (i++j),H,I.tok _,⟨_,rfl⟩,q⟩) hz
theorem vals1{x:V}{us:List Value}(r:Vals [x] us):∃ u,us=[u]/\RelV x u:=by
 cases r with
 | cons r1 r2=>cases r2;exact ⟨_,rfl,r1⟩
theorem vals2{x y:V}{us:List Value}(r:Vals [x,y] us):∃ u w',us=[u,w']/\RelV x u/\RelV y w':=by
 cases r with
 | cons r1 r2=>
  cases r2 with
  | cons r3 r4=>cases r4;exact ⟨_,_,rfl,r1,r3⟩
theorem ajv(hc:X.calm=true):CallR X (.builtin "min") (fun xs H Q=>∃ i j,xs=[.int i,.int j]/\Q (.int (if j<i then j else i)) H):=by
 intro pins s Y H xs us Q I r h;obtain ⟨i,j,rfl,q⟩:=h;obtain ⟨u,w',rfl,⟨t,rfl⟩,⟨t',rfl⟩⟩:=vals2 r;refine min_two_ints (I.ok.hd hc) fun h' tk k=>⟨_,H,I.kept k,?_,q⟩
 by_cases hj:j<i
 .rw [if_pos hj,if_pos hj];exact ⟨_,rfl⟩
 .rw [if_neg hj,if_neg hj];exact ⟨_,rfl⟩
theorem ajw:CallR X (.type "int") (fun xs H Q=>(∃ i,xs=[.int i]/\Q (.int i) H)\/∃ k,xs=[.bl k]/\Q (.int (if k then 1 else 0)) H):=by
 intro pins s Y H xs us Q I r h
 rcases h with ⟨i,rfl,q⟩ | ⟨k,rfl,q⟩
 .obtain ⟨u,rfl,t,rfl⟩:=vals1 r;exact call_int_int ⟨.int i,H,I,⟨_,rfl⟩,q⟩
 .obtain ⟨u,rfl,r1⟩:=vals1 r
  cases r1
  exact call_int_bool ⟨.int (if k then 1 else 0),H,I.tok _,⟨_,rfl⟩,q⟩
noncomputable def LenV (K:PySem.W.Frag) (x:V) (H:Hp) (n:Nat):Prop:=
 match x with
 | .str y=>y.length<=sizeLine/\n=y.length
 | .byt y=>y.size<=sizeLine/\n=y.size
 | .ref p=>(∃ xs,D8 K H p xs/\n=xs.length)\/∃ xs,B1 K H p xs/\n=xs.length
 | _=>False
theorem vD:CallR X (.builtin "len") (fun xs H Q=>∃ x n,xs=[x]/\LenV X.K x H n/\Q (.int n) H):=by
 intro pins s Y H xs us Q I r h;obtain ⟨x,n,rfl,e,q⟩:=h;obtain ⟨u,rfl,rx⟩:=vals1 r;have hl:=kG;have hs:sizeLine=16777216:=sizeLine_eq
 cases x with
 | str y=>
  obtain ⟨t,rfl⟩:=rx;obtain ⟨hy,e'⟩:y.length<=sizeLine/\n=y.length:=e;subst e';exact len_str 'a' ⟨.int _,H,I.tok _,⟨_,rfl⟩,q⟩
 | byt y=>
  obtain ⟨t,rfl⟩:=rx;obtain ⟨hy,e'⟩:y.size<=sizeLine/\n=y.size:=e;subst e';exact PySem.W.len_bytes 'a' ⟨.int _,H,I.tok _,⟨_,rfl⟩,q⟩
 | ref p=>
  cases rx
  have e':(∃ xs,D8 X.K H p xs/\n=xs.length)\/∃ xs,B1 X.K H p xs/\n=xs.length:=e
  rcases e' with ⟨xs,hx,e'⟩ | ⟨xs,hx,e'⟩
  .subst e';obtain ⟨its,r',pl,hz⟩:=I.list hx;have A9:=r'.length;exact Calls.call_len_list pl.isList (by simp only [K9];lia) ⟨.int xs.length,H,I.tok _,⟨_,by simp only [K9];rw [A9]⟩,q⟩
  .subst e';obtain ⟨its,r',pl,hz⟩:=I.tuple hx;have A9:=r'.length;exact len_tuple pl (by simp only [K9];lia) ⟨.int xs.length,H,I.tok _,⟨_,by simp only [K9];rw [A9]⟩,q⟩
 | _=>exact (show False from e).elim
end
structure ObjM(h:Heap)(x dx C:Addr)(mA:Str->Option Value):Prop where
 obj:h.get? x=some (eJ C dx)
 ns:h.Ns1 dx mA
 ne:dx≠x
theorem ajx{h:Heap}{dx:Addr}{mA:Str->Option Value}(n:h.Ns1 dx mA):∃ od,h.get? dx=some od/\∀ name,PySem.W.lookIn name od=some (mA name):=by
 obtain ⟨o,es,ep,ho,hd,hk,_,hm⟩:=n;refine ⟨o,ho,fun name=>?_⟩;have e:=hm name;unfold nsFind findBy at e;rw [<- Array.find?_toList] at e;unfold PySem.W.lookIn;rw [hd]
 dsimp only
 split
 .rename_i y q
  rw [q] at e;exact congrArg some e
 .rename_i q
  rw [q] at e;have a:es.toList.any (·.refKey)=false:=by
   rw [List.any_eq_false];intro y hy;obtain ⟨z,t,m9⟩:=hk y (Array.mem_toList_iff.mp hy);simp [DictEntry.refKey,m9]
  have a':¬ es.toList.any (·.refKey)=true:=by rw [a];exact L8
  rw [if_neg a'];exact congrArg some e
theorem ObjM.look{h:Heap}{x dx C:Addr}{mA:Str->Option Value}(I:ObjM h x dx C mA):∃ od,PySem.W.InstAt h x (eJ C dx) C (some od)/\∀ name,PySem.W.lookIn name od=some (mA name):=
 let ⟨od,ho,hl⟩:=ajx I.ns
 ⟨od,⟨I.obj,rfl,rfl,ho⟩,hl⟩
section
variable {prog:Program} {w:World} {A:Around} {E:Value->Shared->Prop} {s:Shared} {K:PySem.W.Frag} {x dx C f:Addr} {mA:Str->Option Value} {name:Str} {v:Value}
theorem anB{expr:Bool}{Q:Value->Shared->Prop}(X:K.In s.heap)(I:ObjM s.heap x dx C mA)(hg:nE K C name=true)(hh:PySem.W.hasDictIn K C=true)(ha:U5 K (.ref C) name=some none)(hv:mA name=some v)(tU:PySem.W.handedIn v=true)(h:Q v { s with toks:=s.toks+1 }) :
  wpAny (model prog w) A (getAttr (.ref x) name expr) Q E s:=by
 obtain ⟨od,J,hl⟩:=I.look;exact PySem.W.get_value X J (PySem.W.plainGet_of hg).1 (PySem.W.findObj_own hh ha rfl (by rw [hl,hv])) tU h
theorem alq{pl:Sem Bool}{Q:Value×List Value->Shared->Prop}(X:K.In s.heap)(I:ObjM s.heap x dx C mA)(hg:nE K C name=true)(hf:U5 K (.ref C) name=some (some (.ref f)))(ht:gL K (.ref f)=true)(hv:mA name=none)(h:Q (.ref f,[.ref x]) s) :
  wpAny (model prog w) A (getMethod (.ref x) name pl) Q E s:=by
 obtain ⟨od,J,hl⟩:=I.look;exact PySem.W.method_fn X J (PySem.W.plainGet_of hg).1 (PySem.W.plainGet_of hg).2 hf (beq_iff_eq.mp ht) (by show (PySem.W.lookIn name od).map (·.isSome)=some false;rw [hl,hv];rfl) h
theorem anC{ns:List Str}{Q:Unit->Shared->Prop}(X:K.In s.heap)(I:ObjM s.heap x dx C mA)(hs:U5 K (.ref C) "__setattr__"=some (some (.builtin "object.__setattr__")))(hp:PySem.W.plainOver K C=true)(ht:PySem.W.takerIn K C name=some none)(hh:PySem.W.hasDictIn K C=true)(hw:PySem.Within mA ns)(hsz:ns.length<=sizeLine)(h:∀ h',ObjM h' x dx C (fun y=>if y=name then some v else mA y)->Heap.SameBut dx s.heap h'->Q () { s with heap:=h',toks:=s.toks+2 }) :
  wpAny (model prog w) A (setAttr (.ref x) name v) Q E s:=by
 obtain ⟨od,J,hl⟩:=I.look;refine PySem.W.set_plain X J hs (PySem.W.osa_open (s:={ s with toks:=s.toks+1 }) (r:=none) X J hp ht fun b=>?_);obtain ⟨cd,hc,iP⟩:=PySem.W.any_some hh;have hx:s.heap.get? x=some ⟨.ref C,some dx,.plain,#[]⟩:=I.obj;refine wpAny_bind (wpAny_pure (wpAny_bind (wpAny_bind (wpAny_loadPart hx (wpAny_bind (PySem.W.Looks.here (s:={ s with toks:=s.toks+1 }) (PySem.W.looks_clsIn X hc) ?_))))));rw [iP];refine wpAny_pure (a:=some dx) (wpAny_bind (wpAny_pure (wpAny_bind ?_)));refine wpAny_nsSet1 (s:={ s with toks:=s.toks+1 }) I.ns fun h' tV dC=>?_
 obtain ⟨oD,esD,epD,hoD,hdD,hcD⟩:=tV.count (PySem.Within.cons name v hw);refine wpAny_bind (wpAny_lookBehind hoD (by rw [hdD];exact pastItsLine_dict (N5 hcD (by rw [L0];lia))) ?_);exact wpAny_pure (h _ ⟨(dC.2 _ (Ne.symm I.ne)).trans I.obj,tV,I.ne⟩ dC)
theorem alr{R:Result->Shared->Prop}{vs:List Value}{kw:List (Str×Value)}(X:K.In s.heap)(hm:PySem.W.makesIn K C=true)(hi:U5 K (.ref C) "__init__"=some (some (.ref f)))(hf:PySem.W.typeIn K (.ref f)=some (.type "function"))(h:codeAny (model prog w) (A.under (.builtin "type.__call__" ⟨.ref C::vs,kw⟩)) (.call (.ref f) ⟨.ref (s.heap.objs.size+1)::vs,kw⟩) (PySem.W.InitBack (s.heap.objs.size+1) R)
   { s with heap:=(s.heap.push cG).push (eJ C s.heap.objs.size) }) :
  codeAny (model prog w) A (.call (.ref C) ⟨vs,kw⟩) R s:=by
 obtain ⟨hh,g,d,t,os⟩:=s;exact PySem.W.make_core (PySem.W.makes_of X hm) (PySem.W.looks_findIn X hi) (fun self=>PySem.W.bind_fn X self hf) (.inl rfl) h
end
noncomputable def putF (f:Str) (v:V):List (Str×V)->List (Str×V)
 | []=>[(f,v)]
 | (g,x)::r=>if g=f then (g,v)::r else (g,x)::putF f v r
theorem P1(f g:Str)(v:V):∀ fs:List (Str×V),(putF f v fs).lookup g=if g=f then some v else fs.lookup g
 | []=>by
  show eG g [(f,v)]=_
  by_cases h:g=f
  .have hb:(g==f)=true:=beq_iff_eq.mpr h;simp only [eG,hb,if_pos h]
  .have hb:(g==f)=false:=beq_eq_false_iff_ne.mpr h;simp only [eG,hb,if_neg h]
 | (k,x)::r=>by
  have ih:=P1 f g v r;rw [show putF f v ((k,x)::r)=(if k=f then (k,v)::r else (k,x)::putF f v r) from rfl]
  by_cases hk:k=f
  .rw [if_pos hk]
   by_cases h:g=k
   .have hb:(g==k)=true:=beq_iff_eq.mpr h;simp only [eG,hb,if_pos (h.trans hk)]
   .have hb:(g==k)=false:=beq_eq_false_iff_ne.mpr h;simp only [eG,hb,if_neg (fun e:g=f=>h (e.trans hk.symm))]
  .rw [if_neg hk]
   by_cases h:g=k
   .have hb:(g==k)=true:=beq_iff_eq.mpr h;simp only [eG,hb,if_neg (fun e:g=f=>hk (h.symm.trans e))]
   .have hb:(g==k)=false:=beq_eq_false_iff_ne.mpr h;simp only [eG,hb];exact ih
theorem vF(f:Str)(v:V):∀ fs:List (Str×V),f∈(putF f v fs).map (·.1)/\∀ g,g∈fs.map (·.1)->g∈(putF f v fs).map (·.1)
 | []=>⟨by simp [putF],fun g h=>by simp at h⟩
 | (k,x)::r=>by
  obtain ⟨i1,i2⟩:=vF f v r;rw [show putF f v ((k,x)::r)=(if k=f then (k,v)::r else (k,x)::putF f v r) from rfl]
  by_cases hk:k=f
  .rw [if_pos hk];subst hk;exact ⟨by simp,fun g h=>by simpa using h⟩
  .rw [if_neg hk];refine ⟨?_,fun g h=>?_⟩
   .rw [G0];exact O5 _ i1
   .rw [G0] at h ⊢
    rcases L4.mp h with e | e
    .exact L4.mpr (.inl e)
    .exact O5 _ (i2 g e)
theorem vG(f:Str)(v:V):∀ fs:List (Str×V),(putF f v fs).length<=fs.length+1
 | []=>by simp [putF]
 | (k,x)::r=>by
  have ih:=vG f v r;rw [show putF f v ((k,x)::r)=(if k=f then (k,v)::r else (k,x)::putF f v r) from rfl]
  by_cases hk:k=f
  .rw [if_pos hk,L0,L0];lia
  .rw [if_neg hk,L0,L0];lia
theorem nM{v:V}{o:Option Value}(r:RelO (some v) o):∃ u,o=some u/\RelV v u:=by
 cases o with
 | none=>exact (show False from r).elim
 | some u=>exact ⟨u,rfl,r⟩
theorem RelO.none_of{o:Option Value}(r:RelO none o):o=none:=by
 cases o with
 | none=>rfl
 | some u=>exact (show False from r).elim
theorem ajy{v:V}{u:Value}(r:RelV v u):PySem.W.handedIn u=true:=by
 cases v with
 | non=>cases (show u=Value.none from r);rfl
 | bl b=>cases (show u=Value.bool b from r);rfl
 | int i=>obtain ⟨t,e⟩:=(show ∃ t,u=Value.int i t from r);cases e;rfl
 | str x=>obtain ⟨t,e⟩:=(show ∃ t,u=Value.str x t from r);cases e;rfl
 | byt b=>obtain ⟨t,e⟩:=(show ∃ t,u=Value.bytes b t from r);cases e;rfl
 | flt b=>obtain ⟨t,e⟩:=(show ∃ t,u=Value.float b t from r);cases e;rfl
 | ref a=>cases (show u=Value.ref a from r);rfl
 | ty n=>cases (show u=Value.type n from r);rfl
section
variable {P:Program} {w:World} {H H':Hp} {h h':Heap} {a C dx:Addr} {fs fs':List (Str×V)}
theorem vH(hok:N6 P w H h)(e:H a=some (.ins C dx fs)):∃ mA,ObjM h a dx C mA/\(∀ f,RelO (fs.lookup f) (mA f))/\PySem.Within mA (fs.map (·.1))/\fs.length<=1000/\H dx=some (.own a):=by
 obtain ⟨d,z,ne,ob,mA,n,r,q⟩:=(show ObjOk P w H h a (.ins C dx fs) from hok a _ e)
 exact ⟨mA,⟨ob,n,ne⟩,r,q,z,d⟩
end
structure Cls(K:PySem.W.Frag)(C:Addr):Prop where
 pg:nE K C Str.empty=true
 hd:PySem.W.hasDictIn K C=true
 po:PySem.W.plainOver K C=true
 sa:U5 K (.ref C) "__setattr__"=some (some (.builtin "object.__setattr__"))
theorem Cls.get{K:PySem.W.Frag}{C:Addr}(c:Cls K C)(f:Str):nE K C f=true:=c.pg
noncomputable def NoAttr (K:PySem.W.Frag) (C:Addr) (f:Str):Prop:=U5 K (.ref C) f=some none
theorem NoAttr.taker{K:PySem.W.Frag}{C:Addr}{f:Str}(n:NoAttr K C f):PySem.W.takerIn K C f=some none:=by
 unfold PySem.W.takerIn;rw [show U5 K (.ref C) f=some none from n];rfl
structure Meth(K:PySem.W.Frag)(C:Addr)(m:Str)(f:Addr):Prop where
 at_:U5 K (.ref C) m=some (some (.ref f))
 fn:gL K (.ref f)=true
 kp:W4 K (.ref f)=true
section
variable {X:Cx} {pins:List (Addr×Obj)} {Y:St} {H:Hp} {s:Shared} {a C dx:Addr} {fs:List (Str×V)} {f:Str} {v:V} {A:Around} {E:Value->Shared->Prop}
theorem aiB{b:Bool}{Q:Value->Shared->Prop}(I:Inv X pins Y H s)(e:H a=some (.ins C dx fs))(c:Cls X.K C)(n:NoAttr X.K C f)(l:fs.lookup f=some v)(h:∀ u s',Inv X pins Y H s'->RelV v u->Q u s'):wpAny 'b' A (getAttr (.ref a) f b) Q E s:=by
 obtain ⟨mA,O,r,_,_,_⟩:=vH I.hok e;obtain ⟨u,hu,ru⟩:=nM (v:=v) (o:=mA f) (by rw [<- l];exact r f);exact anB I.kIn O (c.get f) c.hd n hu (ajy ru) (h u _ (I.tok _) ru)
theorem ae5{m:Str}{g:Addr}{pl:Sem Bool}{Q:Value×List Value->Shared->Prop}(I:Inv X pins Y H s)(e:H a=some (.ins C dx fs))(c:Cls X.K C)(k:Meth X.K C m g)(l:fs.lookup m=none)(h:Q (.ref g,[.ref a]) s):wpAny 'b' A (getMethod (.ref a) m pl) Q E s:=by
 obtain ⟨mA,O,r,_,_,_⟩:=vH I.hok e;have hn:mA m=none:=RelO.none_of (by rw [<- l];exact r m);exact alq I.kIn O (c.get m) k.at_ k.fn hn h
theorem aiC{y:V}{u:Value}{Q:Unit->Shared->Prop}(I:Inv X pins Y H s)(e:H a=some (.ins C dx fs))(c:Cls X.K C)(n:NoAttr X.K C f)(hl:fs.length<1000)(ry:RelV y u)(h:∀ s',Inv X pins Y (A0 H a (.ins C dx (putF f y fs))) s'->Q () s'):wpAny 'b' A (setAttr (.ref a) f u) Q E s:=by
 obtain ⟨mA,O,r,wi,_,ho⟩:=vH I.hok e;have hz:(fs.map (·.1)).length<=sizeLine:=by rw [A6,sizeLine_eq];lia
 refine anC I.kIn O c.sa c.po n.taker c.hd wi hz fun h' O' sb=>h _ ?_
 have hd:∃ o,h'.get? dx=some o:=let ⟨o,_,_,e',_⟩:=O'.ns;⟨o,e'⟩
 refine I.write (x:=a) (e:=dx) (by rw [e];exact True.intro) (.inr ho) (fun b q hb z=>(sb.2 b hb).trans z) hd ?_;refine ⟨by rw [A7 O.ne];exact ho,?_,O.ne,O'.obj,_,O'.ns,fun g=>?_,fun g hg=>?_⟩
 .have:=vG f y fs;lia
 .show RelO ((putF f y fs).lookup g) (if g=f then some u else mA g);rw [P1]
  by_cases q:g=f
  .rw [if_pos q,if_pos q];exact ry
  .rw [if_neg q,if_neg q];exact r g
 .by_cases q:g=f
  .rw [q];exact (vF f y fs).1
  .refine (vF f y fs).2 g (wi g fun z=>hg ?_);show (if g=f then some u else mA g)=none;rw [if_neg q];exact z
theorem Inv.made(I:Inv X pins Y H s):Inv X pins Y (A0 (A0 H s.heap.objs.size (.own (s.heap.objs.size+1))) (s.heap.objs.size+1) (.ins C s.heap.objs.size []))
  { s with heap:=(s.heap.push cG).push (eJ C s.heap.objs.size) }:=by
 have e1:(s.heap.push cG).get? s.heap.objs.size=some cG:=Heap.get?_push_size s.heap rfl;have e2:((s.heap.push cG).push (eJ C s.heap.objs.size)).get? (s.heap.objs.size+1)=some (eJ C s.heap.objs.size):=by
  have:=Heap.get?_push_size (s.heap.push cG) (o:=eJ C s.heap.objs.size) rfl
  rwa [Heap.size_push] at this
 have e3:(s.heap.push cG).Ns s.heap.objs.size (fun _=>none):=⟨cG,#[],_,e1,rfl,(fun e he=>absurd he 'c'),fun _=>rfl⟩
 have I1:=I.laid (a:=s.heap.objs.size) (o:=.own (s.heap.objs.size+1)) (h':=s.heap.push cG) (t':=s.toks) (fun b u q=>Heap.get?_push_of_some _ q) (C3 _) ⟨_,e1⟩;refine I1.laid (a:=s.heap.objs.size+1) (o:=.ins C s.heap.objs.size []) (t':=s.toks) (fun b u q=>Heap.get?_push_of_some _ q) (Nat.le_of_eq (Heap.size_push _ _)) ?_;have ne:s.heap.objs.size≠s.heap.objs.size+1:=M4 (jZ _);refine ⟨by rw [A7 ne,A3],G4 _,ne,e2,fun _=>none,(Heap.Ns1.of_empty e3).at fun o q=>Heap.get?_push_of_some _ q,fun _=>True.intro,fun y hy=>absurd rfl hy⟩
theorem anD{prog:Program}{w:World}{env:Env}{e:Expr}{f:Str}{pos:Pos}{s:Shared}{Q:Value->Shared->Prop}(hb:attributeBase e f env (eval e env)=eval e env)(h:wpAny (model prog w) A (eval e env) (fun o zu=>wpAny (model prog w) A (getAttr o f true) Q E zu) E s):wpAny (model prog w) A (eval (.Attribute e f pos) env) Q E s:=
 Attribute_any_ h (by rw [arm_eval_Attribute,hb])
end
noncomputable def tFld (K:PySem.W.Frag) (ta:TE) (f:Str):TE:=fun Y H Q=>ta Y H fun x H1=>∃ a C dx fs v,x=.ref a/\H1 a=some (.ins C dx fs)/\Cls K C/\NoAttr K C f/\fs.lookup f=some v/\Q v H1
noncomputable def sFld (K:PySem.W.Frag) (ta tv:TE) (f:Str):TS:=fun D Y H=>tv Y H fun y H1=>ta Y H1 fun x H2=>∃ a C dx fs,x=.ref a/\H2 a=some (.ins C dx fs)/\Cls K C/\NoAttr K C f/\fs.length<1000/\
 D.nx Y (A0 H2 a (.ins C dx (putF f y fs)))
noncomputable def InOp (X:Cx) (op:Operator) (rd:V->V->Hp->VK->Prop):Prop:=
 ∀ (pins:List (Addr×Obj)) (s:Shared) (Y:St) (H:Hp) (x y:V) (u v:Value) (Q:VK),Inv X pins Y H s->RelV x u->RelV y v->rd x y H Q->wpAny 'b' X.A (inplaceOp op u v) (EP X pins Y Q) X.xe s
section
variable {X:Cx} {o e value:Expr} {f:Str} {pos pos' tpos:Pos} {ta tv:TE}
theorem aqt(he:PE X e ta)(hb:attributeBase e f X.env (eval e X.env)=eval e X.env):PE X (.Attribute e f pos) (tFld X.K ta f):=by
 sleep 1;refine anD hb (A8 (he pins s Y H _ I h) fun u s1 ⟨x,H1,I1,rx,a,C,dx,fs,v,ex,ea,c,n,l,q⟩=>?_);subst ex;obtain rfl:u=Value.ref a:=rx;exact aiB I1 ea c n l fun u' s2 I2 ru=>⟨v,H1,I2,ru,q⟩
theorem aqu(ha:PE X o ta)(hv:PE X value tv)(hs:swapsWith value (some (.Attribute o f pos')) pos.line X.env=pure false):PS X (.Assign [.Attribute o f pos'] value pos) (sFld X.K ta tv f):=by
 intro pins s Y H D I h;refine plainObj_wpAny_Assign_Attribute (A8 (hv pins s Y H _ I h) fun u s1 ⟨y,H1,I1,ry,q⟩=>A8 (ha pins s1 Y H1 _ I1 q) fun ov s2 ⟨x,H2,I2,rx,a,C,dx,fs,ex,ea,c,n,l,q2⟩=>?_) hs;subst ex;obtain rfl:ov=Value.ref a:=rx;exact aiC I2 ea c n l ry fun s3 I3=>⟨Y,_,I3,q2⟩
noncomputable def rAdd:V->V->Hp->VK->Prop:=fun x y H Q=>∃ i j,x=.int i/\y=.int j/\Q (.int (i+j)) H
noncomputable def rSub:V->V->Hp->VK->Prop:=fun x y H Q=>∃ i j,x=.int i/\y=.int j/\Q (.int (i-j)) H
theorem aqv:InOp X .Add rAdd:=by
 rintro pins s Y H x y u v Q I rx ry ⟨i,j,rfl,rfl,q⟩;obtain ⟨t,rfl⟩:=(show ∃ t,u=Value.int i t from rx)
 obtain ⟨t',rfl⟩:=(show ∃ t',v=Value.int j t' from ry)
 exact PyProof.Rows.iadd_int ⟨.int (i+j),H,I.tok _,⟨_,rfl⟩,q⟩
theorem aqw:InOp X .Sub rSub:=by
 rintro pins s Y H x y u v Q I rx ry ⟨i,j,rfl,rfl,q⟩;obtain ⟨t,rfl⟩:=(show ∃ t,u=Value.int i t from rx)
 obtain ⟨t',rfl⟩:=(show ∃ t',v=Value.int j t' from ry)
 exact PyProof.Rows.isub_int ⟨.int (i-j),H,I.tok _,⟨_,rfl⟩,q⟩
end
structure Room(k:Nat)(A:Around):Prop where
 hd:A.handled=none
 dp:A.depth+3*k+5<recursionLimit
 un:A.units+16*k+200<cLine
 gd:A.guards=some []
theorem Room.mono{j k:Nat}{A:Around}(r:Room k A)(h:j<=k):Room j A:=⟨r.hd,by have:=r.dp;lia,by have:=r.un;lia,r.gd⟩
theorem Room.deeper{k:Nat}{A:Around}(r:Room (k+1) A)(env:Env):Room k (A.deeper env):=
 ⟨r.hd,by have:=r.dp;show A.depth+1+3*k+5<_;lia,by have:=r.un;show A.units+3+16*k+200<_;lia,r.gd⟩
theorem aiD{A:Around}{C:Addr}{us:List Value}{kw:List (Str×Value)} : (A.under (.builtin "type.__call__" ⟨.ref C::us,kw⟩)).depth=A.depth+1:=by
 first | rfl | simp [Around.under,Code.weight,Code.isCreation,Code.isGuard,Code.isCaller,Code.frames,Code.isFrame,guardIds]
theorem aiE{A:Around}{C:Addr}{us:List Value}{kw:List (Str×Value)} : (A.under (.builtin "type.__call__" ⟨.ref C::us,kw⟩)).units=A.units+1:=by
 first | rfl | simp [Around.under,Code.cUnits,Code.frames,Code.isFrame]
theorem Room.make{k:Nat}{A:Around}(r:Room (k+1) A)(C:Addr)(us:List Value)(kw:List (Str×Value)):Room k (A.under (.builtin "type.__call__" ⟨.ref C::us,kw⟩)):=
 ⟨r.hd,by have:=r.dp;rw [aiD];lia,by have:=r.un;rw [aiE];lia,r.gd⟩
theorem Room.depth{k:Nat}{A:Around}(r:Room k A):A.depth<recursionLimit:=by have:=r.dp;lia
theorem Room.units{k:Nat}{A:Around}(r:Room k A):A.units+64<cLine:=by have:=r.un;lia
noncomputable def tNil:TA:=fun _ H Q=>Q [] H
noncomputable def tCons (ta:TE) (tr:TA):TA:=fun Y H Q=>ta Y H fun x H1=>tr Y H1 fun xs H2=>Q (x::xs) H2
section
variable {X:Cx} {e:Expr} {es:List Expr} {te:TE} {t:TA} {pos:Pos}
theorem aqx:PA X [] tNil:=fun _ _ _ _ H Q I h=>Calls.spliced_nil ⟨[],H,I,.nil,h⟩
theorem anE(ha:PE X e te)(hr:PA X es t)(hs:starEach (e::es) X.env=(false,eval e X.env)::starEach es X.env:=by rfl):PA X (e::es) (tCons te t):=by
 intro pos pins s Y H Q I h;rw [hs];show wpAny _ _ (spliced ((false,eval e X.env)::backTo pos (starEach es X.env))) _ _ s;refine Calls.spliced_cons (A8 (ha pins s Y H _ I h) fun u s1 ⟨x,H1,I1,r1,q1⟩=>?_);exact A8 (hr pos pins s1 Y H1 _ I1 q1) fun us s2 ⟨xs,H2,I2,r2,q2⟩=>⟨x::xs,H2,I2,.cons r1 r2,q2⟩
noncomputable def tTup (t:TA):TE:=fun Y H Q=>t Y H fun xs H1=>xs.length<=sizeLine/\∀ p,H1 p=none->Q (.ref p) (A0 H1 p (.tup xs))
noncomputable def tLst (t:TA):TE:=fun Y H Q=>t Y H fun xs H1=>xs.length<=sizeLine/\∀ p,H1 p=none->Q (.ref p) (A0 H1 p (.lst xs))
theorem aqy{x1}(h:PA X es t):PE X (.Tuple es x1 pos) (tTup t):=by
 intro pins s Y H Q I hq;refine wpAny_Tuple_spliced (A8 (h pos pins s Y H _ I hq) fun us s1 ⟨xs,H1,I1,r,z,q⟩=>⟨by rw [<- r.length];exact z,?_⟩);have hf:H1 s1.heap.objs.size=none:=I1.hok.fresh (C3 _);refine ⟨.ref s1.heap.objs.size,A0 H1 s1.heap.objs.size (.tup xs),I1.laid (t':=s1.toks) (fun b u e=>Heap.get?_push_of_some _ e) (C3 _) ?_,rfl,q _ hf⟩;exact ⟨z,us,r,⟨_,Heap.get?_push_size _ rfl,rfl,_,rfl⟩⟩
theorem aqz(h:PA X es t):PE X (.List es pos) (tLst t):=by
 intro pins s Y H Q I hq;refine wpAny_List_spliced (A8 (h pos pins s Y H _ I hq) fun us s1 ⟨xs,H1,I1,r,z,q⟩=>⟨by rw [<- r.length];exact z,?_⟩);have hf:H1 s1.heap.objs.size=none:=I1.hok.fresh (C3 _);refine ⟨.ref s1.heap.objs.size,A0 H1 s1.heap.objs.size (.lst xs),I1.laid (t':=s1.toks) (fun b u e=>Heap.get?_push_of_some _ e) (C3 _) ?_,rfl,q _ hf⟩;exact ⟨z,us,0,r,Heap.get?_push_size _ rfl⟩
end
noncomputable abbrev Sp:=List V->Hp->VK->XK->Prop
noncomputable abbrev k7:=List Env->Hp->Shared->XK->Value->Shared->Prop
structure Env0(P:Program)(w:World)(K:PySem.W.Frag)(mg:Str->Option Value)(base:Heap)(A:Around)(outer:List Env)(s:Shared)(H:Hp):Prop where
 frames:A.frames=some outer
 mod:Mod K mg base
 bs:∀ b o,base.get? b=some o->s.heap.get? b=some o/\H b=none
 bsz:base.objs.size<=s.heap.objs.size
 funs:s.heap.FunFrames base outer
 frf:∀ b∈w8 outer,H b=none
 hok:N6 P w H s.heap
 bare:AllBare s.gens
noncomputable def CE (outer:List Env) (P:Program) (w:World) (H:Hp) (s:Shared) (Q:VK) (u:Value) (s':Shared):Prop:=
 ∃ v H',s'.os=s.os/\AllBare s'.gens/\Un (w8 outer) [] H H' s.heap s'.heap/\N6 P w H' s'.heap/\RelV v u/\Q v H'
noncomputable def CR (CX:k7) (outer:List Env) (P:Program) (w:World) (H:Hp) (s:Shared) (Q:VK) (E:XK) (r:Result) (s':Shared):Prop:=
 match r with
 | .ok (.ret u)=>CE outer P w H s Q u s'
 | .ok _=>False
 | .error e=>CX outer H s E e s'
structure FnOk(P:Program)(w:World)(K:PySem.W.Frag)(mg:Str->Option Value)(base:Heap)(CX:k7)(k:Nat)(f:Addr)(fd:FuncData)(ps:List Str)(sp:Sp):Prop where
 len:∀ vs H Q E,sp vs H Q E->vs.length=ps.length
 run:∀ (A:Around) (outer:List Env) (s:Shared) (H:Hp) (args:Args) (us:List Value) (vs:List V) (Q:VK) (E:XK),Room k A->Env0 P w K mg base A outer s H->BindsTo s fd args (ps.zip us)->Vals vs us->sp vs H Q E->
  codeAny (model P w) A (.call (.ref f) args) (CR CX outer P w H s Q E) s
theorem Env0.make{P:Program}{w:World}{K:PySem.W.Frag}{mg:Str->Option Value}{base:Heap}{A:Around}{outer:List Env}{s:Shared}{H:Hp}(e:Env0 P w K mg base A outer s H)(C:Addr)(us:List Value)(kw:List (Str×Value)) :
  Env0 P w K mg base (A.under (.builtin "type.__call__" ⟨.ref C::us,kw⟩)) outer s H:=⟨by first | exact e.frames | (simpa [Around.under,Code.envs,Code.isFrame,pushEnvs] using e.frames),e.mod,e.bs,e.bsz,e.funs,e.frf,e.hok,e.bare⟩
section
variable {X:Cx} {pins:List (Addr×Obj)} {Y:St} {H:Hp} {s s':Shared}
theorem Inv.env0(I:Inv X pins Y H s):Env0 X.prog X.w X.K X.mg X.base X.A X.stack s H:=
 ⟨I.ok.frames,I.ok.mod,I.bs,N5 I.ok.bsz I.sz,I.stack,I.stkFree,I.hok,I.bare⟩
theorem Inv.after{Q:VK}{u:Value}(I:Inv X pins Y H s)(h:CE X.stack X.prog X.w H s Q u s'):EP X pins Y Q u s':=by
 obtain ⟨v,H',os,bare,un,hok,r,q⟩:=h;obtain ⟨hh,g,d,t,os'⟩:=s';obtain rfl:os'=s.os:=os;exact ⟨v,H',I.call (h':=hh) (g':=g) (d':=d) (t':=t) (ch:=[]) un hok bare (fun b z=>absurd z 'c'),r,q⟩
end
noncomputable def tCall (sp:Sp) (dvs:List V) (E:XK) (t:TA):TE:=fun Y H Q=>t Y H fun vs H1=>sp (vs++dvs) H1 Q E
noncomputable def tMeth (C:Addr) (m:Str) (sp:Sp) (dvs:List V) (E:XK) (ta:TE) (t:TA):TE:=fun Y H Q=>ta Y H fun x H1=>∃ a dx fs,x=.ref a/\H1 a=some (.ins C dx fs)/\fs.lookup m=none/\
 t Y H1 fun vs H2=>sp (x::(vs++dvs)) H2 Q E
noncomputable def tMake (C:Addr) (sp:Sp) (dvs:List V) (E:XK) (t:TA):TE:=fun Y H Q=>t Y H fun vs H1=>∀ x dx,H1 x=none->H1 dx=none->dx≠x->
 sp (.ref x::(vs++dvs)) (A0 (A0 H1 dx (.own x)) x (.ins C dx [])) (fun v H2=>v=.non/\Q (.ref x) H2) E
noncomputable def Binds (K:PySem.W.Frag) (fd:FuncData) (ps:List Str) (ds:List Value):Prop:=
 ∀ (s:Shared) (us:List Value),K.In s.heap->(us++ds).length=ps.length->BindsTo s fd ⟨us,[]⟩ (ps.zip (us++ds))
theorem Binds.all{K:PySem.W.Frag}{fd:FuncData}{ps:List Str}(h:∀ us:List Value,us.length=ps.length->bindArgs fd ⟨us,[]⟩=pure (ps.zip us)):Binds K fd ps []:=fun s us _ hl=>by
 rw [M8] at hl ⊢
 exact .of_eq (h us hl)
noncomputable def gN (CX:k7) (X:Cx) (E:XK):Prop:=∀ (pins:List (Addr×Obj)) (Y:St) (H:Hp) (s:Shared) (e:Value) (s':Shared),Inv X pins Y H s->CX X.stack H s E e s'->X.xe e s'
section
variable {X:Cx} {CX:k7} {k:Nat} {f C:Addr} {fd:FuncData} {ps:List Str} {sp:Sp} {dvs:List V} {ds:List Value} {E:XK} {x m:Str} {p pos apos:Pos} {e o:Expr} {es:List Expr} {ta:TE} {t:TA}
theorem vI{pins:List (Addr×Obj)}{Y:St}{H:Hp}{s:Shared}{Q:VK}{us:List Value}{vs:List V}(F:FnOk X.prog X.w X.K X.mg X.base CX k f fd ps sp)(hr:Room k X.A)(hb:Binds X.K fd ps ds)(hd:Vals dvs ds)(hx:gN CX X E)(I:Inv X pins Y H s)(r:Vals vs us)(h:sp (vs++dvs) H Q E):wpAny 'b' X.A (call (.ref f) us) (EP X pins Y Q) X.xe s:=by
 have r2:Vals (vs++dvs) (us++ds):=r.append hd;have hl:(us++ds).length=ps.length:=by rw [<- r2.length];exact F.len _ _ _ _ h
 refine wpAny_call (codeAny_mono (F.run X.A X.stack s H ⟨us,[]⟩ (us++ds) (vs++dvs) Q E hr I.env0 (hb s us I.kIn hl) r2 h) fun r s' hq=>?_)
 cases r with
 | error e=>exact hx pins Y H s e s' I hq
 | ok fl=>
  cases fl with
  | ret u=>exact I.after hq
  | next=>exact False.elim hq
  | brk=>exact False.elim hq
  | cont=>exact False.elim hq
theorem anF(F:FnOk X.prog X.w X.K X.mg X.base CX k f fd ps sp)(hr:Room k X.A)(hg:Gl X x)(hm:X.mg x=some (.ref f))(hk:W4 X.K (.ref f)=true)(hb:Binds X.K fd ps ds)(hd:Vals dvs ds)(hx:gN CX X E)(ha:PA X (e::es) t)(U0:(x==("__debug__" : Str))=false:=by decide)(he:starEach (e::es) X.env=(false,eval e X.env)::starEach es X.env:=by rfl)(X0:(backTo pos (starEach es X.env)).any (·.1)=false:=by rfl) :
  PE X (.Call (.Name x p) (e::es) [] pos) (tCall sp dvs E t):=by
 sleep 1;refine wpAny_Call_Name_kw (uU I hg hm ?_ U0);refine PySem.W.callWith_K (h₀:=X.base) I.ok.mod.kin hk (A8 (ha pos pins s Y H _ I h) fun us s1 ⟨vs,H1,I1,r,q⟩=>⟨I1.kIn,?_⟩) he X0;exact vI F hr hb hd hx I1 r q
theorem anG{pl:Sem Bool}(he:PE X o ta)(c:Cls X.K C)(hm:Meth X.K C m f)(F:FnOk X.prog X.w X.K X.mg X.base CX k f fd ps sp)(hr:Room k X.A)(hb:Binds X.K fd ps ds)(hd:Vals dvs ds)(hx:gN CX X E)(ha:PA X (e::es) t)(b9:starEach (e::es) X.env=(false,eval e X.env)::starEach es X.env:=by rfl)(X0:(backTo pos (starEach es X.env)).any (·.1)=false:=by rfl)(ht:eval (.Call (.Attribute o m apos) (e::es) [] pos) X.env=(do
   let ov <- eval o X.env
   standAt apos.atName
   let (f,first) <- holding [ov] (getMethod ov m pl)
   callWith pos f first (backTo pos (starEach (e::es) X.env)) (backToKw pos (keywordEach [] X.env))):=by rfl) :
  PE X (.Call (.Attribute o m apos) (e::es) [] pos) (tMeth C m sp dvs E ta t):=by
 sleep 1;refine PySem.W.methodCall_KW (pl:=pl) (A8 (he pins s Y H _ I h) fun u s1 ⟨x,H1,I1,rx,a,dx,fs,ex,ea,l,q⟩=>?_) ht;subst ex;obtain rfl:u=Value.ref a:=rx;refine ae5 I1 ea c hm l ?_;refine PySem.W.callWith_K (first:=[.ref a]) (h₀:=X.base) I.ok.mod.kin hm.kp (A8 (ha pos pins s1 Y H1 _ I1 q) fun us s2 ⟨vs,H2,I2,r,q2⟩=>⟨I2.kIn,?_⟩) b9 X0;exact vI (us:=.ref a::us) (vs:=.ref a::vs) F hr hb hd hx I2 (.cons rfl r) q2
theorem als{pl:Sem Bool}(he:PE X o ta)(c:Cls X.K C)(hm:Meth X.K C m f)(F:FnOk X.prog X.w X.K X.mg X.base CX k f fd ps sp)(hr:Room k X.A)(hb:Binds X.K fd ps ds)(hd:Vals dvs ds)(hx:gN CX X E)(ht:eval (.Call (.Attribute o m apos) [] [] pos) X.env=(do
   let ov <- eval o X.env
   standAt apos.atName
   let (f,first) <- holding [ov] (getMethod ov m pl)
   callWith pos f first (backTo pos (starEach [] X.env)) (backToKw pos (keywordEach [] X.env))):=by rfl) :
  PE X (.Call (.Attribute o m apos) [] [] pos) (tMeth C m sp dvs E ta tNil):=by
 sleep 1;refine PySem.W.methodCall_KW (pl:=pl) (A8 (he pins s Y H _ I h) fun u s1 ⟨x,H1,I1,rx,a,dx,fs,ex,ea,l,q⟩=>?_) ht;subst ex;obtain rfl:u=Value.ref a:=rx;refine ae5 I1 ea c hm l ?_;exact PySem.W.callWith_K0 (first:=[.ref a]) I1.kIn hm.kp (vI (us:=[.ref a]) (vs:=[.ref a]) F hr hb hd hx I1 (.cons rfl .nil) q)
structure Mk(K:PySem.W.Frag)(C f:Addr):Prop where
 makes:PySem.W.makesIn K C=true
 init:U5 K (.ref C) "__init__"=some (some (.ref f))
 fn:gL K (.ref f)=true
 kp:W4 K (.ref C)=true
theorem alt{pins:List (Addr×Obj)}{Y:St}{H:Hp}{s:Shared}{Q:VK}{us:List Value}{vs:List V}(M:Mk X.K C f)(F:FnOk X.prog X.w X.K X.mg X.base CX k f fd ps sp)(hr:Room (k+1) X.A)(hb:Binds X.K fd ps ds)(hd:Vals dvs ds)(hx:gN CX X E)(I:Inv X pins Y H s)(r:Vals vs us)(h:∀ x dx,H x=none->H dx=none->dx≠x->sp (.ref x::(vs++dvs)) (A0 (A0 H dx (.own x)) x (.ins C dx [])) (fun v H2=>v=.non/\Q (.ref x) H2) E) :
  wpAny 'b' X.A (call (.ref C) us) (EP X pins Y Q) X.xe s:=by
 have hq:=h (s.heap.objs.size+1) s.heap.objs.size (I.hok.fresh (Nat.le_succ _)) (I.hok.fresh (C3 _)) (M4 (jZ _));have I2:=Inv.made (C:=C) I;have r2:Vals (V.ref (s.heap.objs.size+1)::(vs++dvs)) (Value.ref (s.heap.objs.size+1)::(us++ds)):=.cons rfl (r.append hd);have hl:(Value.ref (s.heap.objs.size+1)::us++ds).length=ps.length:=by
  have e:=r2.length;rw [F.len _ _ _ _ hq] at e;exact e.symm
 refine wpAny_call (alr (f:=f) I.kIn M.makes M.init (beq_iff_eq.mp M.fn) (codeAny_mono (F.run _ X.stack _ _ ⟨Value.ref (s.heap.objs.size+1)::us,[]⟩ (Value.ref (s.heap.objs.size+1)::(us++ds)) _ _ E (hr.make C us [])
  (I2.env0.make C us []) (hb _ (Value.ref (s.heap.objs.size+1)::us) I2.kIn hl) r2 hq) fun r s' iR=>?_))
 cases r with
 | error e=>exact hx pins Y _ _ e s' I2 iR
 | ok fl=>
  cases fl with
  | ret u=>
   obtain ⟨v,H',I3,rv,ev,q3⟩:=I2.after iR;subst ev;exact ⟨rv,⟨V.ref (s.heap.objs.size+1),H',I3,rfl,q3⟩⟩
  | next=>exact False.elim iR
  | brk=>exact False.elim iR
  | cont=>exact False.elim iR
theorem anH(M:Mk X.K C f)(F:FnOk X.prog X.w X.K X.mg X.base CX k f fd ps sp)(hr:Room (k+1) X.A)(hg:Gl X x)(hm:X.mg x=some (.ref C))(hb:Binds X.K fd ps ds)(hd:Vals dvs ds)(hx:gN CX X E)(ha:PA X (e::es) t)(U0:(x==("__debug__" : Str))=false:=by decide)(he:starEach (e::es) X.env=(false,eval e X.env)::starEach es X.env:=by rfl)(X0:(backTo pos (starEach es X.env)).any (·.1)=false:=by rfl) :
  PE X (.Call (.Name x p) (e::es) [] pos) (tMake C sp dvs E t):=by
 sleep 1;refine wpAny_Call_Name_kw (uU I hg hm ?_ U0);refine PySem.W.callWith_K (h₀:=X.base) I.ok.mod.kin M.kp (A8 (ha pos pins s Y H _ I h) fun us s1 ⟨vs,H1,I1,r,q⟩=>⟨I1.kIn,?_⟩) he X0;exact alt M F hr hb hd hx I1 r q
end
noncomputable def PK (X:Cx) (kws:List Keyword) (t:TA):Prop:=
 ∀ (pos:Pos) (pins:List (Addr×Obj)) (s:Shared) (Y:St) (H:Hp) (Q:List V->Hp->Prop),Inv X pins Y H s->t Y H Q->wpAny 'b' X.A (evalAll ((backToKw pos (keywordEach kws X.env)).map (·.2))) (AP X pins Y Q) X.xe s
section
variable {X:Cx} {CX:k7} {k:Nat} {f C:Addr} {fd:FuncData} {ps ks:List Str} {sp:Sp} {E:XK} {x m:Str} {p pos apos kpos:Pos} {e o:Expr} {es:List Expr} {kws:List Keyword} {te ta:TE} {t tk:TA} {nm:Option Str}
theorem aqA:PK X [] tNil:=fun _ _ _ _ H Q I h=>wpAny_evalAll_nil ⟨[],H,I,.nil,h⟩
theorem anI(ha:PE X e te)(hr:PK X kws t):PK X (⟨nm,e,kpos⟩::kws) (tCons te t):=by
 intro pos pins s Y H Q I h;show wpAny _ _ (evalAll ((do let v <- eval e X.env;standAt pos;pure v)::(backToKw pos (keywordEach kws X.env)).map (·.2))) _ _ s;refine wpAny_evalAll_cons (wpAny_bind (A8 (ha pins s Y H _ I h) fun u s1 ⟨x,H1,I1,r1,q1⟩=>wpAny_bind (wpAny_standAt (wpAny_pure ?_))));exact A8 (hr pos pins s1 Y H1 _ I1 q1) fun us s2 ⟨xs,H2,I2,r2,q2⟩=>⟨x::xs,H2,I2,.cons r1 r2,q2⟩
variable {g:List Value->List Value->List Value} {gV:List V->List V->List V}
end
structure FnScope(N P:List Str)(sc:Scope):Prop where
 kind:sc.kind=.function
 co:sc.isCoroutine=false
 gen:sc.isGenerator=false
 nd:N.Nodup
 pre:N.take P.length=P
 par:∀ x∈P,sc.names.lookup x=some .local\/sc.names.lookup x=some .cell
 nofree:∀ y∈sc.names,y.2≠.free
theorem afY{kindOf:Str->Option NameKind}{x:Str} : ∀ {binds:List (Str×Value)} {m:Str->Option Value},(∀ v,(x,v)∉binds)->bindL kindOf binds m x=m x
 | [],_,_=>rfl
 | (n,v)::r,m,h=>by
  unfold bindL;rw [afY fun w hw=>h w (O5 _ hw)]
  split
  .have:x≠n:=by rintro rfl;exact h v M7
   simp [this]
  .rfl
theorem afZ{kindOf:Str->Option NameKind}{x:Str} : ∀ {binds:List (Str×Value)} {m:Str->Option Value},(∀ v,(x,v)∉binds)->bindC kindOf binds m x=m x
 | [],_,_=>rfl
 | (n,v)::r,m,h=>by
  unfold bindC;rw [afZ fun w hw=>h w (O5 _ hw)]
  split
  .rfl
  .have:x≠n:=by rintro rfl;exact h v M7
   simp [this]
theorem af0{kindOf:Str->Option NameKind}{x:Str}{v:Value} : ∀ {P:List Str} {vs:List Value} {i:Nat} {m:Str->Option Value},P.Nodup->P[i]?=some x->vs[i]?=some v->kindOf x=some .local->
  bindL kindOf (P.zip vs) m x=some v
 | [],_,_,_,_,h,_,_=>by simp at h
 | _::_,[],_,_,_,_,h,_=>by simp at h
 | p::P,w::vs,0,m,nd,h1,h2,hk=>by
  simp at h1 h2;subst h1;subst h2;show bindL kindOf ((p,w)::P.zip vs) m p=_;unfold bindL;rw [afY fun v hv=>(W1.mp nd).1 (List.of_mem_zip hv).1,if_pos hk]
  simp
 | p::P,w::vs,i+1,m,nd,h1,h2,hk=>by
  show bindL kindOf ((p,w)::P.zip vs) m x=_;unfold bindL;exact af0 (i:=i) (W1.mp nd).2 (by simpa using h1) (by simpa using h2) hk
theorem af1{kindOf:Str->Option NameKind}{x:Str}{v:Value} : ∀ {P:List Str} {vs:List Value} {i:Nat} {m:Str->Option Value},P.Nodup->P[i]?=some x->vs[i]?=some v->kindOf x≠some .local->
  bindC kindOf (P.zip vs) m x=some v
 | [],_,_,_,_,h,_,_=>by simp at h
 | _::_,[],_,_,_,_,h,_=>by simp at h
 | p::P,w::vs,0,m,nd,h1,h2,hk=>by
  simp at h1 h2;subst h1;subst h2;show bindC kindOf ((p,w)::P.zip vs) m p=_;unfold bindC;rw [afZ fun v hv=>(W1.mp nd).1 (List.of_mem_zip hv).1,if_neg hk]
  simp
 | p::P,w::vs,i+1,m,nd,h1,h2,hk=>by
  show bindC kindOf ((p,w)::P.zip vs) m x=_;unfold bindC;exact af1 (i:=i) (W1.mp nd).2 (by simpa using h1) (by simpa using h2) hk
noncomputable def start (N:List Str) (vs:List V):St:=vs.map some++Y8 (N.length-vs.length) none
noncomputable def cxOf (CX:k7) (P:Program) (w:World) (K:PySem.W.Frag) (mg:Str->Option Value) (base:Heap) (N:List Str) (qual:Str) (scope:Scope) (f:Addr) (cd:Value) (A:Around) (outer:List Env) (s:Shared) (H:Hp) (E:XK):Cx where
 prog:=P
 w:=w
 K:=K
 mg:=mg
 base:=base
 A:=A.deeper (envOfC qual scope s.heap.objs.size f cd)
 N:=N
 s₀:=s
 H₀:=H
 env:=envOfC qual scope s.heap.objs.size f cd
 outer:=outer
 stack:=envOfC qual scope s.heap.objs.size f cd::outer
 ex:=[]
 calm:=true
 fn:=fun _=>true
 pn:=[]
 xe:=fun e s'=>wpAny (model P w) (A.deeper (envOfC qual scope s.heap.objs.size f cd)) (leaving (envOfC qual scope s.heap.objs.size f cd) e) (fun _ s''=>CX outer H s E e s'') (fun e' s''=>CX outer H s E e' s'') s'
theorem ahK{sc:Scope}{n:Nat}{x:Str}(h:sc.names.lookup x=some .cell):∃ c,(cellsFrom n sc.names []).lookup x=some c:=by
 have q:=PySem.W.cellsFrom_some sc.names n [] (.inl h);exact Option.isSome_iff_exists.mp q
theorem ajA{CX:k7}{P:Program}{w:World}{K:PySem.W.Frag}{mg:Str->Option Value}{base:Heap}{N ps:List Str}{qual:Str}{scope:Scope}{f:Addr}{cd:Value}{A:Around}{outer:List Env}{s s1:Shared}{H:Hp}{E:XK}{us:List Value}{vs:List V}(S:FnScope N ps scope)(hd:A.handled=none)(e0:Env0 P w K mg base A outer s H)(hl:vs.length=ps.length)(r:Vals vs us)(x:InCallC s s.heap.objs.size (bindL (envOfC qual scope s.heap.objs.size f cd).kindOf (ps.zip us) fun _=>none) (cellsFrom (s.heap.objs.size+1) scope.names []) (bindC (envOfC qual scope s.heap.objs.size f cd).kindOf (ps.zip us) fun _=>none) s1) :
  Inv (cxOf CX P w K mg base N qual scope f cd A outer s H E) [] (start N vs) H s1:=by
 have X0:ps.length<=N.length:=by have:=congrArg f6 S.pre;rw [F7] at this;lia
 obtain ⟨h1,tk,rfl,hk⟩:=x.done;have noA:∀ b:Addr,b∉(cxOf CX P w K mg base N qual scope f cd A outer s H E).ex:=fun b z=>absurd (show b∈([]:List Addr) from z) 'c'
 refine ⟨⟨e0.mod,S.kind,rfl,rfl,C3 _,fun y z c h1 h2=>?_,fun y hy=>?_,fun y c _ h=>?_,fun _=>hd,Around.frames_deeper e0.frames,.inr ⟨rfl,rfl⟩,fun b z=>absurd z (noA b),e0.bs,e0.bsz,fun b _ _=>noA b,fun b z=>absurd z (noA b),e0.funs,e0.frf⟩,
  rfl,e0.bare,Un.kept hk,⟨_,x.toInCall.ns,fun i y v h1 h2 h3=>?_⟩,fun y c h=>⟨_,x.cell y c h⟩,e0.hok.fresh (C3 _),fun y c h=>?_,fun p hp=>absurd (show p∈([]:List (Addr×Obj)) from hp) 'c',e0.hok.kept hk,?_⟩
 .exact name_of_addr x.apart (PySem.mem_of_lookup h1) (PySem.mem_of_lookup h2)
 .have hy:scope.names.lookup y=some .cell\/scope.names.lookup y=some .free:=hy
  rcases hy with hy | hy
  .exact ahK hy
  .exact absurd rfl (S.nofree _ (PySem.mem_of_lookup hy))
 .exact Nat.le_of_lt (x.above y c (PySem.mem_of_lookup h))
 .have hi:i<vs.length:=by
   unfold start at h2
   by_cases hi:i<vs.length
   .exact hi
   .rw [gF (by simpa using hi)] at h2;rw [List.getElem?_replicate] at h2
    split at h2 <;> cases h2
  have ha:vs[i]?=some v:=by
   unfold start at h2;rw [eB (by simpa using hi),R6] at h2;cases e:vs[i]? with
   | none=>rw [e] at h2;cases h2
   | some a=>rw [e] at h2;cases h2;rfl
  obtain ⟨u,hu,rv⟩:=r.get ha;have hp:ps[i]?=some y:=by
   rw [<- S.pre,List.getElem?_take_of_lt 'a'];exact h1
  have ndP:ps.Nodup:=by rw [<- S.pre];exact S.nd.sublist (List.take_sublist _ _)
  refine ⟨u,rv,?_⟩
  rcases S.par y (L3 hp) with k | k
  .exact .inl ⟨k,af0 ndP hp hu k⟩
  .obtain ⟨c,e⟩:=ahK (n:=s.heap.objs.size+1) k;refine .inr ⟨.inl k,c,e,?_⟩;have q:=x.cell y c e;rw [af1 ndP hp hu (by show scope.names.lookup y≠_;rw [k];decide)] at q;exact q
 .exact e0.hok.fresh (Nat.le_of_lt (x.above y c (PySem.mem_of_lookup h)))
 .unfold start;show _=N.length;rw [D6,A6,List.length_replicate];lia
theorem fn_of{CX:k7}{P:Program}{w:World}{K:PySem.W.Frag}{mg:Str->Option Value}{base:Heap}{k:Nat}{f:Addr}{name qual:Str}{params:Arguments}{body:List Stmt}{scope:Scope}{dV kV doc pm cdv ct oc:Value}{an od:Option Addr}{osl:Array (Option Value)}{N ps:List Str}{sp:Sp}(lk:K.lookup f=some ⟨oc,od,.func (U6 name qual params body scope dV kV doc pm an cdv ct),osl⟩)(u8:Y9 K cdv qual=true)(S:FnScope N ps scope)(len:∀ vs H Q E,sp vs H Q E->vs.length=ps.length)(z8:∀ (A:Around) (outer:List Env) (s:Shared) (H:Hp) (vs:List V) (Q:VK) (E:XK),Room k (A.deeper (envOfC qual scope s.heap.objs.size f cdv))->sp vs H Q E->
   ∃ t,Z9 (cxOf CX P w K mg base N qual scope f cdv A outer s H E) body t/\t { nx:=fun _ H'=>Q .non H',rt:=Q } (start N vs) H) :
  FnOk P w K mg base CX (k+1) f (U6 name qual params body scope dV kV doc pm an cdv ct) ps sp:=by
 refine ⟨len,fun A outer s H args us vs Q E hr e0 hb r fL=>?_⟩;have hl:=len _ _ _ _ fL;have KX:K.In s.heap:=e0.mod.kin.keeps fun b o e=>(e0.bs b o e).1
 have lim:s.heap.NoLimit:=e0.mod.nolimit.keeps fun b o e=>(e0.bs b o e).1
 have pP:∀ y∈ps.zip us,scope.names.lookup y.1=some .local\/(scope.names.lookup y.1=some .cell/\((cellsFrom (s.heap.objs.size+1) scope.names []).lookup y.1).isSome=true):=fun ⟨n,v⟩ hy=>by
  rcases S.par n (List.of_mem_zip hy).1 with q | q
  .exact .inl q
  .exact .inr ⟨q,PySem.W.cellsFrom_some _ _ _ (.inl q)⟩
 refine codeAny_call_function hr.depth (KX _ _ lk) rfl S.co S.gen rfl (PySem.W.codeRec_of KX u8) (hb _ _ _ _ ?_);refine wpAny_newFunctionEnv_cells S.kind pP fun env he s1 x=>?_
 subst he;refine ⟨lim.keeps x.toInCall.keep,codeAny_func ?_⟩;obtain ⟨t,ht,hq⟩:=z8 A outer s H vs Q E (hr.deeper _) fL;have I:Inv (cxOf CX P w K mg base N qual scope f cdv A outer s H E) [] (start N vs) H s1:=ajA S hr.hd e0 hl r x;refine wpAny_mono (ht [] s1 (start N vs) H _ I hq) (fun fl s' hs=>?_) fun e s' hs=>hs
 have fin:∀ {σ':St} {H':Hp} {v:V} {u:Value},Inv (cxOf CX P w K mg base N qual scope f cdv A outer s H E) [] σ' H' s'->RelV v u->Q v H'->CE outer P w H s Q u s':=
  fun {σ' H' v u} J rv q=>⟨v,H',J.os,J.bare,J.base,J.hok,rv,q⟩
 cases fl with
 | ret u=>
  obtain ⟨v,σ',H',J,rv,q⟩:=hs;exact fin J rv q
 | next=>
  obtain ⟨σ',H',J,q⟩:=hs;exact fin (v:=V.non) (u:=Value.none) J rfl q
 | brk=>
  obtain ⟨_,_,_,q⟩:=hs;exact False.elim q
 | cont=>
  obtain ⟨_,_,_,q⟩:=hs;exact False.elim q
end L2
section
variable {C a b f fa fo it ll md ml p r rl:PySem.Addr}{dvs vs xs ys:List L2.V}{Q:L2.VK}{v v' x y:L2.V}{cd ct oc pm u vl vu:PySem.Value}{a0 a1 c ck i j k m n t' x1:Nat}{items items2:Array PySem.Value}{ds fr ns:List Int}{its its' its2 us:List PySem.Value}{pins:List (PySem.Addr×PySem.Obj)}{Y:L2.St}{H H' H0 H1 H2 H3 Hb zt:L2.Hp}{s zw:PySem.Shared}{A:PySem.Around}{h h':PySem.Heap}{name q qual z z':PySem.Str}{L L' M M' N N' acc bad g' ks line loose ls ls' ms ps ts zs:List PySem.Str}{K:PySem.W.Frag}{mg:PySem.Str->Option PySem.Value}{fd:PySem.FuncData}{sp:L2.Sp}{X:L2.Cx}{kvs:List (L2.B3×L2.V)}{prog:PySem.Program}{E:PySem.Value->PySem.Shared->Prop}{S ixs l' pre:List Nat}{e elt iter target tg:PySem.Expr}{elts ifs:List PySem.Expr}{g:L2.TG}{td te ti tk tl to tv tx ty:L2.TE}{fp rs:List PySem.Addr}{apos cpos kpos p1 pos1 spos tpos:PySem.Pos}{b' bh calm fg neg:Bool}{st:PySem.Stmt}{an od:Option PySem.Addr}{tb:L2.TS}{D:L2.Ends}{lo:Int}{o:PySem.Obj}{ta:L2.TA}{ss:Array (Option PySem.Value)}
namespace L2
open PySem PySem.Spec PyProof.Rows
section
variable {X:Cx} {x:Str} {p pos:Pos} {e:Expr} {es:List Expr} {t:TA} {id T:String} {r:List V->Hp->VK->Prop}
noncomputable def gO (r:List V->Hp->VK->Prop) (t:TA):TE:=fun Y H Q=>t Y H fun vs H1=>r vs H1 Q
theorem alu(hc:CallR X (.builtin id) r)(hg:Gl X x)(hm:X.mg x=none)(hv:bootBuiltins x=some (.builtin id))(ha:PA X (e::es) t)(hn:x≠"__name__":=by decide)(U0:(x==("__debug__" : Str))=false:=by decide)(he:starEach (e::es) X.env=(false,eval e X.env)::starEach es X.env:=by rfl)(X0:(backTo pos (starEach es X.env)).any (·.1)=false:=by rfl):PE X (.Call (.Name x p) (e::es) [] pos) (gO r t):=by
 sleep 1;refine wpAny_Call_Name_kw (cH I hg hm hv ?_ hn U0);exact PyProof.Rows.callWith_builtin1 (A8 (ha pos pins s Y H _ I h) fun us s1 ⟨vs,H1,I1,r1,q1⟩=>hc pins s1 Y H1 vs us Q I1 r1 q1) he X0
theorem ajB(hc:CallR X (.type T) r)(hg:Gl X x)(hm:X.mg x=none)(hv:bootBuiltins x=some (.type T))(ha:PA X (e::es) t)(hn:x≠"__name__":=by decide)(U0:(x==("__debug__" : Str))=false:=by decide)(he:starEach (e::es) X.env=(false,eval e X.env)::starEach es X.env:=by rfl)(X0:(backTo pos (starEach es X.env)).any (·.1)=false:=by rfl):PE X (.Call (.Name x p) (e::es) [] pos) (gO r t):=by
 sleep 1;refine wpAny_Call_Name_kw (cH I hg hm hv ?_ hn U0);exact PyProof.Rows.callWith_type1 (A8 (ha pos pins s Y H _ I h) fun us s1 ⟨vs,H1,I1,r1,q1⟩=>hc pins s1 Y H1 vs us Q I1 r1 q1) he X0
end
end L2
namespace HT
open PySem PyProof.Rows
section
variable {prog:Program} {w:World} {A:Around} {E:Value->Shared->Prop} {s:Shared}
theorem cat_tup{t:Addr}{vs ws:List Value}{Q:Value->Shared->Prop}(ht:IsTup s.heap t vs.toArray)(hb:IsTup s.heap b ws.toArray)(hv:vs≠[])(h1:ws=[]->Q (.ref t) s)(h2:ws≠[]->Q (.ref s.heap.objs.size) { s with heap:=s.heap.push { cls:=.type "tuple",data:=.seq (vs++ws).toArray } })(hsz:vs.length+ws.length<=sizeLine):wpAny (model prog w) A (binaryOp .Add (.ref t) (.ref b)) Q E s:=by
 obtain ⟨⟨cls,dd,data,sl⟩,ho,hc,n,hd⟩:=id ht;obtain ⟨⟨cls2,n9,data2,g3⟩,bN,N2,n2,U1⟩:=id hb;simp only at hc hd N2 U1;subst hc hd N2 U1;have e:vs.toArray++ws.toArray=(vs++ws).toArray:=by simp
 by_cases hw:ws=[]
 .exact concat_meets ⟨_,ho,rfl⟩ ⟨_,bN,rfl⟩ noFill_tuple_add seq_tuple_add PySem.F.slot_tuple_add PySem.F.entry_tuple_add (PySem.F.args_tuple_add_2 _ _)
   (tuple_addW1 t b vs.toArray ws.toArray n n2 dd n9 sl g3 (by simpa using hv) (by simp [hw])) ⟨ho,bN,h1 hw⟩
 .refine concat_meets ⟨_,ho,rfl⟩ ⟨_,bN,rfl⟩ noFill_tuple_add seq_tuple_add PySem.F.slot_tuple_add PySem.F.entry_tuple_add (PySem.F.args_tuple_add_2 _ _)
   (tuple_addW2 t b vs.toArray ws.toArray n n2 dd n9 sl g3 (by simpa using hv) (by simpa using hw) (by rw [K9,K9];exact hsz)) ⟨ho,bN,?_⟩
  rw [e];exact h2 hw
noncomputable def sIx (n d:Nat):Option Int->Nat
 | none=>d
 | some v=>if v<0 then (v+(n:Int)).toNat else min v.toNat n
theorem sIx_nat(n d k:Nat):sIx n d (some (k:Int))=min k n:=by
 show (if (k:Int)<0 then ((k:Int)+(n:Int)).toNat else min (k:Int).toNat n)=min k n;rw [if_neg 'a',Int.toNat_natCast]
theorem sIx_le(n d:Nat)(hd:d<=n)(o:Option Int):sIx n d o<=n:=by
 cases o with
 | none=>exact hd
 | some v=>
  show (if v<0 then (v+(n:Int)).toNat else min v.toNat n)<=n
  by_cases hv:v<0
  .rw [if_pos hv];lia
  .rw [if_neg hv];exact Nat.min_le_right _ _
theorem clip_eq(v:Int)(n d:Nat):(if v<0 then max (v+(n:Int)) 0 else min v (n:Int))=((sIx n d (some v):Nat):Int):=by
 show (if v<0 then max (v+(n:Int)) 0 else min v (n:Int))=(((if v<0 then (v+(n:Int)).toNat else min v.toNat n):Nat):Int)
 by_cases hv:v<0
 .simp only [if_pos hv];lia
 .simp only [if_neg hv];lia
theorem aiF(lo hi:Option Int)(n:Nat):Builtin.Slice.sliceAdjust lo hi 1 (n:Int)=(((sIx n 0 lo:Nat):Int),((sIx n n hi:Nat):Int)):=by
 have h1:¬ ((1:Int)<0):=by lia
 unfold Builtin.Slice.sliceAdjust;simp only [h1,if_false];refine Prod.ext ?_ ?_
 .cases lo with
  | none=>rfl
  | some v=>exact clip_eq v n 0
 .cases hi with
  | none=>rfl
  | some v=>exact clip_eq v n n
theorem aiG(i j:Nat):Builtin.Slice.slicePlaces (i:Int) (j:Int) 1=j-i:=by
 unfold Builtin.Slice.slicePlaces;have h1:(1:Int) > 0:=by lia
 simp only [h1,if_true,Int.ediv_one]
 split <;> lia
theorem ae6{v:Value}{o:Option Int}{Q:Option Int->Shared->Prop}(p:IsPart v o)(h:Q o s):wpAny (model prog w) A (Builtin.Slice.slicePartIndex v) Q E s:=by
 cases p with
 | none=>exact slicePart_none h
 | int i t=>exact slicePart_int h
theorem sliceApplied_gen{sl:Addr}{lo hi:Option Int}{Q:Int×Int×Nat->Shared->Prop}(hs:s.heap.IsSliceOf sl vl vu .none)(pl:IsPart vl lo)(pu:IsPart vu hi)(h:Q (((sIx n 0 lo:Nat):Int),1,sIx n n hi-sIx n 0 lo) s):wpAny (model prog w) A (Builtin.Slice.sliceApplied (.ref sl) (pure (n:Int))) Q E s:=by
 obtain ⟨os,iS,tW,fM⟩:=id hs;unfold Builtin.Slice.sliceApplied Builtin.Slice.sliceFields;refine wpAny_bind (wpAny_bind (wpAny_field iS fM (x:=vl) rfl (wpAny_bind (wpAny_field iS fM (x:=vu) rfl (wpAny_bind (wpAny_field iS fM (x:=.none) rfl (wpAny_pure ?_)))))));refine wpAny_bind (slicePart_none ?_);show wpAny _ _ (if ((1:Int)==0)=true then _ else _) _ _ s;rw [if_neg (by decide)];refine wpAny_bind (ae6 pl (wpAny_bind (ae6 pu (wpAny_bind (wpAny_pure ?_)))));show wpAny _ _ (match Builtin.Slice.sliceAdjust lo hi 1 (n:Int) with | (lo,hi)=>pure (lo,(1:Int),Builtin.Slice.slicePlaces lo hi 1)) _ _ s;rw [aiF lo hi n];show wpAny _ _ (pure (((sIx n 0 lo:Nat):Int),(1:Int),Builtin.Slice.slicePlaces ((sIx n 0 lo:Nat):Int) ((sIx n n hi:Nat):Int) 1)) _ _ s;rw [aiG];exact wpAny_pure h
theorem alv(xs:Array Value)(i k:Nat):((U8 k).filterMap fun (m:Nat)=>xs[((i:Int)+(m:Int)*1).toNat]?).toArray=((xs.toList.drop i).take k).toArray:=by
 have e:(fun (m:Nat)=>xs[((i:Int)+(m:Int)*1).toNat]?)=fun m=>xs[i+m]?:=by
  funext m
  have:((i:Int)+(m:Int)*1).toNat=i+m:=by lia
  rw [this]
 rw [e]
 have:=pick_run xs i k
 rw [List.filterMap_map] at this;have e2:((fun x=>xs[x]?)∘fun x=>i+x)=fun m=>xs[i+m]?:=rfl
 rw [e2] at this;rw [this]
theorem getItem_tuple_cut{t sl:Addr}{lo hi:Option Int}{Q:Value->Shared->Prop}(ht:IsTup s.heap t items)(hs:s.heap.IsSliceOf sl vl vu .none)(pl:IsPart vl lo)(pu:IsPart vu hi)(hw:¬ (sIx items.size 0 lo=0/\sIx items.size items.size hi=items.size))(h:Q (.ref s.heap.objs.size) { s with heap:=s.heap.push { cls:=.type "tuple",data:=.seq ((items.toList.drop (sIx items.size 0 lo)).take (sIx items.size items.size hi-sIx items.size 0 lo)).toArray } })(hsz:items.size<=sizeLine):wpAny (model prog w) A (getItem (.ref t) (.ref sl)) Q E s:=by
 have j4:sizeOk (.seq ((items.toList.drop (sIx items.size 0 lo)).take (sIx items.size items.size hi-sIx items.size 0 lo)).toArray):=by
  show ((items.toList.drop (sIx items.size 0 lo)).take (sIx items.size items.size hi-sIx items.size 0 lo)).toArray.size<=sizeLine;rw [K9,F7,k5,eL];lia
 have hj:sIx items.size items.size hi<=items.size:=sIx_le _ _ (C3 _) hi;obtain ⟨os,iS,tW,fM⟩:=id hs;have hTs:s.TypeIs (.ref sl) "slice":=⟨os,iS,tW⟩
 unfold getItem
 try with_reducible refine wpAny_holding ?_
 first | refine wpAny_bind (wpAny_pure ?_) | skip
 refine wpAny_bind (wpAny_sequenceKey ht.typeIs (by decide) ?_);refine wpAny_bind (wpAny_callSpecial?_slot (name:=Str.ofString "__getitem__") ht.typeIs PyProof.Rows.slot_tuple_getitem
  (wpAny_call_entry PyProof.Rows.slot_tuple_getitem ht.typeIs entry_tuple_getitem ?_ (args_tuple_getitem _ _)))
 show wpAny _ _ (Builtin.Tuple.tupleItemsOf (.ref t) >>= _) _ _ s;refine wpAny_bind (tupleItemsOf_ ht ?_);refine wpAny_bind (wpAny_typeOf hTs ?_);rw [if_pos (by decide)];refine wpAny_bind (sliceApplied_gen hs pl pu ?_);have iT:¬ ((((sIx items.size 0 lo:Nat):Int)==0&&(1:Int)==1&&(sIx items.size items.size hi-sIx items.size 0 lo)==items.size)=true):=by
  intro q;rw [f8,f8] at q;have q1:((sIx items.size 0 lo:Nat):Int)=0:=eq_of_beq q.1.1;have q2:sIx items.size items.size hi-sIx items.size 0 lo=items.size:=eq_of_beq q.2;exact hw ⟨by lia,by lia⟩
 show wpAny _ _ (if (((sIx items.size 0 lo:Nat):Int)==0&&(1:Int)==1&&(sIx items.size items.size hi-sIx items.size 0 lo)==items.size)=true then _ else _) _ _ s;rw [if_neg iT,alv]
 first
  | exact wpAny_bind (m:=Builtin.Tuple.tupleExact _) (wpAny_newObj_type (wpAny_pure ⟨_,rfl,wpAny_pure h⟩) j4)
  | exact wpAny_bind (m:=Builtin.Tuple.tupleExact _) (wpAny_newObj_type (wpAny_bind (wpAny_pure (wpAny_pure ⟨_,rfl,wpAny_pure h⟩))) j4)
  | exact wpAny_bind (wpAny_bind (m:=Builtin.Tuple.tupleExact _) (wpAny_newObj_type (wpAny_pure (wpAny_pure ⟨_,rfl,wpAny_pure h⟩)) j4))
  | exact wpAny_bind (wpAny_bind (m:=Builtin.Tuple.tupleExact _) (wpAny_newObj_type (wpAny_pure ⟨_,rfl,wpAny_pure h⟩) j4))
end
end HT
namespace L2
open PySem PySem.Spec PyProof.Rows
noncomputable abbrev TO:=St->Hp->(Option Int->Hp->Prop)->Prop
noncomputable def PO (X:Cx) (e:Option Expr) (t:TO):Prop:=
 ∀ (pins:List (Addr×Obj)) (s:Shared) (Y:St) (H:Hp) (Q:Option Int->Hp->Prop),Inv X pins Y H s->t Y H Q->
  wpAny 'b' X.A (evalPart e X.env) (fun u s'=>∃ o H',Inv X pins Y H' s'/\IsPart u o/\Q o H') X.xe s
noncomputable def vJ:TO:=fun _ H Q=>Q none H
noncomputable def tPart (t:TE):TO:=fun Y H Q=>t Y H fun x H1=>∃ i,x=.int i/\Q (some i) H1
theorem rD : ∀ {us:List Value},Vals (ns.map V.int) us->IntsAre us ns:=by
 induction ns with
 | nil=>intro us r;rw [List.map_nil] at r;cases r;exact .nil
 | cons n ns ih=>
  intro us r;rw [G0] at r
  cases r with
  | cons r1 r2=>
   obtain ⟨t,e⟩:=r1;subst e;exact .cons n t (ih r2)
section
variable {X:Cx} {e:Expr} {te:TE} {lo hi:Option Expr} {tl th:TO} {pos p2:Pos}
theorem anJ:PO X none vJ:=by
 sleep 1;rw [evalPart_none];exact wpAny_pure ⟨none,H,I,.none,h⟩
theorem anK(h:PE X e te):PO X (some e) (tPart te):=by
 intro pins s Y H Q I hw;rw [evalPart_some];refine A8 (h pins s Y H _ I hw) fun u s1 ⟨x,H1,I1,r1,q1⟩=>?_
 obtain ⟨i,rfl,q⟩:=q1;obtain ⟨t,rfl⟩:=r1;exact ⟨some i,H1,I1,.int i t,q⟩
noncomputable def kH (X:Cx) (r:V->Option Int->Option Int->Hp->VK->Prop):Prop:=
 ∀ (pins:List (Addr×Obj)) (s:Shared) (Y:St) (H:Hp) (x:V) (v vl vu:Value) (lo hi:Option Int) (sl:Addr) (Q:VK),Inv X pins Y H s->RelV x v->s.heap.IsSliceOf sl vl vu .none->IsPart vl lo->IsPart vu hi->r x lo hi H Q->
  ∃ T id,typeLookup (.type T) "__getitem__"=pure (some (.builtin id))/\s.TypeIs v T/\wpAny 'b' X.A (getItem v (.ref sl)) (EP X pins Y Q) X.xe s
noncomputable def vK (r:V->Option Int->Option Int->Hp->VK->Prop) (te:TE) (tl th:TO):TE:=fun Y H Q=>te Y H fun x H1=>tl Y H1 fun l H2=>th Y H2 fun u H3=>r x l u H3 Q
theorem alw{r:V->Option Int->Option Int->Hp->VK->Prop}(hr:kH X r)(he:PE X e te)(hl:PO X lo tl)(hu:PO X hi th):PE X (.Subscript e (.Slice lo hi none p2) pos) (vK r te tl th):=by
 sleep 1;refine Subscript_ (A8 (he pins s Y H _ I h) fun v s1 ⟨x,H1,I1,r1,q1⟩=>?_);refine wpAny_Slice (A8 (hl pins s1 Y H1 _ I1 q1) fun vl s2 ⟨l,H2,I2,pl,q2⟩=>A8 (hu pins s2 Y H2 _ I2 q2) fun vu s3 ⟨u,H3,I3,pu,q3⟩=>?_);rw [evalPart_none];refine wpAny_pure ?_;have I4:Inv X pins Y H3 { s3 with heap:=s3.heap.push { cls:=.type "slice",data:=.fields #[vl,vu,.none] } }:=I3.kept (t':=s3.toks) fun b ob q=>Heap.get?_push_of_some _ q
 obtain ⟨T,id,hT,ht,hg⟩:=hr pins { s3 with heap:=s3.heap.push { cls:=.type "slice",data:=.fields #[vl,vu,.none] } } Y H3 x v vl vu l u s3.heap.objs.size Q I4 r1 (Heap.IsSliceOf.new ..) pl pu q3;show wpAny 'b' X.A (subscriptTail e (.Slice lo hi none p2) v (.ref s3.heap.objs.size)) (EP X pins Y Q) X.xe { s3 with heap:=s3.heap.push { cls:=.type "slice",data:=.fields #[vl,vu,.none] } };exact tail_any (ops:=[.ref s3.heap.objs.size,v]) ht hT hg (by with_unfolding_all rfl)
noncomputable def cutV (xs:List V) (lo hi:Option Int):List V:=(xs.drop (HT.sIx xs.length 0 lo)).take (HT.sIx xs.length xs.length hi-HT.sIx xs.length 0 lo)
theorem ael(xs:List V)(lo hi:Option Int):(cutV xs lo hi).length<=xs.length:=by
 unfold cutV;rw [F7,k5];lia
noncomputable def rSlT (K:PySem.W.Frag):V->Option Int->Option Int->Hp->VK->Prop:=fun x lo hi H Q=>∃ a xs,x=.ref a/\B1 K H a xs/\
 ¬ (HT.sIx xs.length 0 lo=0/\HT.sIx xs.length xs.length hi=xs.length)/\∀ p,H p=none->Q (.ref p) (A0 H p (.tup (cutV xs lo hi)))
theorem aqB:kH X (rSlT X.K):=by
 intro pins s Y H x v vl vu lo hi sl Q I rx hs pl pu h;obtain ⟨a,xs,rfl,hx,hw,q⟩:=h
 cases rx
 obtain ⟨its,r,ht,hz⟩:=I.tuple hx;have A9:its.toArray.size=xs.length:=by rw [K9];exact r.length.symm
 refine ⟨"tuple",_,PyProof.Rows.slot_tuple_getitem.lookup,ht.typeIs,?_⟩;refine HT.getItem_tuple_cut ht hs pl pu (by rw [A9];exact hw) ?_ (by rw [A9];exact hz);rw [A9];refine ⟨.ref s.heap.objs.size,_,I.laid (t':=s.toks) (o:=.tup (cutV xs lo hi)) (fun b ob q=>Heap.get?_push_of_some _ q) (C3 _) ?_,rfl,q _ (I.hok.fresh (C3 _))⟩;exact ⟨N5 (ael xs lo hi) hz,_,(r.drop (HT.sIx xs.length 0 lo)).take (HT.sIx xs.length xs.length hi-HT.sIx xs.length 0 lo),IsTup.new _ _⟩
noncomputable def rCatT (K:PySem.W.Frag):R2:=fun x y H Q=>∃ a b xs ys,x=.ref a/\y=.ref b/\B1 K H a xs/\B1 K H b ys/\xs≠[]/\xs.length+ys.length<=sizeLine/\
 (ys=[]->Q (.ref a) H)/\(ys≠[]->∀ p,H p=none->Q (.ref p) (A0 H p (.tup (xs++ys))))
theorem Vals.nil_iff(r:Vals xs us):us=[]↔xs=[]:=by
 cases r with
 | nil=>simp
 | cons _ _=>simp
theorem anL:G7 X (binaryOp .Add) (rCatT X.K):=by
 sleep 0;obtain ⟨a,b,xs,ys,rfl,rfl,ha,hb,hx,hz,q1,q2⟩:=h
 cases rx
 cases ry
 obtain ⟨its,r1,p1,_⟩:=I.tuple ha;obtain ⟨its2,r2,p2,_⟩:=I.tuple hb;refine HT.cat_tup p1 p2 (fun z=>hx (r1.nil_iff.mp z)) (fun z=>⟨.ref a,H,I,rfl,q1 (r2.nil_iff.mp z)⟩) (fun z=>?_) (by rw [<- r1.length,<- r2.length];exact hz);refine ⟨.ref s.heap.objs.size,_,I.laid (t':=s.toks) (o:=.tup (xs++ys)) (fun b ob q=>Heap.get?_push_of_some _ q) (C3 _) ?_,rfl,q2 (fun w=>z (r2.nil_iff.mpr w)) _ (I.hok.fresh (C3 _))⟩;exact ⟨by rw [D6];exact hz,_,r1.append r2,IsTup.new _ _⟩
end
noncomputable def X4 (n:Nat) (i:Int):Option Nat:=if 0<=i then (if i<n then some i.toNat else none) else if -(n:Int)<=i then some (i+n).toNat else none
noncomputable def F8 {α:Type} (xs:List α) (i:Int):Option α:=(X4 xs.length i).bind fun j=>xs[j]?
theorem ajC{i:Int}(h:X4 n i=some j):seqIndex? i n=some j/\j<n/\-(n:Int)<=i/\i<n:=by
 unfold X4 at h
 by_cases h0:0<=i
 .rw [if_pos h0] at h
  by_cases h1:i<n
  .rw [if_pos h1] at h;have e:i.toNat=j:=Option.some.inj h;exact ⟨by rw [seqIndex_of h0 h1,e],by lia,by lia,h1⟩
  .rw [if_neg h1] at h;cases h
 .rw [if_neg h0] at h
  by_cases h1:-(n:Int)<=i
  .rw [if_pos h1] at h;have e:(i+n).toNat=j:=Option.some.inj h;exact ⟨by rw [seqIndex_neg 'a' h1,e],by lia,h1,by lia⟩
  .rw [if_neg h1] at h;cases h
theorem vL{α:Type}{xs:List α}{i:Int}{v:α}(h:F8 xs i=some v):∃ j,seqIndex? i xs.length=some j/\xs[j]?=some v/\j<xs.length/\-(xs.length:Int)<=i/\i<xs.length:=by
 unfold F8 at h;cases e:X4 xs.length i with
 | none=>rw [e] at h;cases h
 | some j=>
  rw [e] at h;obtain ⟨h1,h2,h3,h4⟩:=ajC e;exact ⟨j,h1,h,h2,h3,h4⟩
theorem J9{α:Type}{xs:List α}{v:α}(h:xs[j]?=some v):F8 xs (j:Int)=some v:=by
 have hj:j<xs.length:=(E6.mp h).1;have e:X4 xs.length (j:Int)=some j:=by
  unfold X4;rw [if_pos 'a',if_pos 'a'];simp
 unfold F8;rw [e];exact h
theorem alx{α:Type}(xs:List α)(v:α):F8 (xs++[v]) (-1)=some v:=by
 have hl:(xs++[v]).length=xs.length+1:=by simp
 have e:X4 (xs++[v]).length (-1)=some xs.length:=by
  unfold X4;rw [hl,if_neg (by decide),if_pos 'a']
  congr 1
  lia
 unfold F8;rw [e];show (xs++[v])[xs.length]?=some v
 simp
noncomputable def ajD (b:Expr):Prop:=∀ o i,subscripted b false o i=operate [o,i] (getItem o i)
noncomputable def cJ (X:Cx) (r:R2):Prop:=
 ∀ (value slice:Expr) (pins:List (Addr×Obj)) (s:Shared) (Y:St) (H:Hp) (x y:V) (v u:Value) (Q:VK),Inv X pins Y H s->RelV x v->RelV y u->r x y H Q->
  subscripted slice false v u=operate [v,u] (getItem v u)->wpAny 'b' X.A (subscriptTail value slice v u) (EP X pins Y Q) X.xe s
noncomputable def rE (X:Cx) (id:String) (r:V->List V->Hp->VK->Prop):Prop:=
 ∀ (pins:List (Addr×Obj)) (s:Shared) (Y:St) (H:Hp) (x:V) (xs:List V) (v:Value) (us:List Value) (Q:VK),Inv X pins Y H s->RelV x v->Vals xs us->r x xs H Q->
  wpAny 'b' X.A (call (.builtin id) (v::us)) (EP X pins Y Q) X.xe s
section
variable {X:Cx} {a b:Expr} {ta tb:TE} {pos:Pos}
theorem cJ.or{r r':R2}(h:cJ X r)(h':cJ X r'):cJ X (fun x y H Q=>r x y H Q\/r' x y H Q):=by
 intro value slice pins s Y H x y v u Q I rx ry q hs
 rcases q with q | q
 .exact h value slice pins s Y H x y v u Q I rx ry q hs
 .exact h' value slice pins s Y H x y v u Q I rx ry q hs
theorem pe_ix{r:R2}(hr:cJ X r)(ha:PE X a ta)(hb:PE X b tb)(hs:ajD b):PE X (.Subscript a b pos) (cI r ta tb):=by
 sleep 1;exact Subscript_ (binT ha hb I h fun v u s2 x y H2 I2 rx ry q=>hr a b pins s2 Y H2 x y v u Q I2 rx ry q (hs _ _))
noncomputable def rIxL (K:PySem.W.Frag):R2:=fun x y H Q=>∃ p xs i v,x=.ref p/\y=.int i/\D8 K H p xs/\F8 xs i=some v/\Q v H
noncomputable def rIxT (K:PySem.W.Frag):R2:=fun x y H Q=>∃ p xs i v,x=.ref p/\y=.int i/\B1 K H p xs/\F8 xs i=some v/\Q v H
noncomputable def rIxS:R2:=fun x y H Q=>∃ z i c,x=.str z/\y=.int i/\z.length<=sizeLine/\F8 z.cps.toList i=some c/\Q (.str ⟨#[c]⟩) H
theorem ix_list:cJ X (rIxL X.K):=by
 intro value slice pins s Y H x y v u Q I rx ry h hs;obtain ⟨p,xs,i,z,rfl,rfl,hq,he,q⟩:=h
 cases rx
 obtain ⟨t,rfl⟩:=ry;obtain ⟨its,r,pl,hz⟩:=I.list hq;obtain ⟨j,h1,h2,h3,h4,h5⟩:=vL he;obtain ⟨w,ew,rw'⟩:=r.get h2;have hl:=r.length;have hn:=kG;have fin:EP X pins Y Q w s:=⟨z,H,I,rw',q⟩
 by_cases h0:0<=i
 .have hj:i.toNat=j:=by
   rw [seqIndex_of h0 h5] at h1;exact Option.some.inj h1
  exact item_listR pl.isList h0 'a' (by rw [hj];simpa using ew) fin hs
 .have hj:(i+(its.toArray.size:Int)).toNat=j:=by
   rw [seqIndex_neg 'a' h4] at h1;rw [K9,<- hl];exact Option.some.inj h1
  exact subscriptTail_builtinR (x:=w) pl.isList.typeIs slot_list_getitem.lookup
   (wpAny_getItem_list_neg (Q:=fun r s'=>r=w/\EP X pins Y Q r s') pl.isList 'a' (by rw [K9] <;> lia) 'a' (by rw [hj];simpa using ew) ⟨rfl,fin⟩) hs
theorem ix_tup:cJ X (rIxT X.K):=by
 intro value slice pins s Y H x y v u Q I rx ry h hs;obtain ⟨p,xs,i,z,rfl,rfl,hq,he,q⟩:=h
 cases rx
 obtain ⟨t,rfl⟩:=ry;obtain ⟨its,r,pl,hz⟩:=I.tuple hq;obtain ⟨j,h1,h2,h3,h4,h5⟩:=vL he;obtain ⟨w,ew,rw'⟩:=r.get h2;have hl:=r.length;have hn:=kG;have fin:EP X pins Y Q w s:=⟨z,H,I,rw',q⟩
 exact subscriptTail_builtinR (x:=w) pl.typeIs slot_tuple_getitem.lookup
  (getItem_tuple (j:=j) (Q:=fun r s'=>r=w/\EP X pins Y Q r s') pl 'a' 'a' (by rw [K9,<- hl];exact h1) (by simpa using ew) ⟨rfl,fin⟩) hs
theorem aqC:cJ X rIxS:=by
 intro value slice pins s Y H x y v u Q I rx ry h hs;obtain ⟨z,i,c,rfl,rfl,hz,he,q⟩:=h;obtain ⟨t,rfl⟩:=rx;obtain ⟨t',rfl⟩:=ry;obtain ⟨j,h1,h2,h3,h4,h5⟩:=vL he;have hl:z.cps.toList.length=z.length:=by simp [Str.length]
 rw [hl] at h1 h4 h5;have hn:=kG;exact tail_any (typeIs_str s z t) slot_str_getitem.lookup (getItem_str (c:=c) (by
  have e1:decide (i < -(2 ^ 63:Int))=false:=decide_eq_false 'a';have e2:decide (i≥2 ^ 63)=false:=decide_eq_false 'a';rw [e1,e2,Bool.or_false]) (by rw [h1];simpa using h2) ⟨.str ⟨#[c]⟩,H,I.tok _,⟨_,rfl⟩,q⟩) hs
noncomputable def kI (K:PySem.W.Frag):R2:=fun x y H Q=>rIxL K x y H Q\/rIxT K x y H Q\/rIxS x y H Q
theorem aqD:cJ X (kI X.K):=ix_list.or (ix_tup.or aqC)
theorem aiH(its:List Value)(n j:Nat)(u:Value):Obj.mapSeq (·.setIfInBounds j u) { cls:=.type "list",data:=.seq its.toArray n }={ cls:=.type "list",data:=.seq (its.set j u).toArray n }:=by
 simp [Obj.mapSeq]
theorem Inv.lst(I:Inv X pins Y H s)(h:H p=some (.lst xs)) :
  ∃ (its:List Value) (n:Nat),Vals xs its/\s.heap.get? p=some { cls:=.type "list",data:=.seq its.toArray n }/\xs.length<=sizeLine:=by
 obtain ⟨z,its,n,r,e⟩:=I.hok p _ h;exact ⟨its,n,r,e,z⟩
theorem Inv.lstUpd{n':Nat}{f:Obj->Obj}(I:Inv X pins Y H s)(h:H p=some (.lst xs))(ho:s.heap.get? p=some { cls:=.type "list",data:=.seq its.toArray n })(hf:f { cls:=.type "list",data:=.seq its.toArray n }={ cls:=.type "list",data:=.seq its'.toArray n' })(r:Vals ys its')(hz:ys.length<=sizeLine)(t:Nat) :
  Inv X pins Y (A0 H p (.lst ys)) { s with heap:=s.heap.update p f,toks:=t }:=by
 have e:(s.heap.update p f).get? p=some { cls:=.type "list",data:=.seq its'.toArray n' }:=by
  rw [Heap.get?_update_self f ho (by rw [hf] <;> rfl),hf]
 refine I.write (x:=p) (e:=p) (by rw [h];trivial) (.inl rfl) (fun b u hb q=>(Heap.get?_update_other _ _ (Ne.symm hb)).trans q) ⟨_,e⟩ ?_;exact ⟨hz,its',n',r,e⟩
noncomputable def rSetL:V->V->V->Hp->(Hp->Prop)->Prop:=fun o i v H Q=>∃ p xs k j,o=.ref p/\i=.int k/\H p=some (.lst xs)/\X4 xs.length k=some j/\Q (A0 H p (.lst (xs.set j v)))
theorem aly:PSet X rSetL:=by
 intro pins s Y H o i v ov iv u Q I ro ri rv h;obtain ⟨p,xs,k,j,rfl,rfl,hp,hj,q⟩:=h
 cases ro
 obtain ⟨t,rfl⟩:=ri;obtain ⟨its,n,r,ho,hz⟩:=I.lst hp;obtain ⟨h1,h2,h3,h4⟩:=ajC hj;have hl:=r.length;have hn:=kG;have I':Inv X pins Y (A0 H p (.lst (xs.set j v))) { s with heap:=s.heap.update p (Obj.mapSeq (·.setIfInBounds j u)) }:=
  I.lstUpd hp ho (aiH its n j u) (r.set rv j) (by rw [List.length_set];exact hz) s.toks
 by_cases h0:0<=k
 .have hk:k.toNat=j:=by
   rw [seqIndex_of h0 h4] at h1;exact Option.some.inj h1
  exact PySem.W.ki_setAt ho h0 'a' (by rw [K9,<- hl];exact h4) (by rw [hk];exact ⟨_,I',q⟩)
 .have hk:(k+(its.toArray.size:Int)).toNat=j:=by
   rw [seqIndex_neg 'a' h3] at h1;rw [K9,<- hl];exact Option.some.inj h1
  exact PySem.W.ki_setBack ho 'a' (by rw [K9,<- hl];exact h3) 'a' (by rw [hk];exact ⟨_,I',q⟩)
theorem af2(lo hi:Option Int)(n:Nat):(sliceBounds lo hi none n).1=((HT.sIx n 0 lo:Nat):Int)/\(sliceBounds lo hi none n).2.1=((HT.sIx n n hi:Nat):Int)/\(sliceBounds lo hi none n).2.2=1:=by
 refine ⟨?_,?_,rfl⟩
 .cases lo with
  | none=>simp [sliceBounds,HT.sIx]
  | some i=>
   simp only [sliceBounds,HT.sIx,Option.getD_none,show (1:Int) > 0 by decide,if_true]
   by_cases h:i<0
   .simp only [h,if_true] <;> lia
   .simp only [h,if_false] <;> lia
 .cases hi with
  | none=>simp [sliceBounds,HT.sIx]
  | some i=>
   simp only [sliceBounds,HT.sIx,Option.getD_none,show (1:Int) > 0 by decide,if_true]
   by_cases h:i<0
   .simp only [h,if_true] <;> lia
   .simp only [h,if_false] <;> lia
theorem afu(its:List Value)(lo hi:Option Int):slicePick its.toArray lo hi none=((its.drop (HT.sIx its.length 0 lo)).take (HT.sIx its.length its.length hi-HT.sIx its.length 0 lo)).toArray:=by
 obtain ⟨h1,h2,h3⟩:=af2 lo hi its.toArray.size;unfold slicePick;rw [h1,h2,h3];simp only [sliceRange_one,pick_run,K9] <;> rfl
noncomputable def rSlL (K:PySem.W.Frag):V->Option Int->Option Int->Hp->VK->Prop:=fun x lo hi H Q=>∃ a xs,x=.ref a/\D8 K H a xs/\∀ p,H p=none->Q (.ref p) (A0 H p (.lst (cutV xs lo hi)))
theorem anM:kH X (rSlL X.K):=by
 intro pins s Y H x v vl vu lo hi sl Q I rx hs pl pu h;obtain ⟨a,xs,rfl,hx,q⟩:=h
 cases rx
 obtain ⟨its,r,ht,hz⟩:=I.list hx;have A9:=r.length;refine ⟨"list",_,slot_list_getitem.lookup,ht.isList.typeIs,?_⟩;refine wpAny_getItem_list_slice ht.isList hs pl pu .none 'c' ?_ (by rw [K9] <;> lia);rw [afu,<- A9];refine ⟨.ref s.heap.objs.size,_,I.laid (t':=s.toks) (o:=.lst (cutV xs lo hi)) (fun b ob q=>Heap.get?_push_of_some _ q) (C3 _) ?_,rfl,q _ (I.hok.fresh (C3 _))⟩;exact ⟨N5 (ael xs lo hi) hz,_,0,(r.drop (HT.sIx xs.length 0 lo)).take (HT.sIx xs.length xs.length hi-HT.sIx xs.length 0 lo),Heap.get?_push_size _ rfl⟩
noncomputable def flatV:V->Bool
 | .non=>true
 | .bl _=>true
 | .int _=>true
 | .str _=>true
 | _=>false
noncomputable def eO:V->V->Bool
 | .non,.non=>true
 | .bl a,.bl b=>a==b
 | .bl a,.int b=>(if a then 1 else 0)==b
 | .int a,.bl b=>a==(if b then 1 else 0)
 | .int a,.int b=>a==b
 | .str a,.str b=>a==b
 | _,_=>false
theorem aqE{v:Value}(ry:RelV y u)(rx:RelV x v)(fy:flatV y=true)(fx:flatV x=true):SeqAt.EqAt A s u v (eO y x):=by
 cases y with
 | non=>
  cases ry
  cases x with
  | non=>cases rx;exact SeqAt.EqAt.same _
  | bl b=>cases rx;exact SeqAt.EqAt.none_bool b
  | int b=>obtain ⟨t,rfl⟩:=rx;exact SeqAt.EqAt.none_int b t
  | str b=>obtain ⟨t,rfl⟩:=rx;exact SeqAt.EqAt.none_str b t
  | _=>exact absurd (show false=true from fx) L8
 | bl a=>
  cases ry
  cases x with
  | non=>cases rx;exact SeqAt.EqAt.bool_none a
  | bl b=>cases rx;exact SeqAt.EqAt.bool_bool a b
  | int b=>obtain ⟨t,rfl⟩:=rx;exact SeqAt.EqAt.bool_int a b t
  | str b=>obtain ⟨t,rfl⟩:=rx;exact SeqAt.EqAt.bool_str a b t
  | _=>exact absurd (show false=true from fx) L8
 | int a=>
  obtain ⟨t',rfl⟩:=ry
  cases x with
  | non=>cases rx;exact SeqAt.EqAt.int_none a t'
  | bl b=>cases rx;exact SeqAt.EqAt.int_bool a t' b
  | int b=>obtain ⟨t,rfl⟩:=rx;exact SeqAt.EqAt.int_int a t' b t
  | str b=>obtain ⟨t,rfl⟩:=rx;exact SeqAt.EqAt.int_str a t' b t
  | _=>exact absurd (show false=true from fx) L8
 | str a=>
  obtain ⟨t',rfl⟩:=ry
  cases x with
  | non=>cases rx;exact SeqAt.EqAt.str_none a t'
  | bl b=>cases rx;exact SeqAt.EqAt.str_bool a t' b
  | int b=>obtain ⟨t,rfl⟩:=rx;exact SeqAt.EqAt.str_int a t' b t
  | str b=>obtain ⟨t,rfl⟩:=rx;exact SeqAt.EqAt.str_str a t' b t
  | _=>exact absurd (show false=true from fx) L8
 | _=>exact absurd (show false=true from fy) L8
noncomputable def b8 (x:V) (u:Value):Bool:=match u with
 | .none=>eO .non x
 | .bool b=>eO (.bl b) x
 | .int i _=>eO (.int i) x
 | .str z _=>eO (.str z) x
 | _=>false
theorem amP(r:RelV y u)(f:flatV y=true):b8 x u=eO y x:=by
 cases y with
 | non=>cases r;rfl
 | bl b=>cases r;rfl
 | int i=>obtain ⟨t,rfl⟩:=r;rfl
 | str z=>obtain ⟨t,rfl⟩:=r;rfl
 | _=>exact absurd (show false=true from f) L8
theorem nN : ∀ {xs:List V} {us:List Value},Vals xs us->xs.all flatV=true->us.any (b8 x)=xs.any fun y=>eO y x
 | _,_,.nil,_=>rfl
 | y::xs,u::us,.cons r t,f=>by
  rw [List.all_cons,f8] at f;rw [aO,aO,amP r f.1,nN t f.2]
theorem nO{v:Value}(rx:RelV x v)(fx:flatV x=true):∀ {xs:List V} {us:List Value},Vals xs us->xs.all flatV=true->∀ u∈us,SeqAt.EqAt A s u v (b8 x u)
 | _,_,.nil,_=>fun u hu=>by cases hu
 | y::xs,u::us,.cons r t,f=>fun u' hu=>by
  rw [List.all_cons,f8] at f
  rcases L4.mp hu with rfl | hu
  .rw [amP r f.1];exact aqE r rx f.1 fx
  .exact nO rx fx t f.2 u' hu
noncomputable def eP (x:V) (xs:List V):Bool:=xs.any fun y=>eO y x
noncomputable def vM (K:PySem.W.Frag) (neg:Bool):R2:=fun x y H Q=>∃ p xs,y=.ref p/\(D8 K H p xs\/B1 K H p xs)/\flatV x=true/\xs.all flatV=true/\Q (.bl (if neg then !eP x xs else eP x xs)) H
theorem ajE:G7 X (compareOp .In) (vM X.K false):=by
 sleep 0;obtain ⟨p,xs,rfl,hq,fx,fs,q⟩:=h
 cases ry
 rcases hq with hq | hq
 .obtain ⟨its,r,pl,hz⟩:=I.list hq;refine SeqAt.in_listAt (b8 x) pl.isList (fun w hw=>nO rx fx r fs w (by simpa using hw)) ⟨.bl _,H,I,rfl,?_⟩;rw [show its.toArray.any (b8 x)=its.any (b8 x) by simp,nN r fs];exact q
 .obtain ⟨its,r,pl,hz⟩:=I.tuple hq;refine SeqAt.in_tupleAt (b8 x) pl (fun w hw=>nO rx fx r fs w (by simpa using hw)) ⟨.bl _,H,I,rfl,?_⟩;rw [show its.toArray.any (b8 x)=its.any (b8 x) by simp,nN r fs];exact q
theorem af3:G7 X (compareOp .NotIn) (vM X.K true):=by
 sleep 0;obtain ⟨p,xs,rfl,hq,fx,fs,q⟩:=h
 cases ry
 rcases hq with hq | hq
 .obtain ⟨its,r,pl,hz⟩:=I.list hq;refine SeqAt.notIn_listAt (b8 x) pl.isList (fun w hw=>nO rx fx r fs w (by simpa using hw)) ⟨.bl _,H,I,rfl,?_⟩;rw [show its.toArray.any (b8 x)=its.any (b8 x) by simp,nN r fs];exact q
 .obtain ⟨its,r,pl,hz⟩:=I.tuple hq;refine SeqAt.notIn_tupleAt (b8 x) pl (fun w hw=>nO rx fx r fs w (by simpa using hw)) ⟨.bl _,H,I,rfl,?_⟩;rw [show its.toArray.any (b8 x)=its.any (b8 x) by simp,nN r fs];exact q
theorem af4:G7 X (compareOp .NotIn) (fun x y H Q=>∃ i j,x=.str i/\y=.str j/\Q (.bl (!(!(Builtin.Str.occurrences j i 0 j.length 1).isEmpty))) H):=by
 sleep 0;obtain ⟨i,j,rfl,rfl,q⟩:=h;obtain ⟨t,rfl⟩:=rx;obtain ⟨t',rfl⟩:=ry;exact notIn_str ⟨.bl _,H,I,rfl,q⟩
theorem af5:CallR X (.type "list") (fun xs H Q=>∃ p ys,xs=[.ref p]/\(D8 X.K H p ys\/B1 X.K H p ys)/\∀ l,H l=none->Q (.ref l) (A0 H l (.lst ys))):=by
 intro pins s Y H xs us Q I r h;obtain ⟨p,ys,rfl,hq,q⟩:=h;obtain ⟨u,rfl,rx⟩:=vals1 r
 cases rx
 have fin:∀ (its:List Value),Vals ys its->ys.length<=sizeLine->∀ (h':Heap) (c':Nat),(∀ b o',s.heap.get? b=some o'->h'.get? b=some o')->
   h'.get? s.heap.objs.size=some { cls:=.type "list",dict:=none,data:=.seq its.toArray c',slots:=#[] }->EP X pins Y Q (.ref s.heap.objs.size) { s with heap:=h' }:=fun its r' hz h' c' kp e=>
  ⟨.ref s.heap.objs.size,_,I.laid (t':=s.toks) kp (C3 _) (show ObjOk X.prog X.w _ h' _ (.lst ys) from ⟨hz,its,c',r',e⟩),rfl,q _ (I.hok.fresh (C3 _))⟩
 rcases hq with hq | hq
 .obtain ⟨its,r',pl,hz⟩:=I.list hq;have A9:=r'.length;obtain ⟨o,ho,hc,n,hd⟩:=pl.isList;exact call_list_seq p (.inl rfl) ho hc hd (fun h' c' kp e=>fin its r' hz h' c' kp e) (by simp only [K9] <;> lia)
 .obtain ⟨its,r',pl,hz⟩:=I.tuple hq;have A9:=r'.length;obtain ⟨o,ho,hc,n,hd⟩:=pl;exact call_list_seq p (.inr rfl) ho hc hd (fun h' c' kp e=>fin its r' hz h' c' kp e) (by simp only [K9] <;> lia)
theorem afv:CallR X (.type "tuple") (fun xs H Q=>∃ p ys,xs=[.ref p]/\((D8 X.K H p ys/\∀ l,H l=none->Q (.ref l) (A0 H l (.tup ys)))\/(B1 X.K H p ys/\Q (.ref p) H))):=by
 intro pins s Y H xs us Q I r h;obtain ⟨p,ys,rfl,h⟩:=h;obtain ⟨u,rfl,rx⟩:=vals1 r
 cases rx
 rcases h with ⟨hq,q⟩ | ⟨hq,q⟩
 .obtain ⟨its,r',pl,hz⟩:=I.list hq;have A9:=r'.length;refine call_tuple_list pl.isList (fun h' kp=>?_) (by simp only [K9] <;> lia);have I1:Inv X pins Y H { s with heap:=h' }:=I.kept (t':=s.toks) kp;have I2:Inv X pins Y (A0 H h'.objs.size (.tup ys)) { s with heap:=h'.push { cls:=.type "tuple",data:=.seq its.toArray } }:=
   I1.laid (t':=s.toks) (fun b o e=>Heap.get?_push_of_some _ e) (C3 _) (show ObjOk X.prog X.w _ _ _ (.tup ys) from ⟨hz,its,r',IsTup.new _ _⟩)
  exact ⟨.ref h'.objs.size,_,I2,rfl,q _ (I1.hok.fresh (C3 _))⟩
 .obtain ⟨its,r',pl,hz⟩:=I.tuple hq;exact call_tuple_same pl ⟨.ref p,H,I,rfl,q⟩
noncomputable def eQ (K:PySem.W.Frag) (T:String) (x:V) (H:Hp):Prop:=match x with
 | .str _=>T="str"
 | .int _=>T="int"
 | .ref p=>(T="list"/\∃ xs,D8 K H p xs)\/(T="tuple"/\∃ o,K.lookup p=some o/\o.cls=.type "tuple"/\o.dict=none)\/
   (T="dict"/\((∃ kvs,H p=some (.dK kvs))\/∃ kvs,H p=some (.dT kvs)))\/(T="set"/\∃ S n,H p=some (.set S n))
 | _=>False
theorem amQ{T:String}{v:Value}(I:Inv X pins Y H s)(r:RelV x v)(ty:eQ X.K T x H) :
  s.TypeIs v T/\∀ a,v=.ref a->∃ ob,s.heap.get? a=some ob/\ob.dict=none:=by
 cases x with
 | str z=>
  obtain ⟨t,rfl⟩:=r
  cases (show T="str" from ty)
  exact ⟨typeIs_str s z t,fun _ e=>nomatch e⟩
 | int i=>
  obtain ⟨t,rfl⟩:=r
  cases (show T="int" from ty)
  exact ⟨typeIs_int s i t,fun _ e=>nomatch e⟩
 | ref p=>
  cases r
  rcases ty with ⟨rfl,xs,hq⟩ | ⟨rfl,o,hk,hc,hd⟩ | ⟨rfl,hk⟩ | ⟨rfl,S,n,hk⟩
  .obtain ⟨its,_,pl,_⟩:=I.list hq;refine ⟨pl.isList.typeIs,fun a e=>?_⟩;cases e;obtain ⟨o,n,e,c,hd,_⟩:=pl;exact ⟨o,e,hd⟩
  .refine ⟨⟨o,I.kIn p o hk,hc⟩,fun a e=>?_⟩;cases e;exact ⟨o,I.kIn _ o hk,hd⟩
  .have z:∃ o,s.heap.get? p=some o/\o.ExactDict:=by
    rcases hk with ⟨kvs,hk⟩ | ⟨kvs,hk⟩
    .obtain ⟨_,_,_,_,o,_,_,e,ex,_⟩:=I.hok p _ hk;exact ⟨o,e,ex⟩
    .obtain ⟨_,_,_,_,o,_,_,e,ex,_⟩:=I.hok p _ hk;exact ⟨o,e,ex⟩
   obtain ⟨o,e,ex⟩:=z;refine ⟨⟨o,e,ex.1⟩,fun a e2=>?_⟩;cases e2;exact ⟨o,e,ex.2.1⟩
  .obtain ⟨o,_,_,_,e,ex,_⟩:=I.hok p _ hk;refine ⟨⟨o,e,ex.1⟩,fun a e2=>?_⟩;cases e2;exact ⟨o,e,ex.2.1⟩
 | _=>exact False.elim ty
noncomputable def tBM0 (K:PySem.W.Frag) (T:String) (r:V->List V->Hp->VK->Prop) (to:TE):TE:=fun Y H Q=>to Y H fun x H1=>eQ K T x H1/\r x [] H1 Q
noncomputable def rF (K:PySem.W.Frag) (T:String) (r:V->List V->Hp->VK->Prop) (to:TE) (t:TA):TE:=fun Y H Q=>to Y H fun x H1=>eQ K T x H1/\t Y H1 fun xs H2=>r x xs H2 Q
variable {o e:Expr} {es:List Expr} {to:TE} {t:TA} {name:Str} {apos cpos:Pos} {T id:String} {r:V->List V->Hp->VK->Prop}
theorem aqF(pa:PlainAttrs T)(slot:Slot T name id)(Y0:typeOf (.builtin id)=pure (.type "method_descriptor"))(hm:rE X id r)(ho:PE X o to)(G2:attributeBase o name X.env (eval o X.env)=eval o X.env:=by rfl)(G3:(apos.endLine==cpos.line)=true:=by rfl):PE X (.Call (.Attribute o name apos) [] [] cpos) (tBM0 X.K T r to):=by
 sleep 1;refine wpAny_Call_method0_late G2 G3 (A8 (ho pins s Y H _ I h) fun v s1 ⟨x,H1,I1,r1,ty,q1⟩=>?_);obtain ⟨h1,h2⟩:=amQ I1 r1 ty;exact ⟨T,id,pa,slot,Y0,h1,h2,Calls.callWith_builtin rfl (PySem.evalArgs_none (hm pins s1 Y H1 x [] v [] Q I1 r1 .nil q1))⟩
theorem pe_bm(pa:PlainAttrs T)(slot:Slot T name id)(Y0:typeOf (.builtin id)=pure (.type "method_descriptor"))(hm:rE X id r)(ho:PE X o to)(ha:PA X (e::es) t)(G2:attributeBase o name X.env (eval o X.env)=eval o X.env:=by rfl)(dD:((backTo cpos (starEach (e::es) X.env)).all (fun x=>!x.1)&&(backToKw cpos (keywordEach [] X.env)).all (fun x=>x.1.isSome)
   && decide ((e::es).length+([]:List Keyword).length+(if ([]:List Keyword).isEmpty then 0 else 1)<30))=true:=by rfl)(G3:(apos.endLine==cpos.line)=true:=by rfl)(hs:starEach (e::es) X.env=(false,eval e X.env)::starEach es X.env:=by rfl)(hplain:(backTo cpos (starEach es X.env)).any (·.1)=false:=by rfl) :
  PE X (.Call (.Attribute o name apos) (e::es) [] cpos) (rF X.K T r to t):=by
 sleep 1;refine wpAny_Call_method_late G2 dD G3 rfl (A8 (ho pins s Y H _ I h) fun v s1 ⟨x,H1,I1,r1,ty,q1⟩=>?_);obtain ⟨h1,h2⟩:=amQ I1 r1 ty;refine ⟨T,id,pa,slot,Y0,h1,h2,?_⟩;have hA:=ha cpos pins s1 Y H1 _ I1 q1;rw [hs] at hA ⊢
 refine Calls.callWith_builtin (by show (false || (backTo cpos (starEach es X.env)).any (·.1))=false;rw [hplain] <;> rfl) (Calls.evalArgs_plain ?_);exact A8 hA fun us s2 ⟨vs,H2,I2,r2,q2⟩=>hm pins s2 Y H2 x vs v us Q I2 r1 r2 q2
end
noncomputable def nP (X:Cx) (id:String) (r:V->List V->Hp->VK->Prop):Prop:=
 ∀ (pins:List (Addr×Obj)) (s:Shared) (Y:St) (H:Hp) (x:V) (xs:List V) (v:Value) (us:List Value) (Q:VK),Inv X pins Y H s->RelV x v->Vals xs us->r x xs H Q->
  wpAny 'b' X.A (call (.builtin id) (v::us)) (EP X pins Y Q) X.xe s
theorem Vals.one:∀ {x:V} {us:List Value},Vals [x] us->∃ u,us=[u]/\RelV x u
 | _,_,.cons r .nil=>⟨_,rfl,r⟩
theorem Vals.zero:∀ {us:List Value},Vals [] us->us=[]
 | _,.nil=>rfl
theorem Vals.eraseIdx:∀ {xs:List V} {us:List Value} (i:Nat),Vals xs us->Vals (xs.eraseIdx i) (us.eraseIdx i)
 | _,_,_,.nil=>.nil
 | _,_,0,.cons _ t=>t
 | _,_,i+1,.cons r t=>.cons r (Vals.eraseIdx i t)
theorem Vals.reverse(h:Vals xs us):Vals xs.reverse us.reverse:=by
 induction h with
 | nil=>exact .nil
 | cons r t ih=>rw [jW,jW];exact Vals.append ih (.cons r .nil)
theorem Vals.rep(h:Vals xs us):∀ k:Nat,Vals (Y8 k xs).flatten (Y8 k us).flatten
 | 0=>.nil
 | k+1=>by
  rw [jT,jT,jX,jX];exact Vals.append h (Vals.rep h k)
theorem af6(its:List Value):∀ (k:Nat) (acc:List Value),
  List.foldl (fun x1 x2=>x1++x2) acc.toArray (Y8 k its.toArray)=(acc++(Y8 k its).flatten).toArray
 | 0,acc=>by simp
 | k+1,acc=>by
  have e:acc.toArray++its.toArray=(acc++its).toArray:=by simp
  have e2:(acc++its)++(Y8 k its).flatten=acc++(Y8 (k+1) its).flatten:=by
   rw [jT,jX,X3]
  rw [<- e2,<- af6 its k (acc++its),<- e,jT,jY]
section
variable {X:Cx} {pins:List (Addr×Obj)} {Y:St} {H:Hp} {s:Shared} {l b:Addr} {xs ys zs:List V}
theorem Inv.lset{f:Array Value->Array Value}(I:Inv X pins Y H s)(hH:H l=some (.lst xs))(e:s.heap.get? l=some { cls:=.type "list",data:=.seq its.toArray n })(hf:f its.toArray=its'.toArray)(hv:Vals ys its')(hz:ys.length<=sizeLine) :
  Inv X pins Y (A0 H l (.lst ys)) { s with heap:=s.heap.update l (Obj.mapSeq f),toks:=t' }:=by
 have q:=PySem.IsL.update e f;rw [hf] at q;refine I.write (x:=l) (e:=l) (by rw [hH];exact trivial) (.inl rfl) (fun b' u hb hu=>(Heap.get?_update_other s.heap (Obj.mapSeq f) (Ne.symm hb)).trans hu) ⟨_,q⟩ ?_;exact ⟨hz,its',_,hv,q⟩
theorem Inv.lnew(I:Inv X pins Y H s)(hv:Vals ys its)(hz:ys.length<=sizeLine) :
  Inv X pins Y (A0 H s.heap.objs.size (.lst ys)) { s with heap:=s.heap.push { cls:=.type "list",data:=.seq its.toArray },toks:=t' }:=
 I.laid (fun _ _ q=>Heap.get?_push_of_some _ q) (C3 _) ⟨hz,its,0,hv,Heap.get?_push_size _ rfl⟩
theorem Inv.fresh(I:Inv X pins Y H s):H s.heap.objs.size=none:=I.hok.fresh (C3 _)
theorem Inv.lstM(I:Inv X pins Y H s)(hH:H l=some (.lst xs)):xs.length<=sizeLine/\∃ (its:List Value) (n:Nat),Vals xs its/\xs.length=its.length/\s.heap.get? l=some { cls:=.type "list",data:=.seq its.toArray n }:=by
 obtain ⟨z,its,n,r,e⟩:=I.hok l _ hH;exact ⟨z,its,n,r,r.length,e⟩
theorem ahL(h:n<=sizeLine):Builtin.List.listTooLong n=false:=by
 unfold Builtin.List.listTooLong;exact decide_eq_false 'a'
end
section
variable {X:Cx}
noncomputable def vN:V->List V->Hp->VK->Prop:=fun x vs H Q=>∃ l xs y,x=.ref l/\vs=[y]/\H l=some (.lst xs)/\xs.length<sizeLine/\Q .non (A0 H l (.lst (xs++[y])))
theorem af7:nP X "list.append" vN:=by
 intro pins s Y H x vs v us Q I rx rv h;obtain ⟨l,xs,y,rfl,rfl,hH,hz,q⟩:=h
 cases rx
 obtain ⟨u,rfl,ru⟩:=rv.one;obtain ⟨z,its,n,r,hl,e⟩:=I.lstM hH;refine call_meets F.slot_list_append ⟨_,e,rfl⟩ F.entry_list_append (F.args_list_append_2 _ _) (PySem.list_append l its.toArray n u (by rw [K9];lia)) ⟨e,?_⟩;refine ⟨.non,_,I.lset (its':=its++[u]) hH e 'c' (r.append (.cons ru .nil)) ?_,rfl,q⟩;rw [D6,X2];lia
noncomputable def ahM:V->List V->Hp->VK->Prop:=fun x vs H Q=>∃ l xs,x=.ref l/\vs=[]/\H l=some (.lst xs)/\Q .non (A0 H l (.lst xs.reverse))
theorem aiI:nP X "list.reverse" ahM:=by
 intro pins s Y H x vs v us Q I rx rv h;obtain ⟨l,xs,rfl,rfl,hH,q⟩:=h
 cases rx
 have hus:=rv.zero;subst hus;obtain ⟨z,its,n,r,hl,e⟩:=I.lstM hH;refine call_meets F.slot_list_reverse ⟨_,e,rfl⟩ F.entry_list_reverse (F.args_list_reverse_1 _) (AutoSeq1.list_reverse_list_0 l its.toArray n (by rw [K9];lia)) ⟨e,?_⟩;refine ⟨.non,_,I.lset (its':=its.reverse) hH e 'c' r.reverse ?_,rfl,q⟩;rw [List.length_reverse];lia
noncomputable def rCat:R2:=fun x y H Q=>∃ l b xs zs,x=.ref l/\y=.ref b/\H l=some (.lst xs)/\H b=some (.lst zs)/\xs.length+zs.length<=sizeLine/\∀ p,H p=none->Q (.ref p) (A0 H p (.lst (xs++zs)))
theorem aqG:G7 X (binaryOp .Add) rCat:=by
 sleep 0;obtain ⟨l,b,xs,zs,rfl,rfl,hH,hB,hz,q⟩:=h
 cases rx
 cases ry
 obtain ⟨z,its,n,r,hl,e⟩:=I.lstM hH;obtain ⟨z2,its2,n2,r2,V8,e2⟩:=I.lstM hB;refine PySem.P.add_list e e2 ?_ (by rw [K9,K9];lia);have ea:its.toArray++its2.toArray=(its++its2).toArray:=by simp
 rw [ea];exact ⟨.ref _,_,I.lnew (t':=s.toks) (r.append r2) (by rw [D6];lia),rfl,q _ I.fresh⟩
noncomputable def rRep:R2:=fun x y H Q=>∃ l k xs,x=.ref l/\y=.int k/\H l=some (.lst xs)/\-(2 ^ 63)<=k/\k<2 ^ 63/\xs.length*k.toNat<=sizeLine/\
 ∀ p,H p=none->Q (.ref p) (A0 H p (.lst (Y8 k.toNat xs).flatten))
theorem anN{α:Type}(xs:List α)(k:Nat):(Y8 k xs).flatten.length=k*xs.length:=by
 induction k with
 | zero=>simp
 | succ k ih=>rw [jT,jX,D6,ih,Nat.succ_mul,Nat.add_comm]
theorem aqH:G7 X (binaryOp .Mult) rRep:=by
 sleep 0;obtain ⟨l,k,xs,rfl,rfl,hH,h1,h2,hz,q⟩:=h
 cases rx
 obtain ⟨t,rfl⟩:=ry;obtain ⟨z,its,n,r,hl,e⟩:=I.lstM hH;have A9:its.toArray.size*k.toNat<=sizeLine:=by rw [K9,<- hl];exact hz
 have hcap:¬ its.toArray.size*k.toNat > (2 ^ 63-1) / 8:=by
  have:(sizeLine:Nat)<=(2 ^ 63-1) / 8:=by decide
  lia
 have hfit:¬ (!Builtin.List.listFitsIndex k)=true:=by
  rw [fitsIndex_both h1 h2];exact L8
 have z9:¬ Builtin.List.listTooLong (its.toArray.size*k.toNat)=true:=by
  rw [ahL A9];exact L8
 have U3:List.foldl (fun x1 x2=>x1++x2) #[] (Y8 (if its.toArray.isEmpty=true then 0 else k.toNat) its.toArray)=(Y8 k.toNat its).flatten.toArray:=by
  have f0:∀ m:Nat,List.foldl (fun x1 x2=>x1++x2) #[] (Y8 m its.toArray)=(Y8 m its).flatten.toArray:=fun m=>by
   have:=af6 its m []
   rw [eE] at this;exact this
  rw [f0]
  cases its with
  | nil=>simp
  | cons a r'=>rw [if_neg 'c']
 refine wpAny_binaryOp_repeat_ref (T:="list") (U:="int") (by decide) ⟨_,e,rfl⟩ (fun s'=>typeIs_int s' k t) noFill_list_mul F.fills_int_mul F.slot_int_rmul repeat_list F.slot_int_index.lookup
  (call_meets F.slot_int_rmul (typeIs_int s k t) F.entry_int_rmul (F.args_int_rmul_2 _ _) (int___rmul___int_list k t l its.toArray n)
   ⟨e,rfl,⟨_,e,rfl⟩,call_meets F.slot_list_mul ⟨_,e,rfl⟩ F.entry_list_mul (F.args_list_mul_2 _ _) (AutoListH.list___mul___list_int_3 l its.toArray n k t hfit hcap z9) ⟨e,?_⟩⟩)
 rw [U3];exact ⟨.ref _,_,I.lnew (t':=s.toks) (r.rep k.toNat) (by rw [anN,Nat.mul_comm];exact hz),rfl,q _ I.fresh⟩
end
end L2
namespace Att
open PySem PySem.W PySem.Calls PyProof.Rows
theorem aen{P:Params} : ∀ (ns:List Int) (vs:List Value),WellAll P h vs (ns.map WData.int)->IntsAre vs ns:=by
 intro ns
 induction ns with
 | nil=>
  intro vs w;rw [List.map_nil] at w
  cases w
  exact .nil
 | cons n ns ih=>
  intro vs w;rw [G0] at w
  cases w with
  | cons a b=>
   cases a
   exact .cons _ _ (ih _ b)
theorem ajF{l:OpenLaw}(hn:l.most=some n){P:Params}{args:List WData}{vals:List Value}(dE:l.row.toRowW.claim.pre args=true)(pQ:WellAll P h vals args) :
  ∃ a vs ns,vals=[Value.ref a]/\args=[WData.list (ns.map WData.int)]/\h.get? a=some { cls:=.type "list",data:=.seq vs.toArray }/\IntsAre vs ns/\ns.length<=n:=by
 have hsh:WShape.hasAll [] args [.list .int]=true:=(pre_splitW dE).1;have hc:l.pre.holds [] { args:=args }=true:=(pre_splitW dE).2;obtain ⟨d,r,rfl,h1,h2⟩:=hasAllW_cons hsh;obtain rfl:=hasAllW_nil h2;obtain ⟨xs,rfl,h3⟩:=hasW_list h1;obtain ⟨ns,rfl⟩:=items_int h3;have A9:ns.length<=n:=by
  unfold OpenLaw.pre at hc;have h4:(WTm.not (.lt (.lit (.int (n:Int))) (.len (.arg 0)))).holds [] { args:=[.list (ns.map .int)] }=true:=by
   have h4:=(holds_andW hc).1;rw [hn] at h4;exact h4
  have h5:=condW_of h4 (w_not (w_lt w_lit (w_len_list (w_arg rfl))));rw [A6] at h5;refine Nat.le_of_not_lt fun q=>?_
  have q':(n:Int)<((ns.length:Nat):Int):=by lia
  first
   | (rw [decide_eq_true q'] at h5;exact absurd h5 (by decide))
   | (simp at h5;lia)
 cases pQ with
 | cons w1 w2=>
  cases w2
  cases w1 with
  | list ho dF=>exact ⟨_,_,ns,rfl,rfl,ho,aen ns _ dF,A9⟩
theorem ajG(l:OpenLaw)(args:List WData):l.row.toRowW.claim.post args (.bool true) args=true:=
 postW_of (r:=l.row.toRowW) (X:=(true==true))
  (show WShape.has [] (.bool true) .bool=true by first | rfl | decide | simp [WShape.has,WShape.arms,WShape.armsAll])
  (show (WTm.eq .res (.lit (.bool true))).value [] { args:=args,res:=some (.bool true),after:=args }=some (.bool (true==true)) from w_eq_bool (w_res rfl) w_lit) rfl
theorem attach_call{l:OpenLaw}{q:Program}{XP:(Str->Option Value)->Heap->Prop}{YP:World->Heap->Prop}{d:DefRec}(hn:l.most=some n)(bO:d.params.defaults=[])(call:∀ (w:World) (s₀ zu:Shared) (mg mb:Str->Option Value) (fa:Addr) (o:Obj) (pm cd doc:Value) (a:Addr) (vs:List Value) (ns:List Int),
   Ground q loose [] XP w s₀ mg mb zu.heap->YP w zu.heap->
   zu.heap.get? fa=some o->o.data=.func (docDef d.name d.params d.body d.scope pm cd doc)->zu.heap.CodeRec cd d.name->mg d.name=some (.ref fa)->
   zu.heap.get? a=some { cls:=.type "list",data:=.seq vs.toArray }->IntsAre vs ns->ns.length<=n->zu.gens=#[]->
   codeAny (model l.prog w) callerA (.call (.ref fa) ⟨[.ref a],[]⟩) (fun r s'=>r=.ok (.ret (.bool true))/\OldK zu.heap s'.heap/\s'.os=zu.os/\AllBare s'.gens) zu) :
  WalkO q loose XP YP l.row.toRowW d [] (fun f vs=>PySem.call f vs):=by
 intro w s₀ zu mg mb G zy fa o pm cd doc dV kV ho hd u8 hD pR hg args vals as dE hlay hrd pQ hlo;obtain rfl:dV=.none:=Dflts.none hD bO;obtain rfl:kV=.none:=Dflts.noKw hD;obtain ⟨a,vs,ns,rfl,rfl,iU,aA,A9⟩:=ajF hn dE pQ;refine enter_call (codeAny_mono (call w s₀ zu mg mb fa o pm cd doc a vs ns G zy ho (fd_plain hd) u8 pR iU aA A9 hg) fun r s' hq=>?_);obtain ⟨rfl,h2,h3,h4⟩:=hq;exact ⟨.inl ⟨.bool true,.bool true,[],rfl,fun _=>rfl,.bool true,ajG l _,fun _=>⟨List.Pairwise.nil,fun _ hm=>(nomatch hm)⟩⟩,h2,h3,h4⟩
end Att
namespace L2
open PySem PySem.Spec PyProof.Rows
theorem af8:∀ {vs:List Value} {ns:List Int},IntsAre vs ns->Vals (ns.map V.int) vs
 | _,_,.nil=>.nil
 | _,_,.cons n t h=>.cons ⟨t,rfl⟩ (af8 h)
noncomputable def Only (H:Hp):Prop:=∀ b,H b=none\/∃ o xs,H b=some (.frz o (.lst xs))
theorem alz{P:Program}{w:World}{mb:Str->Option Value}{CX:k7}{x:Str}{zu:Shared}{vs:List Value}(KX:K.In zu.heap)(fN:zu.heap.Ns mainGlobals mg)(hb:zu.heap.Ns builtinsNs mb)(hbb:∀ x:Str,x≠"__name__"->mb x=bootBuiltins x)(hlim:zu.heap.NoLimit)(hg:zu.gens=#[])(ha:zu.heap.get? a=some { cls:=.type "list",data:=.seq vs.toArray })(hi:IntsAre vs ns)(hl:ns.length<=sizeLine)(hr:Room k callerA)(F:∀ base:Heap,K.In base->base.Ns mainGlobals mg->FnOk P w K mg base CX k fa fd [x] sp)(pS:∀ (s:Shared) (u:Value),BindsTo s fd ⟨[u],[]⟩ [(x,u)])(fL:∀ H:Hp,Only H->D8 K H a (ns.map V.int)->sp [.ref a] H (fun v _=>v=.bl true) fun _ _ _=>False)(hCX:∀ H e s',CX [] H zu (fun _ _ _=>False) e s'->False) :
  codeAny (model P w) callerA (.call (.ref fa) ⟨[.ref a],[]⟩) (fun r s'=>r=.ok (.ret (.bool true))/\OldK zu.heap s'.heap/\s'.os=zu.os/\AllBare s'.gens) zu:=by
 have rv:=af8 hi;have lenV:=hi.length;have core:∀ H:Hp,Only H->D8 K H a (ns.map V.int)->N6 P w H zu.heap->(∀ b,H b≠none->b=a)->(H a≠none->K.lookup a=none)->
   codeAny (model P w) callerA (.call (.ref fa) ⟨[.ref a],[]⟩) (fun r s'=>r=.ok (.ret (.bool true))/\OldK zu.heap s'.heap/\s'.os=zu.os/\AllBare s'.gens) zu:=by
  intro H hO hS hok hA hK;have base_of:∀ {b:Addr} {o:Obj},zu.heap.get? b=some o->H b=none->(hidT zu.heap H).get? b=some o:=fun e n=>alf e n
  have noA:∀ {b:Addr} {o:Obj} {es:Array DictEntry} {ep:Nat},zu.heap.get? b=some o->o.data=.dict es ep->H b=none:=fun {b o es ep} e d=>by
   cases q:H b with
   | none=>rfl
   | some u=>
    have e':b=a:=hA b (by rw [q];simp);subst e';rw [ha] at e;cases e;have d':Data.seq vs.toArray _=Data.dict es ep:=d
    cases d'
  have nsK:∀ {b:Addr} {m:Str->Option Value},zu.heap.Ns b m->(hidT zu.heap H).Ns b m:=fun {b m} ⟨o,es,ep,e,d,r⟩=>⟨o,es,ep,base_of e (noA e d),d,r⟩
  have hKb:K.In (hidT zu.heap H):=fun b o e=>base_of (KX b o e) (by
   cases q:H b with
   | none=>rfl
   | some u=>
    have e':b=a:=hA b (by rw [q];simp);subst e';rw [hK (by rw [q];simp)] at e;cases e)
  have hM:Mod K mg (hidT zu.heap H):=⟨hKb,nsK fN,⟨mb,nsK hb,hbb⟩,let ⟨mc,h1,h2⟩:=hlim;⟨mc,nsK h1,h2⟩⟩
  have e0:Env0 P w K mg (hidT zu.heap H) callerA [] zu H:=⟨rfl,hM,fun b o e=>anm e,Nat.le_of_eq (aji _ _),trivial,fun b hb=>absurd (show b∈([]:List Addr) from hb) 'c',hok,.of_eq hg⟩
  refine codeAny_mono ((F _ hKb (nsK fN)).run callerA [] zu H ⟨[.ref a],[]⟩ [.ref a] [.ref a] _ _ hr e0 (pS zu (.ref a)) (.cons rfl .nil) (fL H hO hS)) fun r s' h=>?_
  cases r with
  | error e=>exact (hCX H e s' h).elim
  | ok fl=>
   cases fl with
   | next=>exact False.elim h
   | brk=>exact False.elim h
   | cont=>exact False.elim h
   | ret u=>
    obtain ⟨v,H',os,bare,un,hok',r',q⟩:=h;have q':v=.bl true:=q;subst q';obtain rfl:u=Value.bool true:=r';refine ⟨rfl,OldK.of_keep fun b o e=>?_,os,bare⟩
    cases q:H b with
    | none=>exact un.keep b o e q (by intro z;exact absurd (show b∈([]:List Addr) from z) 'c') 'c'
    | some u=>
     rcases hO b with z | ⟨ob,xs,z⟩
     .rw [q] at z;cases z
     .have z2:=un.frzs b ob _ z;obtain ⟨e1,_⟩:=hok b _ z;obtain ⟨e2,_⟩:=hok' b _ z2;rw [e] at e1;cases e1;exact e2
 cases hk:K.lookup a with
 | some o=>
  have e:=KX a o hk;rw [ha] at e;cases e;refine core (fun _=>none) (fun _=>.inl rfl) (.inr ⟨_,vs.toArray,_,hk,rfl,rfl,rfl,by rw [K9,lenV];exact hl,by simpa using rv⟩) (fun b u z=>by have z':(none:Option HO)=some u:=z;cases z') (fun b z=>absurd rfl z) fun z=>absurd rfl z
 | none=>
  refine core (fun b=>if b=a then some (.frz { cls:=.type "list",data:=.seq vs.toArray } (.lst (ns.map V.int))) else none) (fun b=>?_) (.inl (.inr ⟨{ cls:=.type "list",data:=.seq vs.toArray },if_pos rfl⟩)) (fun b u z=>?_) (fun b z=>?_) fun _=>hk
  .by_cases hb:b=a
   .exact .inr ⟨_,_,if_pos hb⟩
   .exact .inl (if_neg hb)
  .by_cases hb:b=a
   .have z':=(if_pos hb).symm.trans z
    cases z'
    subst hb;exact ⟨ha,by rw [A6];exact hl,vs,_,rv,ha⟩
   .have z':=(if_neg hb).symm.trans z
    cases z'
  .by_cases hb:b=a
   .exact hb
   .exact absurd (if_neg hb) z
theorem walk_of{l:PySem.W.OpenLaw}{q:Program}{XP:(Str->Option Value)->Heap->Prop}{YP:World->Heap->Prop}{d:DefRec}{K:Params->PySem.W.Frag}{CX:World->k7}{sp:World->Sp}{x:Str}(hn:l.most=some n)(tV:n<=sizeLine)(bO:d.params.defaults=[])(hr:Room k callerA)(hY:∀ (w:World) (h:Heap),YP w h->(K w.params).In h)(F:∀ (w:World) (mg:Str->Option Value) (fa:Addr) (h:Heap),(K w.params).In h->h.Ns mainGlobals mg->mg d.name=some (.ref fa)->
   ∃ fd:FuncData,(∀ (s:Shared) (u:Value),BindsTo s fd ⟨[u],[]⟩ [(x,u)])/\
    ∀ base:Heap,(K w.params).In base->base.Ns mainGlobals mg->FnOk l.prog w (K w.params) mg base (CX w) k fa fd [x] (sp w))(fL:∀ (w:World) (H:Hp) (a:Addr) (ns:List Int),ns.length<=n->Only H->D8 (K w.params) H a (ns.map V.int)->sp w [.ref a] H (fun v _=>v=.bl true) fun _ _ _=>False)(hCX:∀ (w:World) (H:Hp) (s:Shared) (e:Value) (s':Shared),CX w [] H s (fun _ _ _=>False) e s'->False) :
  PySem.W.WalkO q loose XP YP l.row.toRowW d [] (fun f vs=>PySem.call f vs):=by
 refine Att.attach_call hn bO fun w s₀ zu mg mb fa o pm cd doc a vs ns G zy ho hd u8 pR iU aA A9 hg=>?_
 have KX:=hY w _ zy;obtain ⟨fd,hb,hF⟩:=F w mg fa _ KX G.T.g pR;exact alz KX G.T.g G.T.b G.T.builtins G.T.nolimit hg iU aA (N5 A9 tV) hr hF hb (fun H hO hS=>fL w H a ns A9 hO hS) fun H e s'=>hCX w H zu e s'
noncomputable def rG (s:Stmt) (j:Nat):Stmt:=match s with
 | .ClassDef _ _ _ body _ _ _ _ _ _ _=>body.getD j (.Pass ⟨0,0,0,0⟩)
 | _=>.Pass ⟨0,0,0,0⟩
noncomputable def W5 (s:Stmt):Arguments:=match s with
 | .FunctionDef _ a _ _ _ _ _ _ _ _=>a
 | _=>{ posonlyargs:=[],args:=[],vararg:=none,kwonlyargs:=[],kw_defaults:=[],kwarg:=none,defaults:=[] }
noncomputable def V1 (s:Stmt):List Stmt:=match s with
 | .FunctionDef _ _ b _ _ _ _ _ _ _=>b
 | _=>[]
noncomputable def C1 (s:Stmt):Scope:=match s with
 | .FunctionDef _ _ _ _ _ _ sc _ _ _=>sc
 | _=>{ kind:=.function,names:=[],isGenerator:=false,isCoroutine:=false }
noncomputable abbrev E1:k7:=fun _ _ _ _ _ _=>False
noncomputable abbrev E0:XK:=fun _ _ _=>False
theorem pass0 : gN E1 X E0:=fun _ _ _ _ _ _ _ h=>h.elim
structure Fun(K:PySem.W.Frag)(x qual:Str)(st:Stmt)(f:Addr)(fd:FuncData):Prop where
 ex:∃ (oc:Value) (od:Option Addr) (kV doc pm:Value) (an:Option Addr) (cdv ct:Value) (osl:Array (Option Value)),
  fd=U6 x qual (W5 st) (V1 st) (C1 st) .none kV doc pm an cdv ct/\K.lookup f=some ⟨oc,od,.func fd,osl⟩/\Y9 K cdv qual=true
 kp:W4 K (.ref f)=true
theorem hu_of(hr:Room k A):A.units+1<cLine:=Nat.lt_of_le_of_lt (Nat.add_le_add_left (by decide:1<=64) _) hr.units
theorem iteF{A B:Prop}(h:B):if false=true then A else B:=by
 rw [if_neg L8];exact h
theorem iteT{A B:Prop}(h:A):if true=true then A else B:=by
 rw [if_pos rfl];exact h
noncomputable def Same (H H':Hp):Prop:=∀ b o,H b=some o->H' b=some o
theorem cK(H:Hp):Same H H:=fun _ _ h=>h
theorem Same.trans(a:Same H H1)(b:Same H1 H2):Same H H2:=fun c o h=>b c o (a c o h)
theorem Same.free(e:Same H H'){l:Addr}(h:H' l=Option.none):H l=Option.none:=by
 cases q:H l with
 | none=>rfl
 | some o=>
  rw [e l o q] at h;cases h
theorem Same.seq(e:Same H H')(h:D8 K H a xs):D8 K H' a xs:=by
 rcases h with (h | ⟨o,h⟩) | h
 .exact .inl (.inl (e _ _ h))
 .exact .inl (.inr ⟨o,e _ _ h⟩)
 .exact .inr h
section
variable {κ:Type} [DecidableEq κ]
noncomputable def valV (kvs:List (κ×V)) (k:κ):Option V:=(kvs.find? fun kv=>decide (kv.1=k)).map (·.2)
noncomputable def putK (kvs:List (κ×V)) (k:κ) (v:V):List (κ×V):=
 if (kvs.any fun kv=>decide (kv.1=k))=true then kvs.map (fun kv=>if kv.1=k then (kv.1,v) else kv) else kvs++[(k,v)]
theorem rH{p:κ×V}{r:List (κ×V)}{k:κ}(e:p.1=k):valV (p::r) k=some p.2:=by simp [valV,Y7,e]
theorem cL{p:κ×V}{r:List (κ×V)}{k:κ}(e:¬ p.1=k):valV (p::r) k=valV r k:=by simp [valV,Y7,e]
theorem vO(k:κ):∀ kvs:List (κ×V),(kvs.any fun kv=>decide (kv.1=k))=(valV kvs k).isSome
 | []=>rfl
 | p::r=>by
  rw [aO]
  by_cases e:p.1=k
  .simp only [rH e,decide_eq_true e,Bool.true_or,Option.isSome_some]
  .rw [cL e,decide_eq_false e,Bool.false_or];exact vO k r
theorem vP(kvs:List (κ×V))(k:κ)(v:V):(putK kvs k v).length<=kvs.length+1:=by
 unfold putK
 split
 .rw [A6];lia
 .rw [D6,L0,Z6];lia
theorem alA{kvs:List (κ×V)}{k:κ}(v:V)(h:valV kvs k=none):putK kvs k v=kvs++[(k,v)]:=by
 unfold putK;rw [vO,h];exact if_neg (by decide)
theorem RelO.isSome_eq{o:Option V}{u:Option Value}(r:RelO o u):o.isSome=u.isSome:=by
 cases o with
 | none=>cases u with
  | none=>rfl
  | some _=>exact (show False from r).elim
 | some _=>cases u with
  | none=>exact (show False from r).elim
  | some _=>rfl
theorem RelO.getD{o:Option V}{u:Option Value}{d:V}{d':Value}(r:RelO o u)(rd:RelV d d'):RelV (o.getD d) (u.getD d'):=by
 cases o with
 | none=>cases u with
  | none=>exact rd
  | some _=>exact (show False from r).elim
 | some _=>cases u with
  | none=>exact (show False from r).elim
  | some _=>exact r
theorem KV.val{kvs:List (κ×V)}{vs:List (κ×Value)}(r:KV kvs vs)(k:κ):RelO (valV kvs k) (valueAt vs k):=by
 unfold KV at r
 induction r with
 | nil=>exact True.intro
 | @cons p q ps qs h t ih=>
  obtain ⟨h1,h2⟩:=h
  by_cases e:p.1=k
  .have e':q.1=k:=h1.symm.trans e;have b:valueAt (q::qs) k=some q.2:=by simp [valueAt,Y7,e']
   rw [rH e,b];exact h2
  .have e':¬ q.1=k:=fun z=>e (h1.trans z)
   have b:valueAt (q::qs) k=valueAt qs k:=by simp [valueAt,Y7,e']
   rw [cL e,b];exact ih
theorem KV.any{kvs:List (κ×V)}{vs:List (κ×Value)}(r:KV kvs vs)(k:κ):(kvs.any fun kv=>decide (kv.1=k))=vs.any fun kv=>decide (kv.1=k):=by
 unfold KV at r
 induction r with
 | nil=>rfl
 | cons h t ih=>rw [aO,aO,ih,h.1]
theorem KV.repl{kvs:List (κ×V)}{vs:List (κ×Value)}(r:KV kvs vs)(k:κ)(ry:RelV y u) :
  KV (kvs.map fun kv=>if kv.1=k then (kv.1,y) else kv) (vs.map fun kv=>if kv.1=k then (kv.1,u) else kv):=by
 unfold KV at r ⊢
 induction r with
 | nil=>exact .nil
 | @cons p q ps qs h t ih=>
  rw [G0,G0];refine .cons ?_ ih;obtain ⟨h1,h2⟩:=h
  by_cases e:p.1=k
  .rw [if_pos e,if_pos (h1.symm.trans e)];exact ⟨h1,ry⟩
  .rw [if_neg e,if_neg (fun z=>e (h1.trans z))];exact ⟨h1,h2⟩
theorem KV.put{kvs:List (κ×V)}{vs:List (κ×Value)}(r:KV kvs vs)(k:κ)(ry:RelV y u):KV (putK kvs k y) (stored vs k u):=by
 unfold putK stored;rw [r.any k]
 by_cases e:(vs.any fun kv=>decide (kv.1=k))=true
 .rw [if_pos e,if_pos e];exact r.repl k ry
 .rw [if_neg e,if_neg e];exact Paired.snoc r ⟨rfl,ry⟩
theorem KV.keys{kvs:List (κ×V)}{vs:List (κ×Value)}(r:KV kvs vs):kvs.map (·.1)=vs.map (·.1):=by
 unfold KV at r
 induction r with
 | nil=>rfl
 | cons h t ih=>rw [G0,G0,ih,h.1]
theorem KV.length{kvs:List (κ×V)}{vs:List (κ×Value)}(r:KV kvs vs):kvs.length=vs.length:=Paired.length r
end
theorem kV_is{P:Program}{w:World}{k:B3}(r:RelV (kV k) u):(N4 P w).is k u=true:=by
 cases k with
 | inl i=>obtain ⟨t,e⟩:=(show ∃ t,u=Value.int i t from r);subst e;exact agT P w i t
 | inr x=>obtain ⟨t,e⟩:=(show ∃ t,u=Value.str x t from r);subst e;exact agU P w x t
theorem vQ{P:Program}{w:World} : ∀ {ks:List B3} {us:List Value},Vals (ks.map kV) us->ItemsAre (N4 P w) ks us
 | [],_,r=>by rw [List.map_nil] at r;cases r;exact .nil
 | k::ks,_,r=>by
  rw [G0] at r
  cases r with
  | cons h t=>exact .cons (kV_is h) (vQ t)
noncomputable abbrev KT (H:Hp):List (List B3×V)->List (List B3×Addr×Value)->Prop:=Paired fun p q=>p.1=q.1/\H q.2.1=some (.tup (p.1.map kV))/\RelV p.2 q.2.2
theorem KT.val{kvs:List (List B3×V)}{xs:List (List B3×Addr×Value)}(r:KT H kvs xs)(k:List B3):RelO (valV kvs k) ((atKey xs k).map (·.2)):=by
 induction r with
 | nil=>exact True.intro
 | @cons p q ps qs h t ih=>
  obtain ⟨h1,_,h2⟩:=h
  by_cases e:p.1=k
  .have e':q.1=k:=h1.symm.trans e;have b:atKey (q::qs) k=some q.2:=by simp [atKey,Y7,e']
   rw [rH e,b];exact h2
  .have e':¬ q.1=k:=fun z=>e (h1.trans z)
   have b:atKey (q::qs) k=atKey qs k:=by simp [atKey,Y7,e']
   rw [cL e,b];exact ih
theorem KT.repl{kvs:List (List B3×V)}{xs:List (List B3×Addr×Value)}(r:KT H kvs xs)(k:List B3)(ry:RelV y u) :
  KT H (kvs.map fun kv=>if kv.1=k then (kv.1,y) else kv) (xs.map (putAt k u)):=by
 induction r with
 | nil=>exact .nil
 | @cons p q ps qs h t ih=>
  rw [G0,G0];refine .cons ?_ ih;obtain ⟨h1,h2,h3⟩:=h;unfold putAt
  by_cases e:p.1=k
  .rw [if_pos e,if_pos (h1.symm.trans e)];exact ⟨h1,h2,ry⟩
  .rw [if_neg e,if_neg (fun z=>e (h1.trans z))];exact ⟨h1,h2,h3⟩
theorem KT.put{kvs:List (List B3×V)}{xs:List (List B3×Addr×Value)}(r:KT H kvs xs)(k:List B3)(hb:H b=some (.tup (k.map kV)))(ry:RelV y u) :
  KT H (putK kvs k y) (storedH xs k b u):=by
 have e:(kvs.any fun kv=>decide (kv.1=k))=(atKey xs k).isSome:=by
  rw [vO,(r.val k).isSome_eq,kC]
 unfold putK storedH;rw [e]
 by_cases q:(atKey xs k).isSome=true
 .rw [if_pos q,if_pos q];exact r.repl k ry
 .rw [if_neg q,if_neg q];exact Paired.snoc r ⟨rfl,hb,ry⟩
theorem KT.keeps{kvs:List (List B3×V)}{xs:List (List B3×Addr×Value)}(r:KT H kvs xs)(ht:∀ b ys,H b=some (.tup ys)->H' b=some (.tup ys)):KT H' kvs xs:=
 O6 r fun _ _ z=>⟨z.1,ht _ _ z.2.1,z.2.2⟩
section
variable {P:Program} {w:World} {H:Hp} {h:Heap} {a:Addr}
theorem rd_of{u:HO}(ok:N6 P w H h)(e:Rd H a u):ObjOk P w H h a u:=e.ok ok
theorem dk_rd(ok:N6 P w H h)(e:Rd H a (.dK kvs)):kvs.length<=sizeLine/\(a==sysModules)=false/\∃ vs,KV kvs vs/\h.DictOf (N4 P w) a vs:=
 show ObjOk P w H h a (.dK kvs) from rd_of ok e
theorem dk_of(ok:N6 P w H h)(e:H a=some (.dK kvs)):kvs.length<=sizeLine/\(a==sysModules)=false/\∃ vs,KV kvs vs/\h.DictOf (N4 P w) a vs:=dk_rd ok (.inl e)
theorem gP{ks:List B3}(ok:N6 P w H h)(e:H a=some (.tup (ks.map kV))):(tupleKind (N4 P w)).is h ks a:=by
 obtain ⟨_,its,r,o,h1,h2,n,h3⟩:=(show ObjOk P w H h a (.tup (ks.map kV)) from ok a _ e)
 exact ⟨o,its.toArray,n,h1,h2,h3,by simpa using vQ r⟩
theorem dt_rd{kvs:List (List B3×V)}(ok:N6 P w H h)(e:Rd H a (.dT kvs)):kvs.length<=sizeLine/\(a==sysModules)=false/\
  ∃ xs,KT H kvs xs/\h.DictOfH (tupleKind (N4 P w)) a xs:=by
 obtain ⟨z,y,xs,r,o,es,ep,h1,h2,h3,h4,h5⟩:=(show ObjOk P w H h a (.dT kvs) from rd_of ok e)
 refine ⟨z,y,xs,r,o,es,ep,h1,h2,h3,h4,fun x hx=>?_,h5⟩;have all:∀ {l:List (List B3×V)} {m:List (List B3×Addr×Value)},KT H l m->∀ x∈m,(tupleKind (N4 P w)).is h x.1 x.2.1:=by
  intro l m q
  induction q with
  | nil=>intro x hx;exact nomatch hx
  | @cons p q ps qs hq t ih=>
   intro x hx
   rcases L4.mp hx with e | hx
   .subst e;exact gP ok (by rw [<- hq.1];exact hq.2.1)
   .exact ih x hx
 exact all r x hx
theorem dt_of{kvs:List (List B3×V)}(ok:N6 P w H h)(e:H a=some (.dT kvs)):kvs.length<=sizeLine/\(a==sysModules)=false/\
  ∃ xs,KT H kvs xs/\h.DictOfH (tupleKind (N4 P w)) a xs:=dt_rd ok (.inl e)
end
noncomputable def DGet (H:Hp) (a:Addr) (y:V) (r:Option V):Prop:=
 (∃ kvs k,Rd H a (.dK kvs)/\y=kV k/\r=valV kvs k)\/∃ kvs k b,Rd H a (.dT kvs)/\y=.ref b/\H b=some (.tup (k.map kV))/\r=valV kvs k
noncomputable def DPut (H:Hp) (a:Addr) (y v:V) (H':Hp):Prop:=
 (∃ kvs k,H a=some (.dK kvs)/\y=kV k/\kvs.length<sizeLine/\H'=A0 H a (.dK (putK kvs k v)))\/
 ∃ kvs k b,H a=some (.dT kvs)/\y=.ref b/\H b=some (.tup (k.map kV))/\kvs.length<sizeLine/\H'=A0 H a (.dT (putK kvs k v))
theorem g4{k:B3}(e:H a=some (.dK kvs)):DGet H a (kV k) (valV kvs k):=.inl ⟨kvs,k,.inl e,rfl,rfl⟩
theorem cM{k:B3}(e:H a=some (.dK kvs))(hl:kvs.length<sizeLine):DPut H a (kV k) v (A0 H a (.dK (putK kvs k v))):=.inl ⟨kvs,k,e,rfl,hl,rfl⟩
section
variable {X:Cx} {pins:List (Addr×Obj)} {Y:St} {H:Hp} {s:Shared} {a:Addr} {y v:V} {u r:Value} {o:Option V} {A:Around} {E:Value->Shared->Prop}
theorem Inv.big(I:Inv X pins Y H s):sysModules<s.heap.objs.size:=by
 have h:mainGlobals<s.heap.objs.size:=(I.mod.glob.keeps I.bk).lt;exact Nat.lt_trans (by decide) h
theorem af9{Q:Value->Shared->Prop}(hu:A.units+1<cLine)(I:Inv X pins Y H s)(g:DGet H a y (some v))(ry:RelV y u)(h:∀ w' s',Inv X pins Y H s'->RelV v w'->Q w' s') :
  wpAny 'b' A (getItem (.ref a) u) Q E s:=by
 rcases g with ⟨kvs,k,e,ey,l⟩ | ⟨kvs,k,b,e,ey,eb,l⟩
 .subst ey;obtain ⟨z,hd,vs,rel,dd⟩:=dk_rd I.hok e;obtain ⟨w',hw,rw'⟩:=nM (v:=v) (o:=valueAt vs k) (by rw [l];exact rel.val k);exact wpAny_getItem_of (kV_is ry) dd.mapOf hw (h w' _ (I.tok _) rw')
 .subst ey
  cases (show u=Value.ref b from ry)
  obtain ⟨z,hd,xs,rel,dd⟩:=dt_rd I.hok e;obtain ⟨w',hw,rw'⟩:=nM (v:=v) (o:=(atKey xs k).map (·.2)) (by rw [l];exact rel.val k);obtain ⟨p,hp,bP⟩:=Option.map_eq_some_iff.mp hw;refine wpAny_getItem_heap (tupleKind_room_in1 hu) (gP I.hok eb) dd hp ?_;rw [bP];exact h w' _ (I.tok _) rw'
theorem d_in{Q:Value->Shared->Prop}(hu:A.units+1<cLine)(I:Inv X pins Y H s)(g:DGet H a y o)(ry:RelV y u)(h:∀ s',Inv X pins Y H s'->Q (.bool o.isSome) s') :
  wpAny 'b' A (compareOp .In u (.ref a)) Q E s:=by
 rcases g with ⟨kvs,k,e,ey,l⟩ | ⟨kvs,k,b,e,ey,eb,l⟩
 .subst ey;obtain ⟨z,hd,vs,rel,dd⟩:=dk_rd I.hok e;refine wpAny_in_of (kV_is ry) hd dd.mapOf ?_;rw [<- (rel.val k).isSome_eq,<- l];exact h _ (I.tok _)
 .subst ey
  cases (show u=Value.ref b from ry)
  obtain ⟨z,hd,xs,rel,dd⟩:=dt_rd I.hok e;refine wpAny_in_heap (tupleKind_room_in1 hu) (gP I.hok eb) hd dd ?_;have q:=(rel.val k).isSome_eq;rw [kC] at q;rw [<- q,<- l];exact h _ (I.tok _)
theorem anO{Q:Value->Shared->Prop}(hu:A.units+1<cLine)(I:Inv X pins Y H s)(g:DGet H a y o)(ry:RelV y u)(h:∀ s',Inv X pins Y H s'->Q (.bool (!o.isSome)) s') :
  wpAny 'b' A (compareOp .NotIn u (.ref a)) Q E s:=by
 rcases g with ⟨kvs,k,e,ey,l⟩ | ⟨kvs,k,b,e,ey,eb,l⟩
 .subst ey;obtain ⟨z,hd,vs,rel,dd⟩:=dk_rd I.hok e;refine wpAny_notIn_of (kV_is ry) hd dd.mapOf ?_;rw [<- (rel.val k).isSome_eq,<- l];exact h _ (I.tok _)
 .subst ey
  cases (show u=Value.ref b from ry)
  obtain ⟨z,hd,xs,rel,dd⟩:=dt_rd I.hok e;refine wpAny_notIn_heap (tupleKind_room_in1 hu) (gP I.hok eb) hd dd ?_;have q:=(rel.val k).isSome_eq;rw [kC] at q;rw [<- q,<- l];exact h _ (I.tok _)
theorem rJ{ob:HO}(I:Inv X pins Y H s)(mu:nH (H a))(hs:Heap.SameBut a s.heap h')(he:∃ q,h'.get? a=some q)(new:ObjOk X.prog X.w (A0 H a ob) h' a ob) :
  Inv X pins Y (A0 H a ob) { s with heap:=h',toks:=t' }:=
 I.write (x:=a) (e:=a) mu (.inl rfl) (fun b q hb z=>(hs.2 b hb).trans z) he new
theorem vR{P:Program}{w:World}{vs:List (B3×Value)}(z:kvs.length<=sizeLine)(hd:(a==sysModules)=false)(rel:KV kvs vs)(dd:h'.DictOf (N4 P w) a vs) :
  ObjOk P w H' h' a (.dK kvs):=⟨z,hd,vs,rel,dd⟩
theorem aga{Q:Unit->Shared->Prop}(hu:A.units+1<cLine)(I:Inv X pins Y H s)(g:DPut H a y v H')(ry:RelV y u)(rv:RelV v r)(h:∀ s',Inv X pins Y H' s'->Q () s') :
  wpAny 'b' A (setItem (.ref a) u r) Q E s:=by
 rcases g with ⟨kvs,k,e,ey,l,eH⟩ | ⟨kvs,k,b,e,ey,eb,l,eH⟩
 .subst ey eH;obtain ⟨z,hd,vs,rel,dd⟩:=dk_of I.hok e;have hz:vs.length<=sizeLine:=by rw [<- rel.length];exact z
  have hl:(putK kvs k v).length<=sizeLine:=by have:=vP kvs k v;lia
  refine wpAny_setItem_pairs (hsz:=hz) (kV_is ry) dd fun h' dd' hs=>h _ ?_
  have he:∃ q,h'.get? a=some q:=let ⟨q,_,_,hq,_⟩:=dd';⟨q,hq⟩
  exact rJ I (by rw [e];exact True.intro) hs he (vR hl hd (rel.put k rv) dd')
 .subst ey eH
  cases (show u=Value.ref b from ry)
  obtain ⟨z,hd,xs,rel,dd⟩:=dt_of I.hok e;have hz:xs.length<=sizeLine:=by rw [<- Paired.length rel];exact z
  have hl:(putK kvs k v).length<=sizeLine:=by have:=vP kvs k v;lia
  refine wpAny_setItem_heap (hsz:=hz) (tupleKind_room_in1 hu) (gP I.hok eb) dd fun h' dd' hs=>h _ ?_
  obtain ⟨q,es,ep,hq,h2,h3,h4,_,h5⟩:=dd';refine rJ I (by rw [e];exact True.intro) hs ⟨q,hq⟩ ⟨hl,hd,_,(rel.put k eb rv).keeps fun c ys ec=>?_,q,es,ep,hq,h2,h3,h4,h5⟩;rw [A7 (ne_of ec e (fun z=>nomatch z))];exact ec
end
section
variable {X:Cx} {pins:List (Addr×Obj)} {Y:St} {H:Hp} {s:Shared} {a:Addr} {kvs:List (B3×V)} {k:B3} {u:Value} {A:Around} {E:Value->Shared->Prop}
theorem d_len{Q:Value->Shared->Prop}(I:Inv X pins Y H s)(e:Rd H a (.dK kvs))(h:∀ t s',Inv X pins Y H s'->Q (.int kvs.length t) s'):wpAny 'b' A (call (.builtin "len") [.ref a]) Q E s:=by
 obtain ⟨z,hd,vs,rel,dd⟩:=dk_rd I.hok e;refine call_len_dict hd dd (by rw [<- rel.length];rw [sizeLine_eq] at z;lia) ?_;rw [<- rel.length];exact h _ _ (I.tok _)
end
noncomputable def NoSl (i:Expr):Prop:=∀ ov iv,subscripted i false ov iv=operate [ov,iv] (getItem ov iv)
theorem vS{w:World}{env:Env}{value slice:Expr}{pos:Pos}{T id:String}{Q:Value->Shared->Prop}(hl:typeLookup (.type T) "__getitem__"=pure (some (.builtin id)))(hs:NoSl slice)(h:wpAny (model prog w) A (eval value env) (fun o zu=>wpAny (model prog w) A (eval slice env) (fun i zx=>zx.TypeIs o T/\wpAny (model prog w) A (getItem o i) Q E zx) E zu) E s) :
  wpAny (model prog w) A (eval (.Subscript value slice pos) env) Q E s:=by
 refine Subscript_ (wpAny_mono h (fun o zu zr=>wpAny_mono zr (fun i zx zq=>?_) fun _ _ x=>x) fun _ _ x=>x);obtain ⟨hT,zq⟩:=zq;unfold subscriptTail;refine wpAny_bind ?_;rw [getitemInPython_of_ne hT.not_modules];refine wpAny_bind (wpAny_specialOf hT hl ?_);have fin:wpAny (model prog w) A (subscripted slice false o i) (fun r zw=>wpAny (model prog w) A (letTemporaryGo value o r >>= fun _=>pure r) Q E zw) E zx:=by
  rw [hs o i];exact wpAny_operating (wpAny_mono zq (fun r zw zp=>wpAny_bind (wpAny_letTemporaryGo (wpAny_pure zp))) fun _ _ x=>x)
 first
  | exact wpAny_pure (wpAny_bind fin)
  | exact wpAny_bind (wpAny_pure (wpAny_bind fin))
  | exact wpAny_bind fin
theorem ag1{o:Option V}(I:Inv X pins Y H s)(g:DGet H a y o):s.TypeIs (.ref a) "dict":=by
 rcases g with ⟨kvs,k,e,_,_⟩ | ⟨kvs,k,b,e,_,_,_⟩
 .obtain ⟨_,_,vs,_,dd⟩:=dk_rd I.hok e;exact dd.typeIs
 .obtain ⟨_,_,xs,_,dd⟩:=dt_rd I.hok e;exact dd.typeIs
noncomputable def tDGet (td ty:TE):TE:=fun Y H Q=>td Y H fun x H1=>ty Y H1 fun y H2=>∃ a v,x=.ref a/\DGet H2 a y (some v)/\Q v H2
noncomputable def sDPut (td ty tv:TE):TS:=fun D Y H=>tv Y H fun v H1=>td Y H1 fun x H2=>ty Y H2 fun y H3=>∃ a H4,x=.ref a/\DPut H3 a y v H4/\D.nx Y H4
noncomputable def sDAug (td ty tv:TE) (rd:V->V->Hp->VK->Prop):TS:=fun D Y H=>td Y H fun x H1=>ty Y H1 fun y H2=>∃ a v,x=.ref a/\DGet H2 a y (some v)/\
 tv Y H2 fun y2 H3=>rd v y2 H3 fun z H4=>∃ H5,DPut H4 a y z H5/\D.nx Y H5
section
variable {X:Cx} {o i e value:Expr} {pos pos' tpos:Pos} {td ty tv:TE}
theorem anP(hu:X.A.units+1<cLine)(ho:PE X o td)(hi:PE X i ty)(hs:NoSl i):PE X (.Subscript o i pos) (tDGet td ty):=by
 sleep 1;refine vS PySem.F.slot_dict_getitem.lookup hs (A8 (ho pins s Y H _ I h) fun u s1 ⟨x,H1,I1,rx,q1⟩=>A8 (hi pins s1 Y H1 _ I1 q1) fun iv s2 ⟨y,H2,I2,ry,a,v,ex,g,q2⟩=>?_);subst ex;obtain rfl:u=Value.ref a:=rx;exact ⟨ag1 I2 g,af9 hu I2 g ry fun w' s3 I3 rw'=>⟨v,H2,I3,rw',q2⟩⟩
theorem anQ(hu:X.A.units+1<cLine)(ho:PE X o td)(hi:PE X i ty)(hv:PE X value tv)(hs:swapsWith value (some (.Subscript o i pos')) pos.line X.env=pure false) :
  PS X (.Assign [.Subscript o i pos'] value pos) (sDPut td ty tv):=by
 intro pins s Y H D I h;refine wpAny_Assign_Subscript (A8 (hv pins s Y H _ I h) fun r s1 ⟨v,H1,I1,rv,q1⟩=>A8 (ho pins s1 Y H1 _ I1 q1) fun u s2 ⟨x,H2,I2,rx,q2⟩=>A8 (hi pins s2 Y H2 _ I2 q2) fun iv s3 ⟨y,H3,I3,ry,a,H4,ex,g,q3⟩=>?_) hs;subst ex;obtain rfl:u=Value.ref a:=rx;exact aga hu I3 g ry rv fun s4 I4=>⟨Y,H4,I4,q3⟩
theorem anR{op:Operator}{rd:V->V->Hp->VK->Prop}(hu:X.A.units+1<cLine)(ho:PE X o td)(hi:PE X i ty)(hv:PE X value tv)(hop:InOp X op rd)(ha:∀ ov iv new,augStore i ov iv new=(do holding [new,ov,iv] (setItem ov iv new);release [new,ov,iv] [];pure .next)):PS X (.AugAssign (.Subscript o i tpos) op value pos) (sDAug td ty tv rd):=by
 intro pins s Y H D I h;refine wpAny_AugAssign_SubscriptAny (A8 (ho pins s Y H _ I h) fun u s1 ⟨x,H1,I1,rx,q1⟩=>A8 (hi pins s1 Y H1 _ I1 q1) fun iv s2 ⟨y,H2,I2,ry,a,v,ex,g,q2⟩=>?_) ha;subst ex;obtain rfl:u=Value.ref a:=rx;refine af9 hu I2 g ry fun w' s3 I3 rw'=>A8 (hv pins s3 Y H2 _ I3 q2) fun w2 s4 ⟨y2,H3,I4,ry2,q3⟩=>A8 (hop pins s4 Y H3 v y2 w' w2 _ I4 rw' ry2 q3) fun w3 s5 ⟨z,H4,I5,rz,H5,g5,q4⟩=>?_
 exact aga hu I5 g5 ry rz fun s6 I6=>⟨Y,H5,I6,q4⟩
end
theorem alB{P:Program}{w:World}(h:Heap)(hb:sysModules<h.objs.size):ObjOk P w H (h.push { cls:=.type "dict",data:=.dict #[] }) h.objs.size (.dK []):=
 ⟨G4 _,beq_eq_false_iff_ne.mpr (Ne.symm (M4 hb)),[],.nil,Heap.DictOf.new h⟩
noncomputable def vT:TE:=fun _ H Q=>∀ p,H p=none->Q (.ref p) (A0 H p (.dK []))
section
variable {X:Cx} {pos:Pos}
theorem alC:PE X (.Dict [] [] pos) vT:=fun pins s Y H Q I h=>
 wpAny_Dict_empty ⟨.ref s.heap.objs.size,_,I.laid (a:=s.heap.objs.size) (o:=.dK []) (t':=s.toks) (fun _ _ q=>Heap.get?_push_of_some _ q) (C3 _) (alB s.heap I.big),rfl,h _ (I.hok.fresh (C3 _))⟩
end
noncomputable def kJ:List (TE×TE)->St->Hp->(List (V×V)->Hp->Prop)->Prop
 | [],_,H,Q=>Q [] H
 | (tk,tv)::r,Y,H,Q=>tk Y H fun x H1=>tv Y H1 fun y H2=>kJ r Y H2 fun ps H3=>Q ((x,y)::ps) H3
noncomputable def Z0 (kvs more:List (B3×V)):List (B3×V):=more.foldl (fun acc kv=>putK acc kv.1 kv.2) kvs
theorem adC:∀ (more kvs:List (B3×V)),(Z0 kvs more).length<=kvs.length+more.length
 | [],kvs=>by show kvs.length<=kvs.length+0;lia
 | p::r,kvs=>by
  have h1:=adC r (putK kvs p.1 p.2);have h2:=vP kvs p.1 p.2;show (Z0 (putK kvs p.1 p.2) r).length<=_;rw [L0];lia
noncomputable def tDisp (trs:List (TE×TE)):TE:=fun Y H Q=>∀ p,H p=none->kJ trs Y (A0 H p (.dK [])) fun ps H2=>H2 p=some (.dK [])/\∃ kvs:List (B3×V),ps=kvs.map (fun kv=>(kV kv.1,kv.2))/\kvs.length<=15/\Q (.ref p) (A0 H2 p (.dK (Z0 [] kvs)))
structure M1(X:Cx)(o:Expr)(m:Str)(apos:Pos)(e:Expr)(cpos:Pos):Prop where
 base:attributeBase o m X.env (eval o X.env)=eval o X.env
 few:((backTo cpos (starEach [e] X.env)).all (fun x=>!x.1)&&(backToKw cpos (keywordEach [] X.env)).all (fun x=>x.1.isSome)
  && decide (([e]:List Expr).length+([]:List Keyword).length+(if ([]:List Keyword).isEmpty then 0 else 1)<30))=true
 line:(apos.endLine==cpos.line)=true
 trees:backTo cpos (starEach [e] X.env)=[(false,eval e X.env)]
structure M2(X:Cx)(o:Expr)(m:Str)(apos:Pos)(e f:Expr)(cpos:Pos):Prop where
 base:attributeBase o m X.env (eval o X.env)=eval o X.env
 few:((backTo cpos (starEach [e,f] X.env)).all (fun x=>!x.1)&&(backToKw cpos (keywordEach [] X.env)).all (fun x=>x.1.isSome)
  && decide (([e,f]:List Expr).length+([]:List Keyword).length+(if ([]:List Keyword).isEmpty then 0 else 1)<30))=true
 line:(apos.endLine==cpos.line)=true
 trees:backTo cpos (starEach [e,f] X.env)=[(false,eval e X.env),(false,eval f X.env)]
noncomputable def gQ (H:Hp) (a:Addr):Prop:=(∃ kvs,Rd H a (.dK kvs))\/∃ kvs,Rd H a (.dT kvs)
theorem vU(I:Inv X pins Y H s)(d:gQ H a) :
  s.TypeIs (.ref a) "dict"/\(∀ b,Value.ref a=.ref b->∃ ob,s.heap.get? b=some ob/\ob.dict=none)/\(a==sysModules)=false:=by
 rcases d with ⟨kvs,e⟩ | ⟨kvs,e⟩
 .obtain ⟨_,hd,vs,_,dd⟩:=dk_rd I.hok e;refine ⟨dd.typeIs,fun b q=>?_,hd⟩
  cases q
  obtain ⟨ob,_,_,h1,h2,_⟩:=dd;exact ⟨ob,h1,h2.2.1⟩
 .obtain ⟨_,hd,xs,_,dd⟩:=dt_rd I.hok e;refine ⟨dd.typeIs,fun b q=>?_,hd⟩
  cases q
  obtain ⟨ob,_,_,h1,h2,_⟩:=dd;exact ⟨ob,h1,h2.2.1⟩
section
variable {X:Cx} {pins:List (Addr×Obj)} {Y:St} {H:Hp} {s:Shared} {a:Addr} {y d:V} {u r:Value} {o:Option V} {A:Around} {E:Value->Shared->Prop}
theorem aqI{Q:Value->Shared->Prop}(hu:A.units+1<cLine)(I:Inv X pins Y H s)(g:DGet H a y o)(ry:RelV y u)(h:∀ w' s',Inv X pins Y H s'->RelV (o.getD .non) w'->Q w' s') :
  wpAny 'b' A (call (.builtin "dict.get") [.ref a,u]) Q E s:=by
 rcases g with ⟨kvs,k,e,ey,l⟩ | ⟨kvs,k,b,e,ey,eb,l⟩
 .subst ey;obtain ⟨z,hd,vs,rel,dd⟩:=dk_rd I.hok e;refine call_meetsIn kB dd.typeIs qY (PySem.F.args_dict_get_2 _ _) (meets_dict_get (N4 X.prog X.w) a (kV_is ry) hd) ⟨_,dd.mapOf,h _ _ (I.tok _) ?_⟩;rw [l];exact (rel.val k).getD rfl
 .subst ey
  cases (show u=Value.ref b from ry)
  obtain ⟨z,hd,xs,rel,dd⟩:=dt_rd I.hok e;refine call_meetsIn kB dd.typeIs qY (PySem.F.args_dict_get_2 _ _) (meetsH_dict_get (tupleKind (N4 X.prog X.w)) a b hd) ⟨tupleKind_room_in1 hu,k,xs,gP I.hok eb,dd,h _ _ (I.tok _) ?_⟩;rw [l];exact (rel.val k).getD rfl
theorem aqJ{Q:Value->Shared->Prop}(hu:A.units+1<cLine)(I:Inv X pins Y H s)(g:DGet H a y o)(ry:RelV y u)(rd:RelV d r)(h:∀ w' s',Inv X pins Y H s'->RelV (o.getD d) w'->Q w' s') :
  wpAny 'b' A (call (.builtin "dict.get") [.ref a,u,r]) Q E s:=by
 rcases g with ⟨kvs,k,e,ey,l⟩ | ⟨kvs,k,b,e,ey,eb,l⟩
 .subst ey;obtain ⟨z,hd,vs,rel,dd⟩:=dk_rd I.hok e;refine call_meetsIn kB dd.typeIs qY (PySem.F.args_dict_get_3 _ _ _) (meets_dict_get_default (N4 X.prog X.w) a (kV_is ry) hd r) ⟨_,dd.mapOf,h _ _ (I.tok _) ?_⟩;rw [l];exact (rel.val k).getD rd
 .subst ey
  cases (show u=Value.ref b from ry)
  obtain ⟨z,hd,xs,rel,dd⟩:=dt_rd I.hok e;refine call_meetsIn kB dd.typeIs qY (PySem.F.args_dict_get_3 _ _ _) (meetsH_dict_get_default (tupleKind (N4 X.prog X.w)) a b hd r) ⟨tupleKind_room_in1 hu,k,xs,gP I.hok eb,dd,h _ _ (I.tok _) ?_⟩;rw [l];exact (rel.val k).getD rd
end
noncomputable def vV (td ty:TE):TE:=fun Y H Q=>td Y H fun x H1=>∃ a,x=.ref a/\gQ H1 a/\ty Y H1 fun y H2=>∃ o,DGet H2 a y o/\Q (o.getD .non) H2
noncomputable def vW (td ty tx:TE):TE:=fun Y H Q=>td Y H fun x H1=>∃ a,x=.ref a/\gQ H1 a/\ty Y H1 fun y H2=>tx Y H2 fun z H3=>∃ o,DGet H3 a y o/\Q (o.getD z) H3
section
variable {X:Cx} {o e f:Expr} {apos cpos:Pos} {td ty tx:TE}
theorem alD(hu:X.A.units+1<cLine)(ho:PE X o td)(he:PE X e ty)(m:M1 X o "get" apos e cpos):PE X (.Call (.Attribute o "get" apos) [e] [] cpos) (vV td ty):=by
 sleep 1;refine wpAny_Call_method m.base m.few m.line PySem.F.plainAttrs_dict kB PySem.F.type_dict_get (A8 (ho pins s Y H _ I h) fun u s1 ⟨x,H1,I1,rx,a,ex,d,q1⟩=>?_);subst ex;obtain rfl:u=Value.ref a:=rx;obtain ⟨t1,t2,_⟩:=vU I1 d;refine ⟨t1,t2,?_⟩;rw [m.trees];refine Calls.callWith_builtin rfl (Calls.evalArgs_plain (Calls.spliced_cons (A8 (he pins s1 Y H1 _ I1 q1) fun iv s2 ⟨y,H2,I2,ry,ov,g,q2⟩=>Calls.spliced_nil ?_)));exact aqI hu I2 g ry fun w' s3 I3 rw'=>⟨_,H2,I3,rw',q2⟩
theorem alE(hu:X.A.units+1<cLine)(ho:PE X o td)(he:PE X e ty)(hf:PE X f tx)(m:M2 X o "get" apos e f cpos):PE X (.Call (.Attribute o "get" apos) [e,f] [] cpos) (vW td ty tx):=by
 sleep 1;refine wpAny_Call_method m.base m.few m.line PySem.F.plainAttrs_dict kB PySem.F.type_dict_get (A8 (ho pins s Y H _ I h) fun u s1 ⟨x,H1,I1,rx,a,ex,d,q1⟩=>?_);subst ex;obtain rfl:u=Value.ref a:=rx;obtain ⟨t1,t2,_⟩:=vU I1 d;refine ⟨t1,t2,?_⟩;rw [m.trees];refine Calls.callWith_builtin rfl (Calls.evalArgs_plain (Calls.spliced_cons (A8 (he pins s1 Y H1 _ I1 q1) fun iv s2 ⟨y,H2,I2,ry,q2⟩=>
  Calls.spliced_cons (A8 (hf pins s2 Y H2 _ I2 q2) fun fv s3 ⟨z,H3,I3,rz,ov,g,q3⟩=>Calls.spliced_nil ?_))))
 exact aqJ hu I3 g ry rz fun w' s4 I4 rw'=>⟨_,H3,I4,rw',q3⟩
end
section
variable {κ:Type} [DecidableEq κ]
theorem vX:∀ {l:List κ} {k:κ},l.Nodup->¬ k∈l->(l++[k]).Nodup
 | [],k,_,_=>by simp
 | a::r,k,h,hk=>by
  obtain ⟨h1,h2⟩:=W1.mp h;show (a::(r++[k])).Nodup;refine W1.mpr ⟨fun m=>?_,vX h2 fun m=>hk (L4.mpr (Or.inr m))⟩
  rcases E8.mp m with q | q
  .exact h1 q
  .exact hk (L4.mpr (Or.inl (E5.mp q).symm))
end
noncomputable def cloOf (cells:List (Str×Addr)):List (Str×NameKind)->List (Str×Addr)->List (Str×Addr)
 | [],acc=>acc
 | (n,k)::r,acc=>if k=.free then cloOf cells r ((n,(cells.lookup n).getD 0)::acc) else cloOf cells r acc
theorem vY{env:Env} : ∀ (names:List (Str×NameKind)) (acc:List (Str×Addr)),(∀ x∈names,x.2=.free->∃ c,env.cells.lookup x.1=some c)->
  (forIn names acc fun (x:Str×NameKind) (cs:List (Str×Addr))=>(if (x.2==NameKind.free)=true then do
   let c <- cellOf env x.1
   pure (ForInStep.yield ((x.1,c)::cs)) else pure (ForInStep.yield cs):Sem (ForInStep (List (Str×Addr)))))=(pure (cloOf env.cells names acc):Sem (List (Str×Addr)))
 | [],acc,_=>rfl
 | (n,k)::r,acc,h=>by
  rw [List.forIn_cons];have hr:∀ x∈r,x.2=.free->∃ c,env.cells.lookup x.1=some c:=fun x hx=>h x (O5 _ hx)
  by_cases hk:k=.free
  .subst hk;obtain ⟨c,hc⟩:=h (n,.free) M7 rfl;have e1:cellOf env n=pure c:=by unfold cellOf;rw [show env.cells.lookup n=some c from hc]
   simp only [beq_self_eq_true,if_true];rw [e1];show (forIn r ((n,c)::acc) _:Sem _)=_;rw [vY r _ hr];show _=pure (if NameKind.free=.free then cloOf env.cells r ((n,(env.cells.lookup n).getD 0)::acc) else _);rw [if_pos rfl,show env.cells.lookup n=some c from hc];rfl
  .have hb:(k==NameKind.free)=false:=by simpa using hk
   simp only [hb,nB,if_false];show (forIn r acc _:Sem _)=_;rw [vY r _ hr];show _=pure (if k=.free then _ else cloOf env.cells r acc);rw [if_neg hk]
theorem adm{scope:Scope}{env:Env}(h:∀ x∈scope.names,x.2=.free->∃ c,env.cells.lookup x.1=some c):closureFor scope env=pure (cloOf env.cells scope.names []):=by
 simp only [closureFor];have e:=vY (env:=env) scope.names [] h;rw [e];rfl
theorem rK{cells:List (Str×Addr)}{x:Str} : ∀ (names:List (Str×NameKind)) (acc:List (Str×Addr)),
  (cloOf cells names acc).lookup x=if (x,NameKind.free)∈names then some ((cells.lookup x).getD 0) else acc.lookup x
 | [],acc=>by simp [cloOf]
 | (n,k)::r,acc=>by
  show (if k=.free then cloOf cells r ((n,(cells.lookup n).getD 0)::acc) else cloOf cells r acc).lookup x=_
  by_cases hk:k=.free
  .subst hk;rw [if_pos rfl,rK r]
   by_cases hm:(x,NameKind.free)∈r
   .rw [if_pos hm,if_pos (O5 _ hm)]
   .rw [if_neg hm,List.lookup_cons]
    by_cases hx:x=n
    .subst hx;rw [if_pos M7]
     simp
    .have e:(x==n)=false:=by simpa using hx
     rw [e,if_neg];intro z
     rcases L4.mp z with z | z
     .exact hx (Prod.mk.inj z).1
     .exact hm z
  .rw [if_neg hk,rK r]
   by_cases hm:(x,NameKind.free)∈r
   .rw [if_pos hm,if_pos (O5 _ hm)]
   .rw [if_neg hm,if_neg];intro z
    rcases L4.mp z with z | z
    .exact hk (Prod.mk.inj z).2.symm
    .exact hm z
theorem vZ{α:Type}{x:Str} : ∀ {l:List (Str×α)} {k:α},l.lookup x=some k->(x,k)∈l
 | [],_,h=>by simp at h
 | (n,a)::r,k,h=>by
  rw [List.lookup_cons] at h
  by_cases hx:x=n
  .subst hx;simp at h;subst h;exact M7
  .have e:(x==n)=false:=by simpa using hx
   rw [e] at h;exact O5 _ (vZ h)
theorem ad3{sc:Scope}{env:Env}{x:Str}{k:NameKind}(hc:∀ y∈sc.names,y.2≠.cell)(h:(relabel sc env).names.lookup x=some k)(hk:k=.cell\/k=.free):(x,NameKind.free)∈sc.names:=by
 have m:=vZ h;unfold relabel at m;obtain ⟨⟨n,k'⟩,hm,e⟩:=D7.mp m;have G8:=hc _ hm
 by_cases hf:k'=.free
 .subst hf
  have:n=x:=by
   dsimp only at e
   split at e
   .exact (Prod.mk.inj e).1
   .exact (Prod.mk.inj e).1
  subst this;exact hm
 .have hb:(k'==NameKind.free)=false:=by simpa using hf
  simp only [hb,Bool.false_and,nB,if_false] at e;obtain ⟨e1,e2⟩:=Prod.mk.inj e;subst e1 e2
  rcases hk with z | z
  .exact absurd z G8
  .subst z;exact absurd rfl hf
structure CompOk(N:List Str)(kn:List (Str×NameKind))(sc:Scope)(N':List Str)(k:Nat)(ixs:List Nat):Prop where
 kind:sc.kind=.function
 cell:∀ x∈sc.names,x.2≠.cell
 names:∀ x∈sc.names,x.2=.local->sc.names.lookup x.1=some .local
 free:∀ x∈sc.names,x.2=.free->kn.lookup x.1=some .cell\/kn.lookup x.1=some .free
 clean:∀ x∈sc.names,x.2=.free->sc.names.lookup x.1=some .free
 len:N'.length=k+ixs.length
 at_:ixs.map (fun i=>N[i]?)=(N'.drop k).map some
 fr:∀ x∈N'.drop k,(x,NameKind.free)∈sc.names
noncomputable def N7 (X:Cx) (sc:Scope) (N':List Str) (C:Addr) (zw:Shared) (zt:Hp) (fp:List Addr) (pins:List (Addr×Obj)):Cx:=
 {prog:=X.prog,w:=X.w,K:=X.K,mg:=X.mg,base:=X.base,A:=X.A,N:=N',s₀:=zw,H₀:=zt,
  env:=compEnvC sc (cloOf X.env.cells sc.names []) C X.env,outer:=X.stack,stack:=X.stack,ex:=fp,fn:=fun _=>false,calm:=X.calm,
  pn:=X.pn++pins,xe:=fun _ _=>False }
noncomputable def compStart (k:Nat) (ixs:List Nat) (Y:St):St:=Y8 k none++ixs.map fun i=>(Y[i]?).join
theorem afz : (compStart k ixs Y).length=k+ixs.length:=by simp [compStart]
section
variable {X:Cx} {sc:Scope} {N':List Str} {k:Nat} {ixs:List Nat} {pins:List (Addr×Obj)} {Y:St} {H:Hp} {s:Shared} {fp:List Addr}
theorem kK(C:CompOk X.N X.env.scope.names sc N' k ixs)(I:Inv X pins Y H s){x:Str}{c:Addr}(e:(cloOf X.env.cells sc.names []).lookup x=some c):X.env.cells.lookup x=some c/\(x,NameKind.free)∈sc.names:=by
 rw [rK] at e
 by_cases hm:(x,NameKind.free)∈sc.names
 .rw [if_pos hm] at e;obtain ⟨c',bM⟩:=I.ok.has x (C.free _ hm rfl);rw [bM] at e;exact ⟨bM.trans e,hm⟩
 .rw [if_neg hm] at e;cases e
theorem ajM(C:CompOk X.N X.env.scope.names sc N' k ixs)(I:Inv X pins Y H s){x:Str}(hm:(x,NameKind.free)∈sc.names):∃ c,(cloOf X.env.cells sc.names []).lookup x=some c/\X.env.cells.lookup x=some c:=by
 obtain ⟨c',bM⟩:=I.ok.has x (C.free _ hm rfl);refine ⟨c',?_,bM⟩;rw [rK,if_pos hm,bM];rfl
theorem aqK(C:CompOk X.N X.env.scope.names sc N' k ixs)(I:Inv X pins Y H s)(hf:∀ b∈fp,FpOk X pins H b)(ho:∀ b∈fp,∃ o,s.heap.get? b=some o):(N7 X sc N' s.heap.objs.size s H fp pins).Ok where
 mod:=I.ok.mod
 kind:=C.kind
 glob:=I.ok.glob
 blt:=I.ok.blt
 above:=C3 _
 inj:=fun x y c e1 e2=>I.ok.inj x y c (kK C I e1).1 (kK C I e2).1
 has:=fun x hx=>by
  have hm:(x,NameKind.free)∈sc.names:=by
   rcases hx with z | z
   .exact ad3 C.cell z (.inl rfl)
   .exact ad3 C.cell z (.inr rfl)
  obtain ⟨c,h1,_⟩:=ajM C I hm;exact ⟨c,h1⟩
 cab:=fun x c h _=>by cases h
 hd:=I.ok.hd
 frames:=I.ok.frames
 stk:=.inl rfl
 exf:=fun b hb=>by
  obtain ⟨o,e⟩:=ho b hb;exact ⟨M4 (Heap.lt_size e),fun x c e1=>(hf b hb).2.2.2.2.1 x c (kK C I e1).1⟩
 bs:=I.bs
 bsz:=N5 I.ok.bsz I.sz
 noex:=fun b o e hb=>by
  rcases (hf b hb).2.2.2.1 with z | z
  .exact I.ok.noex b o e z
  .exact absurd (W2 (Heap.lt_size e) (N5 I.ok.bsz z)) (f7 _)
 exfs:=fun b hb hm=>by
  rcases L4.mp (I.stkSub b hm) with z | z
  .exact (hf b hb).2.1 z
  .exact (hf b hb).2.2.1 z
 funs:=I.stack
 frf:=I.stkFree
theorem anS(C:CompOk X.N X.env.scope.names sc N' k ixs)(I:Inv X pins Y H s)(hf:∀ b∈fp,FpOk X pins H b)(ho:∀ b∈fp,∃ o,s.heap.get? b=some o){m:Str->Option Value}(hn:h'.Ns s.heap.objs.size m)(hk:∀ b o,s.heap.get? b=some o->h'.get? b=some o):Inv (N7 X sc N' s.heap.objs.size s H fp pins) [] (compStart k ixs Y) H { s with heap:=h',toks:=t' } where
 ok:=aqK C I hf ho
 os:=rfl
 bare:=I.bare
 base:=Un.kept hk
 loc:=by
  refine ⟨m,hn,fun i x v e1 e2 e3=>?_⟩;unfold compStart at e2
  by_cases hi:i<k
  .rw [eB (by simpa using hi)] at e2;rw [List.getElem?_replicate_of_lt hi] at e2;cases e2
  .rw [gF (by simpa using hi),List.length_replicate] at e2;rw [R6] at e2;cases e4:ixs[i-k]? with
   | none=>rw [e4] at e2;cases e2
   | some j=>
    rw [e4] at e2;have e5:(Y[j]?).join=some v:=Option.some.inj e2;have e6:Y[j]?=some (some v):=by
     cases e7:Y[j]? with
     | none=>rw [e7] at e5;cases e5
     | some o=>rw [e7] at e5;exact congrArg some e5
    have e1':N'[i]?=some x:=e1;have ed:(N'.drop k)[i-k]?=some x:=by rw [List.getElem?_drop,show k+(i-k)=i by lia];exact e1'
    have n3:(x,NameKind.free)∈sc.names:=C.fr x (L3 ed);have n2:X.N[j]?=some x:=by
     have q:=congrArg (fun l=>l[i-k]?) C.at_;simp only [R6,e4,ed,Option.map_some] at q;exact Option.some.inj q
    obtain ⟨m0,lZ,tX⟩:=I.loc;have pT:X.env.scope.names.lookup x=some .cell\/X.env.scope.names.lookup x=some .free:=C.free _ n3 rfl;obtain ⟨u,r,l⟩:=tX j x v n2 e6 (.inr pT);refine ⟨u,r,.inr ?_⟩
    rcases l with ⟨l,_⟩ | ⟨_,c,hc,N1⟩
    .have l':X.env.scope.names.lookup x=some .local:=l
     rcases pT with z | z
     .rw [l'] at z;cases z
     .rw [l'] at z;cases z
    .obtain ⟨c',h1,h2⟩:=ajM C I n3;rw [hc] at h2;cases h2;refine ⟨?_,c,h1,?_⟩
     .have e3':(relabel sc X.env).names.lookup x=some .local\/(relabel sc X.env).names.lookup x=some .cell\/(relabel sc X.env).names.lookup x=some .free:=e3
      rcases e3' with z | z
      .exfalso
       have mm:=vZ z;unfold relabel at mm;obtain ⟨⟨n,k'⟩,hm,e⟩:=D7.mp mm;have o0:k'=.local/\n=x:=by
        dsimp only at e
        split at e
        .obtain ⟨_,q⟩:=Prod.mk.inj e
         cases q
        .exact ⟨(Prod.mk.inj e).2,(Prod.mk.inj e).1⟩
       obtain ⟨z1,z2⟩:=o0;subst z1 z2;have q1:=C.names _ hm rfl;rw [C.clean _ n3 rfl] at q1
       cases q1
      .exact z
     .exact N1.keeps hk
 cell:=fun x c e=>by
  obtain ⟨v,z⟩:=I.cell x c (kK C I e).1;exact ⟨v,z.keeps hk⟩
 free:=I.hok.fresh (C3 _)
 freeC:=fun x c e=>I.freeC x c (kK C I e).1
 pin:=fun p hp=>by
  have hp':p∈X.pn++pins:=by simpa [N7] using hp
  obtain ⟨e,n,ne,nf,d⟩:=I.pin p hp';refine ⟨hk _ _ e,n,M4 (Heap.lt_size e),fun hm=>?_,d⟩
  rcases L4.mp (I.stkSub _ hm) with z | z
  .exact ne z
  .exact nf z
 hok:=I.hok.kept hk
 len:=by rw [afz];exact C.len.symm
end
section
variable {prog:Program} {w:World} {A:Around} {R:Result->Shared->Prop} {s:Shared}
theorem agb{scope:Scope}{pos:Pos}{it acc:Value}{env:Env}(I:Nat->Shared->Prop)(turn:∀ n s,I n s->wpAny (model prog w) A (pyNext it) (fun r zu=>match r with
   | none=>R (.ok .next) zu
   | some v=>wpAny (model prog w) A (letOwnedTupleGo target it v) (fun _ zu=>wpAny (model prog w) A (assign target env v) (fun _ zx=>
     wpAny (model prog w) A (forIn ifs true fun c r=>if r=true then do let ok <- isTrue c env (eval c env);pure (ForInStep.yield ok) else pure (ForInStep.yield r)) (fun ok zw=>
      if ok=true then wpAny (model prog w) A (eval elt env) (fun x zo=>
       wpAny (model prog w) A (call (.builtin "list.append") [acc,x]) (fun _ zn=>∃ m,m<n/\I m zn) (notedBy (model prog w) A env fun e s'=>R (.error e) s') zo) (notedBy (model prog w) A env fun e s'=>R (.error e) s') zw
      else ∃ m,m<n/\I m zw) (notedBy (model prog w) A env fun e s'=>R (.error e) s') zx) (notedBy (model prog w) A env fun e s'=>R (.error e) s') zu) (notedBy (model prog w) A env fun e s'=>R (.error e) s') zu) (notedBy (model prog w) A env fun e s'=>R (.error e) s') s)(n:Nat)(h:I n s) :
  codeAny (model prog w) A (.compLoop (.ListComp elt [⟨target,iter,ifs,0⟩] scope pos) 0 it acc env) R s:=by
 refine codeAny_loop rfl I (fun n s hI=>?_) n h;show wpAny _ A ((compTurn (.ListComp elt [⟨target,iter,ifs,0⟩] scope pos) 0 it acc env).onRaise (fun x=>do noteFrame x env;theTreesLotGoes x)) _ _ s;refine wpAny_noted ?_;rw [compTurn_list];refine wpAny_bind (wpAny_standAt (wpAny_bind (wpAny_mono (turn n s hI) (fun r zu zr=>?_) fun _ _ h'=>h')))
 cases r with
 | none=>exact wpAny_pure zr
 | some v=>
  refine wpAny_bind (wpAny_mono zr (fun _ zu zr=>?_) fun _ _ h'=>h');refine wpAny_bind (wpAny_mono zr (fun _ zx zq=>wpAny_bind (wpAny_mono zq (fun ok zw zp=>?_) fun _ _ h'=>h')) fun _ _ h'=>h')
  cases ok with
  | false=>exact wpAny_pure ⟨rfl,zp⟩
  | true=>
   exact wpAny_bind (wpAny_bind (wpAny_mono zp (fun x zo zm=>wpAny_bind (wpAny_mono zm (fun _ zn zk=>wpAny_pure (wpAny_pure ⟨rfl,zk⟩)) fun _ _ h'=>h')) fun _ _ h'=>h'))
end
noncomputable def PIfs (X:Cx) (ifs:List Expr) (t:TT):Prop:=
 ∀ (pins:List (Addr×Obj)) (s:Shared) (Y:St) (H:Hp) (Q:Bool->Hp->Prop),Inv X pins Y H s->t Y H Q->
  wpAny 'b' X.A (forIn ifs true fun c r=>if r=true then do let ok <- isTrue c X.env (eval c X.env);pure (ForInStep.yield ok) else pure (ForInStep.yield r)) (TP X pins Y Q) X.xe s
noncomputable def tYes:TT:=fun _ H Q=>Q true H
theorem alF : PIfs X [] tYes:=fun _ _ _ H _ I h=>wpAny_tests_nil ⟨H,I,h⟩
theorem alG{c:Expr}{t:TT}(hc:PT X c t):PIfs X [c] t:=fun pins s Y H Q I h=>wpAny_tests_one (hc pins s Y H Q I h)
noncomputable def tComp (wi:TI) (k:Nat) (ixs:List Nat) (g:TG) (c:TT) (te:TE):TE:=fun Y H Q=>wi Y H fun J H1=>∀ D,H1 D=none->
 ∃ (n:Nat) (W:Nat->List V->St->Hp->Prop),W 0 [] (compStart k ixs Y) (A0 H1 D (.lst []))/\∀ i ys σ2 H2,W i ys σ2 H2->H2 D=some (.lst ys)->
  (J.stop i H2/\Q (.ref D) H2)\/
  (i<n/\J.go i H2/\∀ x H',J.yld i H2 x H'->g x σ2 H' fun σ3 H3=>c σ3 H3 fun b H4=>
   if b=true then te σ3 H4 fun y H5=>H5 D=some (.lst ys)/\ys.length<sizeLine/\W (i+1) (ys++[y]) σ3 (A0 H5 D (.lst (ys++[y])))
   else H4 D=some (.lst ys)/\W (i+1) ys σ3 H4)
section
variable {X:Cx} {sc:Scope} {N':List Str} {k:Nat} {ixs:List Nat}
theorem ae8{pos:Pos}{J:It}{c:TT}(C:CompOk X.N X.env.scope.names sc N' k ixs)(N3:X.calm=true)(hg:∀ C zw zt fp pins,PG (N7 X sc N' C zw zt fp pins) target g)(hc:∀ C zw zt fp pins,PIfs (N7 X sc N' C zw zt fp pins) ifs c)(he:∀ C zw zt fp pins,PE (N7 X sc N' C zw zt fp pins) elt te){tn:Nat->Heap->Prop}(I:Inv X pins Y H s)(T:Turn X.prog X.w X.K target J fp it tn)(st:tn 0 s.heap)(hf:∀ b∈fp,FpOk X pins H b)(h:∀ D,H D=none->∃ (n:Nat) (W:Nat->List V->St->Hp->Prop),W 0 [] (compStart k ixs Y) (A0 H D (.lst []))/\∀ i ys σ2 H2,W i ys σ2 H2->H2 D=some (.lst ys)->
   (J.stop i H2/\Q (.ref D) H2)\/
   (i<n/\J.go i H2/\∀ x H',J.yld i H2 x H'->g x σ2 H' fun σ3 H3=>c σ3 H3 fun b H4=>
    if b=true then te σ3 H4 fun y H5=>H5 D=some (.lst ys)/\ys.length<sizeLine/\W (i+1) (ys++[y]) σ3 (A0 H5 D (.lst (ys++[y])))
    else H4 D=some (.lst ys)/\W (i+1) ys σ3 H4)){RR:Value->Addr->Result->Shared->Prop}(hRR:∀ D Cc (H':Hp) (s':Shared) (o:Obj) m,Inv X pins Y H' s'->Inv X (pins++[(Cc,o)]) Y H' s'->s'.heap.get? Cc=some o->s'.heap.Ns Cc m->H' Cc=none->Cc≠X.env.locals->X.s₀.heap.objs.size<=Cc->
   (∀ x c,X.env.cells.lookup x=some c->c≠Cc)->(∀ p∈X.pn++pins,p.1≠Cc)->Q (.ref D) H'->RR (.ref D) Cc (.ok .next) s') :
  wpAny 'b' X.A (newList []) (fun acc zw=>wpAny 'b' X.A (newFunctionEnv sc X.env.globals (cloOf X.env.cells sc.names []) [] X.env.qual none .none (some X.env)) (fun cenv zo=>
   codeAny 'b' X.A (.compStart (.ListComp elt [⟨target,iter,ifs,0⟩] sc pos) 0 (.ref it) acc { cenv with scope:=relabel sc X.env }) (RR acc cenv.locals) zo) E zw) E s:=by
 have fresh:=I.hok.fresh (C3 s.heap.objs.size);obtain ⟨n,W,w0,turn⟩:=h s.heap.objs.size fresh;have hfD:∀ b∈fp,b≠s.heap.objs.size:=fun b hb z=>by
  obtain ⟨o,e,_⟩:=T.obj _ _ st b hb;rw [z] at e;exact absurd (Heap.lt_size e) (f7 _)
 have hf3:∀ b∈fp,FpOk X pins (A0 H s.heap.objs.size (.lst [])) b:=fun b hb=>⟨by rw [A7 (hfD b hb)];exact (hf b hb).1,(hf b hb).2⟩
 have main:∀ (s3:Shared) (zr:Heap) (t1:Nat),Inv X pins Y (A0 H s.heap.objs.size (.lst [])) s3->(∀ b o,s.heap.get? b=some o->s3.heap.get? b=some o)->zr.Ns s3.heap.objs.size (fun x=>([]:List (Str×Value)).reverse.lookup x)->
   (∀ b o,s3.heap.get? b=some o->zr.get? b=some o)->
   tn 0 zr/\codeAny 'b' X.A (.compLoop (.ListComp elt [⟨target,iter,ifs,0⟩] sc pos) 0 (.ref it) (.ref s.heap.objs.size) (N7 X sc N' s3.heap.objs.size s3 (A0 H s.heap.objs.size (.lst [])) fp pins).env) (RR (.ref s.heap.objs.size) s3.heap.objs.size) { s3 with heap:=zr,toks:=t1 }:=by
  intro s3 zr t1 I3 k3 fN keep3;have fK:tn 0 s3.heap:=T.keep _ _ _ st fun b hb o e=>k3 b o e
  have ho3:∀ b∈fp,∃ o,s3.heap.get? b=some o:=fun b hb=>let ⟨o,e,_⟩:=T.obj _ _ fK b hb;⟨o,e⟩
  have tY:tn 0 zr:=T.keep _ _ _ fK fun b hb o e=>keep3 b o e
  have B0:Inv (N7 X sc N' s3.heap.objs.size s3 (A0 H s.heap.objs.size (.lst [])) fp pins) [] (compStart k ixs Y) (A0 H s.heap.objs.size (.lst [])) { s3 with heap:=zr,toks:=t1 }:=anS C I3 hf3 ho3 fN keep3;refine ⟨tY,?_⟩;have fpX:∀ {H':Hp},(∀ b∈fp,H' b=none)->∀ b∈fp,FpOk (N7 X sc N' s3.heap.objs.size s3 (A0 H s.heap.objs.size (.lst [])) fp pins) [] H' b:=fun {H'} hn b hb=>by
   obtain ⟨o,eo⟩:=ho3 b hb;refine ⟨hn b hb,M4 (Heap.lt_size eo),?_,.inl hb,?_,?_⟩
   .intro hm
    rcases L4.mp (I3.stkSub b hm) with z | z
    .exact (hf b hb).2.1 z
    .exact (hf b hb).2.2.1 z
   .intro x cc ec;exact (hf b hb).2.2.2.2.1 x cc (kK C I3 ec).1
   .intro p hp;exact (hf b hb).2.2.2.2.2 p (by simpa [N7] using hp)
  refine agb (fun m s'=>∃ i ys σ' H',m=n-i/\Inv (N7 X sc N' s3.heap.objs.size s3 (A0 H s.heap.objs.size (.lst [])) fp pins) [] σ' H' s'/\tn i s'.heap/\(∀ b∈fp,H' b=none)/\H' s.heap.objs.size=some (.lst ys)/\W i ys σ' H') ?_ n ⟨0,[],_,_,rfl,B0,tY,fun b hb=>(hf3 b hb).1,A3,w0⟩;rintro m s4 ⟨i,ys,σ4,H4,rfl,I4,st4,fr4,hD4,w4⟩;have again:∀ {i':Nat} {ys':List V} {σ7:St} {H7:Hp} {s6 s7:Shared},i<n->i'=i+1->tn i' s6.heap->Inv (N7 X sc N' s3.heap.objs.size s3 (A0 H s.heap.objs.size (.lst [])) fp pins) ([]++kE fp s6.heap) σ7 H7 s7->H7 s.heap.objs.size=some (.lst ys')->W i' ys' σ7 H7->
    ∃ m,m<n-i/\∃ i ys σ' H',m=n-i/\Inv (N7 X sc N' s3.heap.objs.size s3 (A0 H s.heap.objs.size (.lst [])) fp pins) [] σ' H' s7/\tn i s7.heap/\(∀ b∈fp,H' b=none)/\H' s.heap.objs.size=some (.lst ys)/\W i ys σ' H':=fun {i' ys' σ7 H7 s6 s7} C5 ei mB I7 hD w=>by
   subst ei;refine ⟨n-(i+1),by lia,i+1,ys',σ7,H7,rfl,I7.unpinned,T.keep _ _ _ mB fun b hb o e=>(I7.pin (b,o) (O4 _ (O4 _ (kF hb e)))).1,fun b hb=>?_,hD,w⟩;obtain ⟨o,e,_⟩:=T.obj _ _ mB b hb;exact (I7.pin (b,o) (O4 _ (O4 _ (kF hb e)))).2.1
  rcases turn i ys σ4 H4 w4 hD4 with ⟨stop,q⟩ | ⟨C5,go,step⟩
  .refine A8 (T.done (N7 X sc N' s3.heap.objs.size s3 (A0 H s.heap.objs.size (.lst [])) fp pins) rfl rfl rfl N3 i [] s4 σ4 H4 _ I4 (fpX fr4) st4 stop) fun r s5 mC=>?_
   obtain ⟨hr,I5⟩:=mC;subst hr;have back:Inv X pins Y H4 s5:=I3.call' (ch:=fp) I5.os I5.base I5.hok I5.bare fun b hb=>⟨(hf b hb).2.2.2.1,(hf b hb).2.1,(hf b hb).2.2.2.2.1,(hf b hb).2.2.2.2.2⟩
   obtain ⟨mm,hn5,_⟩:=I5.loc;obtain ⟨o,es,ep,ho,hd,j5⟩:=id hn5;have hC:s3.heap.objs.size≠X.env.locals:=Nat.ne_of_gt I3.lt;refine hRR s.heap.objs.size s3.heap.objs.size H4 s5 o mm back ?_ ho hn5 I5.free hC I3.sz ?_ ?_ q
   .refine back.pins_of fun p hp=>?_
    rcases E8.mp hp with z | z
    .exact back.pin p (O4 _ z)
    .have e:p=(s3.heap.objs.size,o):=by simpa using z
     subst e;exact ⟨ho,I5.free,hC,I3.nofs (C3 _),fun v z=>by rw [hd] at z;cases z⟩
   .intro x c e z;obtain ⟨v,q⟩:=I3.cell x c e
    have:=q.lt
    rw [z] at this;exact f7 _ this
   .intro p hp z
    have:=Heap.lt_size (I3.pin p hp).1
    rw [z] at this;exact f7 _ this
  .refine A8 (T.item (N7 X sc N' s3.heap.objs.size s3 (A0 H s.heap.objs.size (.lst [])) fp pins) rfl rfl rfl N3 i [] s4 σ4 H4 _ I4 (fpX fr4) st4 go) fun r s5 mC=>?_
   obtain ⟨u,hr,h5⟩:=mC;subst hr;refine A8 h5 fun _ s6 h6=>?_
   obtain ⟨x,H6,I6,r6,y6,mB,fr6⟩:=h6;have I6':=I6.pinned (fpX fr6) (T.obj _ _ mB);refine wpAny_mono (hg _ _ _ _ _ _ s6 σ4 H6 x u _ I6' r6 (step x H6 y6)) (fun _ s7 h7=>?_) fun _ _ z=>False.elim z
   obtain ⟨σ7,H7,I7,q7⟩:=h7;refine wpAny_mono (hc _ _ _ _ _ _ s7 σ7 H7 _ I7 q7) (fun ok s8 h8=>?_) fun _ _ z=>False.elim z
   obtain ⟨H8,I8,q8⟩:=h8
   cases ok with
   | false=>
    rw [if_neg L8] at q8 ⊢
    exact again C5 rfl mB I8 q8.1 q8.2
   | true=>
    rw [if_pos rfl] at q8 ⊢
    refine wpAny_mono (he _ _ _ _ _ _ s8 σ7 H8 _ I8 q8) (fun y s9 h9=>?_) fun _ _ z=>False.elim z
    obtain ⟨yv,H9,I9,r9,hD9,hz9,w9⟩:=h9;refine wpAny_mono (af7 (X:=(N7 X sc N' s3.heap.objs.size s3 (A0 H s.heap.objs.size (.lst [])) fp pins)) _ s9 σ7 H9 (.ref s.heap.objs.size) [yv] (.ref s.heap.objs.size) [y] (fun _ H'=>H'=A0 H9 s.heap.objs.size (.lst (ys++[yv]))) I9 rfl (.cons r9 .nil) ⟨_,ys,yv,rfl,rfl,hD9,hz9,rfl⟩) (fun _ s10 h10=>?_) fun _ _ z=>False.elim z
    obtain ⟨_,j6,I10,_,e10⟩:=h10;subst e10;exact again C5 rfl mB I10 A3 w9
 have I3:=I.lnew (ys:=[]) (its:=[]) (t':=s.toks) .nil (G4 _);refine wpAny_newObj_type (wpAny_newFunctionEnv C.cell (by intro y hy;simp at hy) (fun zr zf ze=>?_) C.kind);obtain ⟨tY,loop⟩:=main _ zr (s.toks+([]:List (Str×Value)).length) I3 (fun b o e=>Heap.get?_push_of_some _ e) zf fun b o e=>ze.extBut b o (M4 (Heap.lt_size e)) (Heap.get?_push_of_some _ e)
 exact codeAny_compStart_list loop (T.self X.A 0 _ _ _ tY loop)
theorem anT{pos:Pos}{wi:TI}{c:TT}(C:CompOk X.N X.env.scope.names sc N' k ixs)(N3:X.calm=true)(hi:PI X target iter wi)(hg:∀ C zw zt fp pins,PG (N7 X sc N' C zw zt fp pins) target g)(hc:∀ C zw zt fp pins,PIfs (N7 X sc N' C zw zt fp pins) ifs c)(he:∀ C zw zt fp pins,PE (N7 X sc N' C zw zt fp pins) elt te)(hs:∀ x,foldedSetIterable iter X.env x=pure x:=by intro _;rfl):PE X (.ListComp elt [⟨target,iter,ifs,0⟩] sc pos) (tComp wi k ixs g c te):=by
 sleep 1;rw [eval_ListComp];refine wpAny_comprehension_free (use:=none) rfl hs (adm fun x hx hf=>I.ok.has x.1 (C.free x hx hf)) C.kind C.names (A8 (hi pins s Y H _ I h) fun v s1 h1=>A8 h1 fun itv s2 h2=>?_);obtain ⟨it,fp,tn,J,H2,e,I2,T,pN,f2,q2⟩:=h2;subst e;refine ae8 (RR:=fun acc C=>compPost 'b' X.A X.xe none (EP X pins Y Q) acc C) C N3 hg hc he I2 T pN f2 q2 ?_;intro D Cc H' s' o m I' _ ho hn hC hL Z3 N1 iV q;exact ⟨m,hn,fun h'' hs''=>⟨.ref D,H',I'.turned (t':=s'.toks) (fun b o hb e=>hs''.extBut b o hb e) hC hL (.inr Z3) N1 iV,rfl,q⟩⟩
theorem aiJ{pos py:Pos}{wi:TI}{c:TT}{y:Str}(hN:X.N.Nodup)(hiN:X.N[i]?=some y)(hx:x0 X.env.scope y)(C:CompOk X.N X.env.scope.names sc N' k ixs)(N3:X.calm=true)(hi:PI X target iter wi)(hg:∀ C zw zt fp pins,PG (N7 X sc N' C zw zt fp pins) target g)(hc:∀ C zw zt fp pins,PIfs (N7 X sc N' C zw zt fp pins) ifs c)(he:∀ C zw zt fp pins,PE (N7 X sc N' C zw zt fp pins) elt te)(hsw:swapsWith (.ListComp elt [⟨target,iter,ifs,0⟩] sc pos) (some (.Name y py)) spos.line X.env=pure true:=by rfl)(hf:X.fn y=true\/X.env.scope.names.lookup y=some .local:=by first | exact .inl rfl | exact .inr rfl | assumption)(hs:∀ x,foldedSetIterable iter X.env x=pure x:=by intro _;rfl):PS X (.Assign [.Name y py] (.ListComp elt [⟨target,iter,ifs,0⟩] sc pos) spos) (tAsg (tComp wi k ixs g c te) (gName i)):=by
 intro pins s Y H D I h;rw [exec_Assign_Name_used _ _ _ _ hsw];refine wpAny_bind (wpAny_standAt (wpAny_bind ?_));show wpAny _ X.A (do let _ <- comprehension (.ListComp elt [⟨target,iter,ifs,0⟩] sc pos) sc X.env _ (newList []) false (eval iter X.env) (some (assign (.Name y py) X.env))) _ _ s;refine wpAny_bind (wpAny_mono (wpAny_comprehension_free (use:=some (assign (.Name y py) X.env)) (Q:=fun _ s'=>SP X pins D .next s') rfl hs (adm fun x hx hf=>I.ok.has x.1 (C.free x hx hf)) C.kind C.names
  (A8 (hi pins s Y H _ I h) fun v s1 h1=>A8 h1 fun itv s2 h2=>?_)) (fun _ s' hq=>wpAny_pure (wpAny_pure hq)) fun _ _ e=>e)
 obtain ⟨it,fp,tn,J,H2,e,I2,T,pN,f2,q2⟩:=h2;subst e;refine ae8 (Q:=fun x H1=>gName i x Y H1 D.nx) (RR:=fun acc C=>compPost 'b' X.A X.xe (some (assign (.Name y py) X.env)) (fun _ s'=>SP X pins D .next s') acc C) C N3 hg hc he I2 T pN f2 q2 ?_;intro Da Cc H' s' o m _ Ip ho hn hC hL Z3 N1 iV q;show wpAny _ X.A (assign (.Name y py) X.env (.ref Da)) _ _ _;refine wpAny_assign_Name (rA (v:=.ref Da) Ip hN hiN hx rfl (fun s'' I''=>?_) hf);have hC2:=(I''.pin (Cc,o) (O4 _ (O4 _ (E5.mpr rfl)))).1;refine ⟨m,hn.at' fun o' e'=>?_,fun h'' hs''=>?_⟩
 .rw [ho] at e';cases e';exact hC2
 .have I3:Inv X pins (Y.set i (some (.ref Da))) H' s'':=I''.unpinned;exact ⟨_,H',I3.turned (t':=s''.toks) (fun b o hb e=>hs''.extBut b o hb e) hC hL (.inr Z3) N1 iV,q⟩
end
end L2
end
namespace L2
open PySem PySem.Spec PyProof.Rows
section
variable {X:Cx} {a b:Expr} {ta tb:TE} {pos:Pos} {rest:List Expr}
noncomputable def tTru (K:PySem.W.Frag) (te:TE):TT:=fun Y H Q=>te Y H fun x H1=>∃ k,TruV K x H1 k/\Q k H1
theorem aqL(ha:PE X a ta)(he:∀ whole,isTrue a X.env whole=(do let v <- whole;standAt a.pos;holding [v] (truthy v)):=by intro _;rfl):PT X a (tTru X.K ta):=alp ha he
noncomputable def tNotT (K:PySem.W.Frag) (te:TE):TE:=fun Y H Q=>te Y H fun x H1=>∃ k,TruV K x H1 k/\Q (.bl (!k)) H1
end
mutual
inductive Dn (K:PySem.W.Frag) (H:Hp):V->PyData->Prop
 | non:Dn K H .non .none
 | bl (b):Dn K H (.bl b) (.bool b)
 | int (i):Dn K H (.int i) (.int i)
 | str (x):p9 x=true->Dn K H (.str x) (.str x)
 | lst {a xs ds} : D8 K H a xs->DnAll K H xs ds->Dn K H (.ref a) (.list ds)
 | tup {a xs ds} : B1 K H a xs->DnAll K H xs ds->Dn K H (.ref a) (.tuple ds)
inductive DnAll (K:PySem.W.Frag) (H:Hp):List V->List PyData->Prop
 | nil:DnAll K H [] []
 | cons {x xs d ds} : Dn K H x d->DnAll K H xs ds->DnAll K H (x::xs) (d::ds)
end
section
variable {X:Cx} {pins:List (Addr×Obj)} {Y:St} {H:Hp} {s:Shared}
mutual
theorem Dn.reads{K:PySem.W.Frag}{x:V}{d:PyData}(I:Inv X pins Y H s)(hK:X.K=K):Dn K H x d->∀ {u:Value},RelV x u->d.canLay0=true/\∃ as,Reads s.heap u d as
 | .non,u,r=>by cases r;exact ⟨rfl,_,.none⟩
 | .bl b,u,r=>by cases r;exact ⟨rfl,_,.bool b⟩
 | .int i,u,r=>by obtain ⟨t,rfl⟩:=r;exact ⟨rfl,_,.int i t⟩
 | .str x hx,u,r=>by obtain ⟨t,rfl⟩:=r;exact ⟨hx,_,.str x t⟩
 | .lst (a:=a) q hs,u,r=>by
  cases r
  subst hK;obtain ⟨its,rv,⟨o,n,e,c,_,dd⟩,_⟩:=I.list q;obtain ⟨h1,as,h2⟩:=DnAll.reads I rfl hs rv;exact ⟨h1,_,.list e c dd (by simpa using h2)⟩
 | .tup (a:=a) q hs,u,r=>by
  cases r
  subst hK;obtain ⟨its,rv,⟨o,e,c,n,dd⟩,_⟩:=I.tuple q;obtain ⟨h1,as,h2⟩:=DnAll.reads I rfl hs rv;exact ⟨h1,_,.tuple e c dd (by simpa using h2)⟩
theorem DnAll.reads{K:PySem.W.Frag}{xs:List V}{ds:List PyData}(I:Inv X pins Y H s)(hK:X.K=K):DnAll K H xs ds->∀ {us:List Value},Vals xs us->PyData.canLayAll0 ds=true/\∃ as,ReadsAll s.heap us ds as
 | .nil,us,r=>by cases r;exact ⟨rfl,_,.nil⟩
 | .cons h t,us,r=>by
  cases r with
  | cons r1 r2=>
   obtain ⟨c1,a1,q1⟩:=Dn.reads I hK h r1;obtain ⟨c2,a2,q2⟩:=DnAll.reads I hK t r2;exact ⟨by simp [PyData.canLayAll0,c1,c2],_,.cons q1 q2⟩
end
end
mutual
theorem Dn.same{K:PySem.W.Frag}{H H':Hp}(hs:Same H H'){x:V}{d:PyData} : Dn K H x d->Dn K H' x d
 | .non=>.non
 | .bl b=>.bl b
 | .int i=>.int i
 | .str x h=>.str x h
 | .lst q h=>.lst (hs.seq q) (DnAll.same hs h)
 | .tup (a:=a) (xs:=xs) q h=>.tup (by
   rcases q with (q | ⟨o,q⟩) | q
   .exact .inl (.inl (hs _ _ q))
   .exact .inl (.inr ⟨o,hs _ _ q⟩)
   .exact .inr q) (DnAll.same hs h)
theorem DnAll.same{K:PySem.W.Frag}{H H':Hp}(hs:Same H H'){xs:List V}{ds:List PyData} : DnAll K H xs ds->DnAll K H' xs ds
 | .nil=>.nil
 | .cons h t=>.cons (Dn.same hs h) (DnAll.same hs t)
end
theorem uae{K:PySem.W.Frag}{H:Hp} : ∀ {zs:List Str},(∀ z∈zs,p9 z=true)->DnAll K H (zs.map V.str) (zs.map PyData.str)
 | [],_=>.nil
 | z::zs,h=>.cons (.str z (h z M7)) (uae fun y hy=>h y (O5 _ hy))
theorem gR{K:PySem.W.Frag}{H:Hp} : ∀ {zs:List Int},DnAll K H (zs.map V.int) (zs.map aR)
 | []=>.nil
 | z::zs=>.cons (.int z) gR
theorem aer:∀ (xs ys:List Str),Z8 (xs.map PyData.str) (ys.map PyData.str)=decide (xs=ys)
 | [],[]=>by simp [Z8]
 | [],_::_=>by simp [Z8]
 | _::_,[]=>by simp [Z8]
 | x::xs,y::ys=>by
  rw [G0,G0,Z8,aer xs ys];rw [show V0 (.str x) (.str y)=(x==y) by simp [V0]]
  by_cases h1:x=y
  .subst h1;simp
  .simp [h1]
theorem nQ:∀ (xs ys:List Int),Z8 (xs.map aR) (ys.map aR)=decide (xs=ys)
 | [],[]=>by simp [Z8]
 | [],_::_=>by simp [Z8]
 | _::_,[]=>by simp [Z8]
 | x::xs,y::ys=>by
  rw [G0,G0,Z8,nQ xs ys];rw [show V0 (.int x) (.int y)=(x==y) by simp [V0]]
  by_cases h1:x=y
  .subst h1;simp
  .simp [h1]
noncomputable def rAddR (K:PySem.W.Frag) (a b:Addr) (H:Hp) (Q:VK):Prop:=rCat (.ref a) (.ref b) H Q\/rCatT K (.ref a) (.ref b) H Q
theorem rAddR.l{K:PySem.W.Frag}{a b:Addr}{H:Hp}{Q:VK}{xs ys:List V}(h1:H a=some (.lst xs))(h2:H b=some (.lst ys))(h3:xs.length+ys.length<=sizeLine)(h:∀ p,H p=none->Q (.ref p) (A0 H p (.lst (xs++ys)))):rAddR K a b H Q:=.inl ⟨a,b,xs,ys,rfl,rfl,h1,h2,h3,h⟩
theorem rAddR.t{K:PySem.W.Frag}{a b:Addr}{H:Hp}{Q:VK}{xs ys:List V}(h1:B1 K H a xs)(h2:B1 K H b ys)(h0:xs≠[])(h3:xs.length+ys.length<=sizeLine)(he:ys=[]->Q (.ref a) H)(h:ys≠[]->∀ p,H p=none->Q (.ref p) (A0 H p (.tup (xs++ys)))):rAddR K a b H Q:=.inr ⟨a,b,xs,ys,rfl,rfl,h1,h2,h0,h3,he,h⟩
noncomputable def rAddU (K:PySem.W.Frag):V->V->Hp->VK->Prop
 | .int i,.int j,H,Q=>Q (.int (i+j)) H
 | .str i,.str j,H,Q=>i.length+j.length<=sizeLine/\Q (.str (i++j)) H
 | .ref a,.ref b,H,Q=>rAddR K a b H Q
 | _,_,_,_=>False
noncomputable def rMulU:V->V->Hp->VK->Prop
 | .int i,.int j,H,Q=>CMul i j/\Q (.int (i*j)) H
 | .ref a,.int j,H,Q=>rRep (.ref a) (.int j) H Q
 | _,_,_,_=>False
noncomputable def rEqU (K:PySem.W.Frag):V->V->Hp->VK->Prop
 | .int i,.int j,H,Q=>Q (.bl (decide (i=j))) H
 | .str i,.str j,H,Q=>Q (.bl (decide (i=j))) H
 | .bl i,.bl j,H,Q=>Q (.bl (decide (i=j))) H
 | x,y,H,Q=>∃ d e,Dn K H x d/\Dn K H y e/\min d.depth e.depth<=60/\Q (.bl (V0 d e)) H
noncomputable def rNeU (K:PySem.W.Frag):V->V->Hp->VK->Prop
 | .int i,.int j,H,Q=>Q (.bl (!decide (i=j))) H
 | .str i,.str j,H,Q=>Q (.bl (!decide (i=j))) H
 | .bl i,.bl j,H,Q=>Q (.bl (!decide (i=j))) H
 | x,y,H,Q=>∃ d e,Dn K H x d/\Dn K H y e/\min d.depth e.depth<=60/\Q (.bl (!PyData.eqv d e)) H
noncomputable def rLtU:V->V->Hp->VK->Prop
 | .int i,.int j,H,Q=>Q (.bl (decide (i<j))) H
 | .str i,.str j,H,Q=>Q (.bl (decide (i.cps.toList<j.cps.toList))) H
 | _,_,_,_=>False
noncomputable def rLeU:V->V->Hp->VK->Prop
 | .int i,.int j,H,Q=>Q (.bl (decide (i<=j))) H
 | .str i,.str j,H,Q=>Q (.bl (!decide (j.cps.toList<i.cps.toList))) H
 | _,_,_,_=>False
noncomputable def rGtU:V->V->Hp->VK->Prop
 | .int i,.int j,H,Q=>Q (.bl (decide (j<i))) H
 | .str i,.str j,H,Q=>Q (.bl (decide (j.cps.toList<i.cps.toList))) H
 | _,_,_,_=>False
noncomputable def rGeU:V->V->Hp->VK->Prop
 | .int i,.int j,H,Q=>Q (.bl (decide (j<=i))) H
 | .str i,.str j,H,Q=>Q (.bl (!decide (i.cps.toList<j.cps.toList))) H
 | _,_,_,_=>False
noncomputable def rInR (K:PySem.W.Frag) (neg:Bool) (x:V) (p:Addr) (H:Hp) (Q:VK):Prop:=vM K neg x (.ref p) H Q\/∃ o,DGet H p x o/\Q (.bl (neg.xor o.isSome)) H
theorem rInR.l{K:PySem.W.Frag}{neg:Bool}{x:V}{p:Addr}{H:Hp}{Q:VK}{xs:List V}(h1:D8 K H p xs\/B1 K H p xs)(h2:flatV x=true)(h3:xs.all flatV=true)(h:Q (.bl (neg.xor (eP x xs))) H):rInR K neg x p H Q:=.inl ⟨p,xs,rfl,h1,h2,h3,by cases neg <;> simpa using h⟩
theorem rInR.d{K:PySem.W.Frag}{neg:Bool}{x:V}{p:Addr}{H:Hp}{Q:VK}{o:Option V}(h1:DGet H p x o)(h:Q (.bl (neg.xor o.isSome)) H):rInR K neg x p H Q:=.inr ⟨o,h1,h⟩
noncomputable def rInU (K:PySem.W.Frag) (neg:Bool) (x:V):V->Hp->VK->Prop
 | .str j,H,Q=>∃ i,x=.str i/\Q (.bl (neg.xor (!(Builtin.Str.occurrences j i 0 j.length 1).isEmpty))) H
 | .ref p,H,Q=>rInR K neg x p H Q
 | _,_,_=>False
section
variable {X:Cx} {pins:List (Addr×Obj)} {Y:St} {H:Hp} {s:Shared}
theorem p_add:G7 X (binaryOp .Add) (rAddU X.K):=by
 sleep 0
 cases x <;> cases y <;> try exact h.elim
 .exact aqm pins s Y H _ _ v u Q I rx ry ⟨_,_,rfl,rfl,h⟩
 .exact aiA pins s Y H _ _ v u Q I rx ry ⟨_,_,rfl,rfl,h⟩
 .rcases h with h | h
  .exact aqG pins s Y H _ _ v u Q I rx ry h
  .exact anL pins s Y H _ _ v u Q I rx ry h
theorem p_sub:G7 X (binaryOp .Sub) (aV fun i j=>.int (i-j)):=aqn
theorem p_mul:G7 X (binaryOp .Mult) rMulU:=by
 sleep 0
 cases x <;> cases y <;> try exact h.elim
 .exact aqo pins s Y H _ _ v u Q I rx ry ⟨_,_,rfl,rfl,h⟩
 .exact aqH pins s Y H _ _ v u Q I rx ry h
theorem aqM:G7 X (binaryOp .FloorDiv) (rI CDiv fun i j=>.int (i / j)):=anw
theorem p_mod:G7 X (binaryOp .Mod) (rI (fun _ j=>0<j) fun i j=>.int (i % j)):=aqp
theorem rL(hu:X.A.units+64<cLine){x y:V}{v u:Value}{Q:VK}(I:Inv X pins Y H s)(rx:RelV x v)(ry:RelV y u)(h:∃ d e,Dn X.K H x d/\Dn X.K H y e/\min d.depth e.depth<=60/\Q (.bl (V0 d e)) H):wpAny 'b' X.A (compareOp .Eq v u) (EP X pins Y Q) X.xe s:=by
 obtain ⟨d,e,h1,h2,hd,q⟩:=h;obtain ⟨c1,as,r1⟩:=h1.reads I rfl rx;obtain ⟨c2,bs,r2⟩:=h2.reads I rfl ry;exact SeqAt.compareEq_reads r1 r2 c1 c2 'a' ⟨.bl _,H,I,rfl,q⟩
theorem rM(hu:X.A.units+64<cLine){x y:V}{v u:Value}{Q:VK}(I:Inv X pins Y H s)(rx:RelV x v)(ry:RelV y u)(h:∃ d e,Dn X.K H x d/\Dn X.K H y e/\min d.depth e.depth<=60/\Q (.bl (!PyData.eqv d e)) H):wpAny 'b' X.A (compareOp .NotEq v u) (EP X pins Y Q) X.xe s:=by
 obtain ⟨d,e,h1,h2,hd,q⟩:=h;obtain ⟨c1,as,r1⟩:=h1.reads I rfl rx;obtain ⟨c2,bs,r2⟩:=h2.reads I rfl ry;exact SeqAt.compareNe_reads r1 r2 c1 c2 'a' ⟨.bl _,H,I,rfl,q⟩
theorem p_eq(hu:X.A.units+64<cLine):G7 X (compareOp .Eq) (rEqU X.K):=by
 sleep 0;have sc:∀ {x y:V},rEq x y H Q->RelV x v->RelV y u->wpAny 'b' X.A (compareOp .Eq v u) (EP X pins Y Q) X.xe s:=fun {x y} h rx ry=>op_eq pins s Y H x y v u Q I rx ry h
 cases x with
 | int i=>cases y with
  | int j=>exact sc (x:=.int i) (y:=.int j) ⟨rfl,by simpa using (show Q (.bl (decide (i=j))) H from h)⟩ rx ry
  | _=>exact rL hu I rx ry h
 | str i=>cases y with
  | str j=>exact sc (x:=.str i) (y:=.str j) ⟨rfl,by simpa using (show Q (.bl (decide (i=j))) H from h)⟩ rx ry
  | _=>exact rL hu I rx ry h
 | bl i=>cases y with
  | bl j=>exact sc (x:=.bl i) (y:=.bl j) ⟨rfl,by simpa using (show Q (.bl (decide (i=j))) H from h)⟩ rx ry
  | _=>exact rL hu I rx ry h
 | _=>cases y <;> exact rL hu I rx ry h
theorem p_ne(hu:X.A.units+64<cLine):G7 X (compareOp .NotEq) (rNeU X.K):=by
 sleep 0;have sc:∀ {x y:V},rNe x y H Q->RelV x v->RelV y u->wpAny 'b' X.A (compareOp .NotEq v u) (EP X pins Y Q) X.xe s:=fun {x y} h rx ry=>op_ne pins s Y H x y v u Q I rx ry h
 cases x with
 | int i=>cases y with
  | int j=>exact sc (x:=.int i) (y:=.int j) ⟨rfl,by simpa using (show Q (.bl (!decide (i=j))) H from h)⟩ rx ry
  | _=>exact rM hu I rx ry h
 | str i=>cases y with
  | str j=>exact sc (x:=.str i) (y:=.str j) ⟨rfl,by simpa using (show Q (.bl (!decide (i=j))) H from h)⟩ rx ry
  | _=>exact rM hu I rx ry h
 | bl i=>cases y with
  | bl j=>exact sc (x:=.bl i) (y:=.bl j) ⟨rfl,by simpa using (show Q (.bl (!decide (i=j))) H from h)⟩ rx ry
  | _=>exact rM hu I rx ry h
 | _=>cases y <;> exact rM hu I rx ry h
theorem p_lt:G7 X (compareOp .Lt) rLtU:=by
 sleep 0
 cases x <;> cases y <;> try exact h.elim
 .exact op_lt pins s Y H _ _ v u Q I rx ry ⟨_,_,rfl,rfl,h⟩
 .exact afW pins s Y H _ _ v u Q I rx ry ⟨_,_,rfl,rfl,h⟩
theorem p_le:G7 X (compareOp .LtE) rLeU:=by
 sleep 0
 cases x <;> cases y <;> try exact h.elim
 .exact op_le pins s Y H _ _ v u Q I rx ry ⟨_,_,rfl,rfl,h⟩
 .obtain ⟨t,rfl⟩:=rx;obtain ⟨t',rfl⟩:=ry;exact PySem.P.le_str ⟨.bl _,H,I,by simp [RelV],h⟩
theorem p_gt:G7 X (compareOp .Gt) rGtU:=by
 sleep 0
 cases x <;> cases y <;> try exact h.elim
 .exact op_gt pins s Y H _ _ v u Q I rx ry ⟨_,_,rfl,rfl,h⟩
 .obtain ⟨t,rfl⟩:=rx;obtain ⟨t',rfl⟩:=ry;exact PySem.P.gt_str ⟨.bl _,H,I,rfl,h⟩
theorem p_in(hu:X.A.units+64<cLine):G7 X (compareOp .In) (rInU X.K false):=by
 sleep 0
 cases y with
 | str j=>
  obtain ⟨i,rfl,q⟩:=h;exact aju pins s Y H _ _ v u Q I rx ry ⟨i,j,rfl,rfl,by simpa using q⟩
 | ref p=>
  rcases h with h | ⟨o,g,q⟩
  .exact ajE pins s Y H _ _ v u Q I rx ry h
  .obtain rfl:u=Value.ref p:=ry;exact d_in 'a' I g rx fun s3 I3=>⟨.bl o.isSome,H,I3,rfl,by simpa using q⟩
 | _=>exact h.elim
theorem anU(hu:X.A.units+64<cLine):G7 X (compareOp .NotIn) (rInU X.K true):=by
 sleep 0
 cases y with
 | str j=>
  obtain ⟨i,rfl,q⟩:=h;exact af4 pins s Y H _ _ v u Q I rx ry ⟨i,j,rfl,rfl,by simpa using q⟩
 | ref p=>
  rcases h with h | ⟨o,g,q⟩
  .exact af3 pins s Y H _ _ v u Q I rx ry h
  .obtain rfl:u=Value.ref p:=ry;exact anO 'a' I g rx fun s3 I3=>⟨.bl (!o.isSome),H,I3,rfl,by simpa using q⟩
 | _=>exact h.elim
noncomputable def cutS (x:Str) (lo hi:Option Int):Str:=⟨((x.cps.toList.drop (HT.sIx x.length 0 lo)).take (HT.sIx x.length x.length hi-HT.sIx x.length 0 lo)).toArray⟩
noncomputable def rSlS:V->Option Int->Option Int->Hp->VK->Prop:=fun x lo hi H Q=>∃ z,x=.str z/\z.length<=sizeLine/\Q (.str (cutS z lo hi)) H
end
end L2
variable {C a b f fa fo it ll md ml p r rl:PySem.Addr}{dvs vs xs ys:List L2.V}{Q:L2.VK}{v v' x y:L2.V}{cd ct oc pm u vl vu:PySem.Value}{a0 a1 c ck i j k m n t' x1:Nat}{items items2:Array PySem.Value}{ds fr ns:List Int}{its its' its2 us:List PySem.Value}{pins:List (PySem.Addr×PySem.Obj)}{Y:L2.St}{H H' H0 H1 H2 H3 Hb zt:L2.Hp}{s zw:PySem.Shared}{A:PySem.Around}{h h':PySem.Heap}{name q qual z z':PySem.Str}{L L' M M' N N' acc bad g' ks line loose ls ls' ms ps ts zs:List PySem.Str}{K:PySem.W.Frag}{mg:PySem.Str->Option PySem.Value}{fd:PySem.FuncData}{sp:L2.Sp}{X:L2.Cx}{kvs:List (L2.B3×L2.V)}{prog:PySem.Program}{E:PySem.Value->PySem.Shared->Prop}{S ixs l' pre:List Nat}{e elt iter target tg:PySem.Expr}{elts ifs:List PySem.Expr}{g:L2.TG}{td te ti tk tl to tv tx ty:L2.TE}{fp rs:List PySem.Addr}{apos cpos kpos p1 pos1 spos tpos:PySem.Pos}{b' bh calm fg neg:Bool}{st:PySem.Stmt}{an od:Option PySem.Addr}{tb:L2.TS}{D:L2.Ends}{lo:Int}{o:PySem.Obj}{ta:L2.TA}{ss:Array (Option PySem.Value)}
namespace L2
open PySem PySem.Spec PyProof.Rows
section
variable {X:Cx}
theorem ajN(x:Str)(lo hi:Option Int):Txt.slice x lo hi=cutS x lo hi:=by
 have c1:∀ (o:Option Int) (d:Nat),(match o with | none=>(d:Int) | some i=>if (1:Int) > 0 then max 0 (min (if i<0 then i+(x.length:Int) else i) (x.length:Int)) else max (-1) (min (if i<0 then i+(x.length:Int) else i) ((x.length:Int)-1)))=((HT.sIx x.length d o:Nat):Int):=by
  intro o d
  cases o with
  | none=>rfl
  | some i=>
   rw [<- HT.clip_eq i x.length d];simp only [show ((1:Int) > 0)=True by simp,if_true]
   split <;> lia
 have h2:Builtin.Str.strSliceIndices lo hi 1 x.length=Builtin.Str.strSliceIndices (some ((HT.sIx x.length 0 lo:Nat):Int)) (some ((HT.sIx x.length x.length hi:Nat):Int)) 1 x.length:=by
  have e1:=c1 lo 0;have e2:=c1 hi x.length;have e3:=c1 (some ((HT.sIx x.length 0 lo:Nat):Int)) 0;have e4:=c1 (some ((HT.sIx x.length x.length hi:Nat):Int)) x.length;have l1:=HT.sIx_le x.length 0 (G4 _) lo;have l2:=HT.sIx_le x.length x.length (C3 _) hi;rw [HT.sIx_nat,cE l1] at e3;rw [HT.sIx_nat,cE l2] at e4;unfold Builtin.Str.strSliceIndices
  dsimp only at e3 e4 ⊢
  rw [e3,e4];clear e3 e4 l1 l2;refine congr (congr (congrArg sliceRange ?_) ?_) rfl
  .cases lo with
   | none=>exact e1
   | some i=>exact e1
  .cases hi with
   | none=>exact e2
   | some i=>exact e2
 have l1:=HT.sIx_le x.length 0 (G4 _) lo;have l2:=HT.sIx_le x.length x.length (C3 _) hi;unfold Txt.slice cutS;rw [h2];generalize HT.sIx x.length 0 lo=a at *;generalize HT.sIx x.length x.length hi=b at *;have len:x.length=x.cps.toList.length:=by simp [Str.length]
 by_cases Z3:a<=b
 .rw [StrLaws.sliced_plain x Z3 l2,StrLaws.strSliceIndices_plain Z3 l2]
  split
  .rename_i hc
   have bM:b-a=x.length:=by simpa using hc
   have ha:a=0:=by lia
   subst ha;rw [List.drop_zero,v4 'a']
  .rfl
 .have e:Builtin.Str.strSliceIndices (some (a:Int)) (some (b:Int)) 1 x.length=[]:=by
   have h1:¬ ((a:Int)<0):=by lia
   have h2:¬ ((b:Int)<0):=by lia
   have e1:max (0:Int) (min (a:Int) (x.length:Int))=a:=by lia
   have e2:max (0:Int) (min (b:Int) (x.length:Int))=b:=by lia
   simp only [Builtin.Str.strSliceIndices,sliceRange,h1,h2,if_false,e1,e2,show ((1:Int) > 0)=True from by simp,if_true];rw [if_neg 'a'];rfl
  rw [e,show b-a=0 by lia,eF]
  split
  .rename_i hc
   have bM:0=x.length:=by simpa using hc
   have:x.cps.toList=[]:=List.eq_nil_of_length_eq_zero 'a'
   obtain ⟨⟨l⟩⟩:=x;simp at this;subst this;rfl
  .rfl
theorem aqN:kH X rSlS:=by
 intro pins s Y H x v vl vu lo hi sl Q I rx hs pl pu h;obtain ⟨z,rfl,hz,q⟩:=h;obtain ⟨t,rfl⟩:=rx;refine ⟨"str",_,F.slot_str_getitem.lookup,typeIs_str _ _ _,?_⟩;rw [<- ajN] at q;have part:∀ {u:Value} {o:Option Int},IsPart u o->∃ l:Option (Int×Tok),u=partValue l/\l.map (·.1)=o:=fun {u o} p=>by
  cases p with
  | none=>exact ⟨none,rfl,rfl⟩
  | int i t=>exact ⟨some (i,t),rfl,rfl⟩
 obtain ⟨l,rfl,el⟩:=part pl;obtain ⟨u,rfl,eu⟩:=part pu;subst el eu;refine wpAny_getItem_str_slice (l:=l) (u:=u) (st:=none) hs rfl ?_;exact post_val_or_str ⟨N5 (Txt.slice_le z _ _) hz,fun t' k=>⟨.str _,H,I.tok _,⟨t',rfl⟩,q⟩⟩
theorem adO{w:World}{t sl:Addr}{lo hi:Option Int}{Q:Value->Shared->Prop}(ht:IsTup s.heap t items)(hs:s.heap.IsSliceOf sl vl vu .none)(pl:IsPart vl lo)(pu:IsPart vu hi)(hw:HT.sIx items.size 0 lo=0/\HT.sIx items.size items.size hi=items.size)(h:Q (.ref t) s):wpAny (model prog w) A (getItem (.ref t) (.ref sl)) Q E s:=by
 obtain ⟨os,iS,tW,fM⟩:=id hs;have hTs:s.TypeIs (.ref sl) "slice":=⟨os,iS,tW⟩
 unfold getItem
 try with_reducible refine wpAny_holding ?_
 first | refine wpAny_bind (wpAny_pure ?_) | skip
 refine wpAny_bind (wpAny_sequenceKey ht.typeIs (by decide) ?_);refine wpAny_bind (wpAny_callSpecial?_slot (name:=Str.ofString "__getitem__") ht.typeIs PyProof.Rows.slot_tuple_getitem
  (wpAny_call_entry PyProof.Rows.slot_tuple_getitem ht.typeIs PyProof.Rows.entry_tuple_getitem ?_ (PyProof.Rows.args_tuple_getitem _ _)))
 show wpAny _ _ (Builtin.Tuple.tupleItemsOf (.ref t) >>= _) _ _ s;refine wpAny_bind (PyProof.Rows.tupleItemsOf_ ht ?_);refine wpAny_bind (wpAny_typeOf hTs ?_);rw [if_pos (by decide)];refine wpAny_bind (HT.sliceApplied_gen hs pl pu ?_);have hyes:((((HT.sIx items.size 0 lo:Nat):Int)==0&&(1:Int)==1&&(HT.sIx items.size items.size hi-HT.sIx items.size 0 lo)==items.size)=true):=by
  rw [hw.1,hw.2]
  simp
 show wpAny _ _ (if (((HT.sIx items.size 0 lo:Nat):Int)==0&&(1:Int)==1&&(HT.sIx items.size items.size hi-HT.sIx items.size 0 lo)==items.size)=true then _ else _) _ _ s;rw [if_pos hyes];refine wpAny_bind ?_;show wpAny _ _ (typeOf (.ref t) >>= fun v=>pure (v == .type "tuple")) _ _ s;refine wpAny_bind (wpAny_typeOf ht.typeIs (wpAny_pure ?_));rw [if_pos (by decide)];refine wpAny_bind (wpAny_rule ?_);exact wpAny_pure ⟨_,rfl,wpAny_pure h⟩
noncomputable def rSlW (K:PySem.W.Frag):V->Option Int->Option Int->Hp->VK->Prop:=fun x lo hi H Q=>∃ a xs,x=.ref a/\B1 K H a xs/\(HT.sIx xs.length 0 lo=0/\HT.sIx xs.length xs.length hi=xs.length)/\Q (.ref a) H
theorem aqO:kH X (rSlW X.K):=by
 intro pins s Y H x v vl vu lo hi sl Q I rx hs pl pu h;obtain ⟨a,xs,rfl,hx,hw,q⟩:=h
 cases rx
 obtain ⟨its,r,ht,hz⟩:=I.tuple hx;have A9:its.toArray.size=xs.length:=by rw [K9];exact r.length.symm
 refine ⟨"tuple",_,PyProof.Rows.slot_tuple_getitem.lookup,ht.typeIs,?_⟩;exact adO ht hs pl pu (by rw [A9];exact hw) ⟨.ref a,H,I,rfl,q⟩
noncomputable def rSlR (K:PySem.W.Frag) (a:Addr) (lo hi:Option Int) (H:Hp) (Q:VK):Prop:=rSlL K (.ref a) lo hi H Q\/rSlT K (.ref a) lo hi H Q\/rSlW K (.ref a) lo hi H Q
theorem rSlR.l{lo hi:Option Int}(h1:D8 K H a xs)(h:∀ p,H p=none->Q (.ref p) (A0 H p (.lst (cutV xs lo hi)))):rSlR K a lo hi H Q:=.inl ⟨a,xs,rfl,h1,h⟩
theorem rSlR.t{lo hi:Option Int}(h1:B1 K H a xs)(h2:¬ (HT.sIx xs.length 0 lo=0/\HT.sIx xs.length xs.length hi=xs.length))(h:∀ p,H p=none->Q (.ref p) (A0 H p (.tup (cutV xs lo hi)))):rSlR K a lo hi H Q:=.inr (.inl ⟨a,xs,rfl,h1,h2,h⟩)
theorem rSlR.w{lo hi:Option Int}(h1:B1 K H a xs)(h2:HT.sIx xs.length 0 lo=0/\HT.sIx xs.length xs.length hi=xs.length)(h:Q (.ref a) H):rSlR K a lo hi H Q:=.inr (.inr ⟨a,xs,rfl,h1,h2,h⟩)
noncomputable def rSlU (K:PySem.W.Frag):V->Option Int->Option Int->Hp->VK->Prop
 | .str z,lo,hi,H,Q=>z.length<=sizeLine/\Q (.str (cutS z lo hi)) H
 | .ref a,lo,hi,H,Q=>rSlR K a lo hi H Q
 | _,_,_,_,_=>False
theorem p_sl:kH X (rSlU X.K):=by
 intro pins s Y H x v vl vu lo hi sl Q I rx hs pl pu h
 cases x with
 | str z=>exact aqN pins s Y H _ v vl vu lo hi sl Q I rx hs pl pu ⟨z,rfl,h⟩
 | ref a=>
  rcases h with h | h | h
  .exact anM pins s Y H _ v vl vu lo hi sl Q I rx hs pl pu h
  .exact aqB pins s Y H _ v vl vu lo hi sl Q I rx hs pl pu h
  .exact aqO pins s Y H _ v vl vu lo hi sl Q I rx hs pl pu h
 | _=>exact h.elim
noncomputable def LenR (K:PySem.W.Frag) (H:Hp) (p:Addr) (n:Nat):Prop:=(∃ xs,D8 K H p xs/\n=xs.length)\/(∃ xs,B1 K H p xs/\n=xs.length)\/∃ kvs,Rd H p (.dK kvs)/\n=kvs.length
noncomputable def rLenU (K:PySem.W.Frag):List V->Hp->VK->Prop
 | [.str z],H,Q=>z.length<=sizeLine/\Q (.int z.length) H
 | [.ref p],H,Q=>∃ n:Nat,LenR K H p n/\Q (.int n) H
 | _,_,_=>False
theorem p_len:CallR X (.builtin "len") (rLenU X.K):=by
 intro pins s Y H xs us Q I r h
 match xs,h with
 | [.str z],h=>exact vD pins s Y H _ us Q I r ⟨.str z,z.length,rfl,⟨h.1,rfl⟩,h.2⟩
 | [.ref p],⟨n,l,q⟩=>
  rcases l with ⟨xs,l,rfl⟩ | ⟨xs,l,rfl⟩ | ⟨kvs,l,rfl⟩
  .exact vD pins s Y H _ us Q I r ⟨.ref p,_,rfl,.inl ⟨xs,l,rfl⟩,q⟩
  .exact vD pins s Y H _ us Q I r ⟨.ref p,_,rfl,.inr ⟨xs,l,rfl⟩,q⟩
  .obtain ⟨u,rfl,ru⟩:=vals1 r
   cases ru
   exact d_len I l fun t s' I'=>⟨.int kvs.length,H,I',⟨t,rfl⟩,q⟩
theorem aeQ(hc:X.calm=true):CallR X (.type "list") (fun xs H Q=>∃ d kvs,xs=[.ref d]/\Rd H d (.dK kvs)/\∀ l,H l=none->Q (.ref l) (A0 H l (.lst (kvs.map fun kv=>kV kv.1)))):=by
 intro pins s Y H xs us Q I r h;obtain ⟨d,kvs,rfl,e,q⟩:=h;obtain ⟨u,rfl,rx⟩:=vals1 r
 cases rx
 obtain ⟨z,hd,vs,rel,dd⟩:=dk_rd I.hok e;obtain ⟨ep,V9⟩:=dd.dictAt;have hl:=rel.length;refine PySem.W.kdl_call (PySem.W.kdl_dict (knd:=N4 X.prog X.w) (kvs:=vs) (ep:=ep) hd) (I.ok.hd hc) V9 'a' fun h' tk acc c' kp hD U4=>?_
 have hv:Vals (kvs.map fun kv=>kV kv.1) acc.toList:=by
  have hk:=rel.keys;have A9:acc.toList.length=kvs.length:=by rw [eL,U4.1,hl]
  have key:∀ (ks:List B3) (us:List Value),us.length=ks.length->(∀ (j:Nat) (v:Value),us[j]?=some v->∃ k,ks[j]?=some k/\keyIs k v=true)->Vals (ks.map kV) us:=by
   intro ks
   induction ks with
   | nil=>intro us h1 _;cases us with
    | nil=>exact .nil
    | cons _ _=>simp at h1
   | cons k ks ih=>
    intro us h1 h2
    cases us with
    | nil=>simp at h1
    | cons u us=>
     obtain ⟨k',e1,e2⟩:=h2 0 u rfl;simp at e1;subst e1;refine .cons ?_ (ih us (by simpa using h1) fun j v hj=>by simpa using h2 (j+1) v (by simpa using hj))
     rcases v9 e2 with ⟨i,t,rfl,rfl⟩ | ⟨x,t,rfl,rfl⟩
     .exact ⟨t,rfl⟩
     .exact ⟨t,rfl⟩
  rw [show (kvs.map fun kv=>kV kv.1)=(kvs.map (·.1)).map kV by rw [R3];rfl];refine key _ _ (by rw [A9,A6]) fun j v hj=>?_
  obtain ⟨k,x,hx,hk'⟩:=U4.2 j v (by rw [<- Array.getElem?_toList];exact hj);refine ⟨k,?_,hk'⟩;rw [hk,R6,hx];rfl
 refine ⟨.ref s.heap.objs.size,_,I.laid (t':=tk) kp (C3 _) (show ObjOk X.prog X.w _ h' _ (.lst (kvs.map fun kv=>kV kv.1)) from ⟨by rw [A6];exact z,acc.toList,c',hv,by simpa using hD⟩),rfl,q _ (I.hok.fresh (C3 _))⟩
noncomputable def rListR (K:PySem.W.Frag) (calm:Bool) (p:Addr) (H:Hp) (Q:VK):Prop:=(∃ ys,(D8 K H p ys\/B1 K H p ys)/\∀ l,H l=none->Q (.ref l) (A0 H l (.lst ys)))\/(calm=true/\∃ kvs,Rd H p (.dK kvs)/\∀ l,H l=none->Q (.ref l) (A0 H l (.lst (kvs.map fun kv=>kV kv.1))))
theorem rListR.l(h1:D8 K H p ys\/B1 K H p ys)(h:∀ l,H l=none->Q (.ref l) (A0 H l (.lst ys))):rListR K calm p H Q:=.inl ⟨ys,h1,h⟩
theorem rListR.d(h1:Rd H p (.dK kvs))(h:∀ l,H l=none->Q (.ref l) (A0 H l (.lst (kvs.map fun kv=>kV kv.1)))):rListR K true p H Q:=.inr ⟨rfl,kvs,h1,h⟩
noncomputable def wA (K:PySem.W.Frag) (calm:Bool):List V->Hp->VK->Prop
 | [.ref p],H,Q=>rListR K calm p H Q
 | _,_,_=>False
theorem aqP:CallR X (.type "list") (wA X.K X.calm):=by
 intro pins s Y H xs us Q I r h
 match xs,h with
 | [.ref p],h=>
  rcases h with ⟨ys,h1,h2⟩ | ⟨hc,kvs,h1,h2⟩
  .exact af5 pins s Y H _ us Q I r ⟨p,ys,rfl,h1,h2⟩
  .exact aeQ hc pins s Y H _ us Q I r ⟨p,kvs,rfl,h1,h2⟩
noncomputable def rAllB (calm:Bool):List V->Hp->VK->Prop
 | [.ref p],H,Q=>∃ bs:List Bool,calm=true/\H p=some (.lst (bs.map V.bl))/\Q (.bl (bs.all id)) H
 | _,_,_=>False
noncomputable def tyS (H:Hp):V->Option String
 | .non=>some "NoneType"
 | .bl _=>some "bool"
 | .int _=>some "int"
 | .str _=>some "str"
 | .ref a=>match H a with
  | some (.lst _)=>some "list"
  | some (.frz _ (.lst _))=>some "list"
  | some (.tup _)=>some "tuple"
  | some (.dK _)=>some "dict"
  | _=>none
 | _=>none
noncomputable def isB (T n:String):Bool:=T==n || (T == "bool" && n == "int")
noncomputable def isTys:List String:=["str", "int", "bool", "list", "tuple", "dict"]
noncomputable def rIsi:List V->Hp->VK->Prop
 | [x,.ty n],H,Q=>∃ T,tyS H x=some T/\isTys.contains n=true/\Q (.bl (isB T n)) H
 | _,_,_=>False
noncomputable def rOrd:List V->Hp->VK->Prop
 | [.str z],H,Q=>z.length=1/\Q (.int (z.cps.getD 0 0:Nat)) H
 | _,_,_=>False
noncomputable def kL (x:Str):It:=⟨fun i _=>i<x.cps.size,fun i H v H'=>H'=H/\∃ c,x.cps.toList[i]?=some c/\v=.str ⟨#[c]⟩,fun i _=>x.cps.size<=i⟩
theorem alH{P:Program}{w:World}{ty:String}(Y0:ty="str_ascii_iterator"\/ty="str_iterator")(it:Addr)(x:Str)(t:Tok):Turn P w K tg (kL x) [it] it (fun i h=>h.IsStrIter it ty x t i) where
 mem:=by simp
 obj:=fun i h st b hb=>by
  have e:b=it:=by simpa using hb
  subst e;obtain ⟨o,e,c,d⟩:=st;exact ⟨o,e,fun v z=>by rw [d] at z;cases z⟩
 keep:=fun i h h' st k=>let ⟨o,e,r⟩:=st;⟨o,k it 'c' o e,r⟩
 item:=by
  intro X hP hw hK hc i pins s Y H E I hf st hg;subst hP hw hK;obtain ⟨f0,f1,f2,f3,f4,f5⟩:=hf it 'c';have iW:i<x.cps.size:=hg;have go:∀ h',h'.IsStrIter it ty x t (i+1)->Heap.SameBut it s.heap h'->∃ u,some (Value.str ⟨#[x.cps[i]]⟩ s.toks)=some u/\
    wpAny 'b' X.A (letOwnedTupleGo tg (.ref it) u) (fun _ s2=>∃ y H',Inv X pins Y H' s2/\RelV y u/\(kL x).yld i H y H'/\s2.heap.IsStrIter it ty x t (i+1)/\∀ b∈[it],H' b=none) E { s with heap:=h',toks:=s.toks+1 }:=by
   intro h' st' sb;have I1:Inv X pins Y H { s with heap:=h',toks:=s.toks+1 }:=I.turned (t':=s.toks+1) (fun b o hb e=>(sb.2 b hb).trans e) f0 f1 f3 f4 f5;obtain ⟨o,e,c,d⟩:=id st';refine ⟨_,rfl,go_of (s:={ s with heap:=h',toks:=s.toks+1 }) e c d (by rcases Y0 with rfl | rfl <;> decide) ⟨.str ⟨#[x.cps[i]]⟩,H,I1,⟨_,rfl⟩,⟨rfl,x.cps[i],?_,rfl⟩,st',fun b hb=>(hf b hb).1⟩⟩;simp [iW]
  rcases Y0 with rfl | rfl
  .exact wpAny_pyNext_ascii_item st (c:=x.cps[i]) (by simp [iW]) go
  .exact wpAny_pyNext_wide_item st (c:=x.cps[i]) (by simp [iW]) go
 done:=by
  intro X hP hw hK hc i pins s Y H E I hf st hg;subst hP hw hK;obtain ⟨f0,f1,f2,f3,f4,f5⟩:=hf it 'c';have iW:x.cps.size<=i:=hg;have fin:∀ h',Heap.ExtBut it s.heap h'->(none:Option Value)=none/\Inv X pins Y H { s with heap:=h' }:=fun h' eb=>⟨rfl,I.turned (t':=s.toks) (fun b o hb e=>eb b o hb e) f0 f1 f3 f4 f5⟩
  rcases Y0 with rfl | rfl
  .exact wpAny_pyNext_ascii_end (I.ok.hd hc) st (by simp [iW]) fin
  .exact wpAny_pyNext_wide_end (I.ok.hd hc) st (by simp [iW]) fin
 self:=fun A i s Q E st h=>by
  rcases Y0 with rfl | rfl
  .exact wpAny_pyIter_striter_ascii st h
  .exact wpAny_pyIter_striter_wide st h
noncomputable def iStr (tl:TE):TI:=fun Y H R=>tl Y H fun x H1=>∃ z,x=.str z/\R (kL z) H1
variable {tg:Expr}
theorem aqQ{l:Expr}(hl:PE X l tl):PI X tg l (iStr tl):=by
 intro pins s Y H R I h;refine A8 (hl pins s Y H _ I h) fun v s1 ⟨x,H1,I1,r1,q1⟩=>?_
 obtain ⟨z,rfl,q⟩:=q1;obtain ⟨t,rfl⟩:=r1;have fin:∀ (ty:String) (Y0:ty="str_ascii_iterator"\/ty="str_iterator"),vA X pins Y tg R (.ref s1.heap.objs.size) { s1 with heap:=s1.heap.push { cls:=.type ty,data:=.fields #[.str z t,.int 0 0] } }:=fun ty Y0=>by
  refine ⟨s1.heap.objs.size,[s1.heap.objs.size],_,_,H1,rfl,I1.kept (t':=s1.toks) fun b o e=>Heap.get?_push_of_some _ e,alH Y0 s1.heap.objs.size z t,⟨_,Heap.get?_push_size _ rfl,rfl,rfl⟩,fun b hb=>?_,q⟩;have e:b=s1.heap.objs.size:=by simpa using hb
  subst e;exact I1.fpOk (C3 _) (I1.hok.fresh (C3 _))
 cases ha:z.cps.all (· < 128)
 .exact wpAny_pyIter_wide ha (fin _ (.inr rfl))
 .exact wpAny_pyIter_ascii ha (fin _ (.inl rfl))
end
noncomputable def L5:Expr->Bool
 | .Starred _ _=>true
 | _=>false
noncomputable def Z1 (es:List Expr):Bool:=es.all fun e=>!L5 e
theorem O7{es:List Expr}{env:Env}(h:L5 e=false):starEach (e::es) env=(false,eval e env)::starEach es env:=by
 cases e <;> first | rfl | cases h
theorem gT{pos:Pos}{env:Env} : ∀ {es:List Expr},Z1 es=true->(backTo pos (starEach es env)).any (·.1)=false
 | [],_=>rfl
 | e::es,h=>by
  have h':(!L5 e&&Z1 es)=true:=h;rw [f8] at h';rw [O7 (by simpa using h'.1)];have ih:=gT (pos:=pos) (env:=env) h'.2;unfold backTo at ih ⊢
  rw [G0,aO,ih];rfl
theorem ahP{pos:Pos}{env:Env} : ∀ {es:List Expr},Z1 es=true->(backTo pos (starEach es env)).all (fun x=>!x.1)=true
 | [],_=>rfl
 | e::es,h=>by
  have h':(!L5 e&&Z1 es)=true:=h;rw [f8] at h';rw [O7 (by simpa using h'.1)];have ih:=ahP (pos:=pos) (env:=env) h'.2;unfold backTo at ih ⊢
  rw [G0,List.all_cons,ih];rfl
section
variable {X:Cx} {e:Expr} {es:List Expr} {te:TE} {t:TA} {x:Str} {p pos:Pos} {id T:String} {r:List V->Hp->VK->Prop}
theorem pa_c(ha:PE X e te)(hr:PA X es t)(h:L5 e=false:=by rfl):PA X (e::es) (tCons te t):=anE ha hr (O7 h)
theorem pe_cB(hc:CallR X (.builtin id) r)(hg:Gl X x)(hm:X.mg x=none)(hv:bootBuiltins x=some (.builtin id))(ha:PA X (e::es) t)(h1:L5 e=false:=by rfl)(h2:Z1 es=true:=by rfl)(hn:x≠"__name__":=by decide)(U0:(x==("__debug__" : Str))=false:=by decide) :
  PE X (.Call (.Name x p) (e::es) [] pos) (gO r t):=alu hc hg hm hv ha hn U0 (O7 h1) (gT h2)
theorem pe_cT(hc:CallR X (.type T) r)(hg:Gl X x)(hm:X.mg x=none)(hv:bootBuiltins x=some (.type T))(ha:PA X (e::es) t)(h1:L5 e=false:=by rfl)(h2:Z1 es=true:=by rfl)(hn:x≠"__name__":=by decide)(U0:(x==("__debug__" : Str))=false:=by decide) :
  PE X (.Call (.Name x p) (e::es) [] pos) (gO r t):=ajB hc hg hm hv ha hn U0 (O7 h1) (gT h2)
variable {o:Expr} {to:TE} {name:Str} {apos cpos:Pos} {rm:V->List V->Hp->VK->Prop}
theorem pe_mB(pa:PlainAttrs T)(slot:Slot T name id)(Y0:typeOf (.builtin id)=pure (.type "method_descriptor"))(hm:rE X id rm)(ho:PE X o to)(ha:PA X (e::es) t)(h1:L5 e=false:=by rfl)(h2:Z1 es=true:=by rfl)(h3:decide ((e::es).length<30)=true:=by rfl)(G2:attributeBase o name X.env (eval o X.env)=eval o X.env:=by rfl)(G3:(apos.endLine==cpos.line)=true:=by rfl):PE X (.Call (.Attribute o name apos) (e::es) [] cpos) (rF X.K T rm to t):=
 pe_bm pa slot Y0 hm ho ha G2 (by
  rw [ahP (show Z1 (e::es)=true by show (!L5 e&&Z1 es)=true;rw [h1,h2];rfl)];have h3':(e::es).length<30:=of_decide_eq_true h3;simp only [List.isEmpty_nil,if_true,Z6,Nat.add_zero,Bool.true_and];rw [decide_eq_true h3'];rfl) G3 (O7 h1) (gT h2)
variable {tg a b:Expr} {ta:TA}
theorem pi_r1(hg:Gl X "range")(hm:X.mg "range"=none)(ha:PA X [a] ta)(h1:L5 a=false:=by rfl):PI X tg (.Call (.Name "range" p) [a] [] pos) (iRng1 ta):=ajn hg hm ha (by rw [O7 h1];rfl)
theorem pi_r2(hg:Gl X "range")(hm:X.mg "range"=none)(ha:PA X [a,b] ta)(h1:L5 a=false:=by rfl)(h2:L5 b=false:=by rfl):PI X tg (.Call (.Name "range" p) [a,b] [] pos) (iRng2 ta):=ajo hg hm ha (by rw [O7 h1,O7 h2];rfl) (by rw [O7 h2];rfl)
end
noncomputable def FO (P:Program) (w:World) (K:PySem.W.Frag) (mg:Str->Option Value) (base:Heap) (k:Nat) (x:Str) (ps:List Str) (dvs:List V) (sp:Sp):Prop:=
 ∃ f fd,FnOk P w K mg base E1 k f fd ps sp/\mg x=some (.ref f)/\W4 K (.ref f)=true/\∃ ds,Binds K fd ps ds/\Vals dvs ds
structure FunD(K:PySem.W.Frag)(x qual:Str)(st:Stmt)(f:Addr)(fd:FuncData):Prop where
 ex:∃ (oc:Value) (od:Option Addr) (dV kV doc pm:Value) (an:Option Addr) (cdv ct:Value) (osl:Array (Option Value)),
  fd=U6 x qual (W5 st) (V1 st) (C1 st) dV kV doc pm an cdv ct/\K.lookup f=some ⟨oc,od,.func fd,osl⟩/\Y9 K cdv qual=true
section
variable {P:Program} {w:World} {K:PySem.W.Frag} {mg:Str->Option Value} {base:Heap}
theorem FunD.ok{x:Str}(F:FunD K x qual st f fd)(S:FnScope N ps (C1 st))(len:∀ vs H Q E,sp vs H Q E->vs.length=ps.length)(z8:∀ (cdv:Value) (A:Around) (outer:List Env) (s:Shared) (H:Hp) (vs:List V) (Q:VK) (E:XK),Room k (A.deeper (envOfC qual (C1 st) s.heap.objs.size f cdv))->sp vs H Q E->
   ∃ t,Z9 (cxOf E1 P w K mg base N qual (C1 st) f cdv A outer s H E).nox (V1 st) t/\t { nx:=fun _ H'=>Q .non H',rt:=Q } (start N vs) H):FnOk P w K mg base E1 (k+1) f fd ps sp:=by
 obtain ⟨oc,od,dV,kV,doc,pm,an,cdv,ct,osl,rfl,lk,u8⟩:=F.ex;refine fn_of lk u8 S len fun A outer s H vs Q E hr fL=>?_
 obtain ⟨t,h,q⟩:=z8 cdv A outer s H vs Q E hr fL;exact ⟨t,h.nox,q⟩
theorem x3{x:Str}{osl:Array (Option Value)}{dV kV doc cdv:Value}(l:K.lookup f=some ⟨oc,od,.func (U6 x qual (W5 st) (V1 st) (C1 st) dV kV doc pm an cdv ct),osl⟩)(c:Y9 K cdv qual=true):FunD K x qual st f (U6 x qual (W5 st) (V1 st) (C1 st) dV kV doc pm an cdv ct):=⟨oc,od,dV,kV,doc,pm,an,cdv,ct,osl,rfl,l,c⟩
end
section
variable {X:Cx} {k:Nat} {ps:List Str} {sp:Sp} {dvs:List V} {x:Str} {p pos:Pos} {e:Expr} {es:List Expr} {t:TA}
theorem alI(G:FO X.prog X.w X.K X.mg X.base k x ps dvs sp)(hr:Room k X.A)(ha:PA X (e::es) t)(hg:Gl X x:=by rfl)(h1:L5 e=false:=by rfl)(h2:Z1 es=true:=by rfl)(U0:(x==("__debug__" : Str))=false:=by decide):PE X (.Call (.Name x p) (e::es) [] pos) (tCall sp dvs E0 t):=by
 obtain ⟨f,fd,F,hm,hk,ds,hb,hd⟩:=G;exact anF F hr hg hm hk hb hd pass0 ha U0 (O7 h1) (gT h2)
theorem alJ{i:Int}(h:∃ t,X.mg x=some (.int i t))(hg:Gl X x:=by rfl)(hd:(x==("__debug__" : Str))=false:=by decide):PE X (.Name x p) (tC (.int i)):=by
 obtain ⟨t,h⟩:=h;exact ajk hg h ⟨t,rfl⟩ hd
theorem alK(h:X.mg x=some (.ref a))(hg:Gl X x:=by rfl)(hd:(x==("__debug__" : Str))=false:=by decide):PE X (.Name x p) (tC (.ref a)):=ajk hg h rfl hd
end
section
variable {Y:St} {H:Hp} {Q:VK} {B:Bool->Hp->Prop} {ta tb tc te:TE} {t u:TS} {tt uu:TT} {D:Ends} {i:Nat} {v:V} {r r':R2} {K:PySem.W.Frag} {taa:TA} {R:List V->Hp->Prop} {g:TG}
theorem amR:tVar i Y H Q=∃ v,(Y[i]?).join=some v/\Q v H:=by
 unfold tVar;refine propext ⟨fun ⟨v,h,q⟩=>⟨v,by rw [h];rfl,q⟩,fun ⟨v,h,q⟩=>⟨v,?_,q⟩⟩;cases e:Y[i]? with
 | none=>rw [e] at h;cases h
 | some o=>rw [e] at h;exact congrArg some h
theorem ap_c:tC v Y H Q=Q v H:=rfl
theorem ap_op:cI r ta tb Y H Q=ta Y H fun x H1=>tb Y H1 fun y H2=>r x y H2 Q:=rfl
theorem ap_un{ru:V->Hp->VK->Prop} : vB ru ta Y H Q=ta Y H fun x H1=>ru x H1 Q:=rfl
theorem ap_rU{f:Int->V} : rU f x H Q=∃ i,x=.int i/\Q (f i) H:=rfl
theorem anV:tTest ta Y H B=ta Y H fun x H'=>∃ k,x=.bl k/\B k H':=rfl
theorem ap_tB:tB ta Y H B=ta Y H fun x H'=>∃ k,x=.bl k/\B k H':=rfl
theorem anW:tTru K ta Y H B=ta Y H fun x H'=>∃ k,TruV K x H' k/\B k H':=rfl
theorem anX:tNotT K ta Y H Q=ta Y H fun x H'=>∃ k,TruV K x H' k/\Q (.bl (!k)) H':=rfl
theorem alL:nK r r' ta tb tc Y H Q=ta Y H fun x H1=>tb Y H1 fun y H2=>r x y H2 fun z H3=>∃ k,z=.bl k/\(if k=true then tc Y H3 fun w' H4=>r' y w' H4 Q else Q (.bl false) H3):=rfl
theorem aqR:tAnd tt uu Y H B=tt Y H fun c H1=>if c=true then uu Y H1 B else B false H1:=rfl
theorem ap_or:uV tt uu Y H B=tt Y H fun c H1=>if c=true then B true H1 else uu Y H1 B:=rfl
theorem aqS:tNot tt Y H B=tt Y H fun c H1=>B (!c) H1:=rfl
theorem anY:tAndV ta tb Y H Q=ta Y H fun x H1=>∃ c,x=.bl c/\if c=true then tb Y H1 Q else Q (.bl false) H1:=rfl
theorem aqT:tOrV ta tb Y H Q=ta Y H fun x H1=>∃ c,x=.bl c/\if c=true then Q (.bl true) H1 else tb Y H1 Q:=rfl
theorem anZ:tNotV ta Y H Q=ta Y H fun x H1=>∃ c,x=.bl c/\Q (.bl (!c)) H1:=rfl
theorem ap_if:uW tt ta tb Y H Q=tt Y H fun c H1=>if c=true then ta Y H1 Q else tb Y H1 Q:=rfl
theorem an0:tNext D Y H=D.nx Y H:=rfl
theorem aqU:tSeq t u D Y H=t { D with nx:=u D } Y H:=rfl
theorem alM:aqc D Y H=D.bk Y H:=rfl
theorem an1:tCont D Y H=D.ct Y H:=rfl
theorem an2:tDrop te D Y H=te Y H fun _ H1=>D.nx Y H1:=rfl
theorem aqV:tRet te D Y H=te Y H D.rt:=rfl
theorem an3:tRetN D Y H=D.rt .non H:=rfl
theorem aqW:tIfS tt t u D Y H=tt Y H fun b H1=>if b=true then t D Y H1 else u D Y H1:=rfl
theorem alN:uX D Y H=False:=rfl
theorem an4{Z:St->Hp->Prop} : gName i v Y H Z=Z (Y.set i (some v)) H:=rfl
theorem an5{Z:St->Hp->Prop} : gNil vs Y H Z=(vs=[]/\Z Y H):=rfl
theorem alO{us:q0}{Z:St->Hp->Prop} : gCons g us vs Y H Z=∃ v r,vs=v::r/\g v Y H fun σ' H'=>us r σ' H' Z:=rfl
theorem an6{us:q0}{Z:St->Hp->Prop} : gTup K n us v Y H Z=∃ a xs,v=.ref a/\B1 K H a xs/\xs.length=n/\us xs Y H Z:=rfl
theorem an7{ts:TSet}{Z:St->Hp->Prop} : gSub ta tb ts v Y H Z=ta Y H fun o H1=>tb Y H1 fun i H2=>ts o i v H2 fun H3=>Z Y H3:=rfl
theorem aqX:tAsg te g D Y H=te Y H fun x H1=>g x Y H1 D.nx:=rfl
theorem aqY{ti:gM} : tAug i te ti D Y H=∃ x,(Y[i]?).join=some x/\te Y H fun y H1=>ti x y H1 fun z H2=>D.nx (Y.set i (some z)) H2:=amR (Q:=fun x H=>te Y H fun y H1=>ti x y H1 fun z H2=>D.nx (Y.set i (some z)) H2)
theorem aqZ{f:Int->Int->Int} : uZ f x y H Q=∃ i j,x=.int i/\y=.int j/\Q (.int (f i j)) H:=rfl
theorem an8:tCons te taa Y H R=te Y H fun x H1=>taa Y H1 fun xs H2=>R (x::xs) H2:=rfl
theorem aq0:tNil Y H R=R [] H:=rfl
theorem an9{E:XK} : tCall sp dvs E taa Y H Q=taa Y H fun vs H1=>sp (vs++dvs) H1 Q E:=rfl
theorem ap_cb{rc:List V->Hp->VK->Prop} : gO rc taa Y H Q=taa Y H fun vs H1=>rc vs H1 Q:=rfl
theorem aq1:tTup taa Y H Q=taa Y H fun xs H1=>xs.length<=sizeLine/\∀ p,H1 p=none->Q (.ref p) (A0 H1 p (.tup xs)):=rfl
theorem aq2:tLst taa Y H Q=taa Y H fun xs H1=>xs.length<=sizeLine/\∀ p,H1 p=none->Q (.ref p) (A0 H1 p (.lst xs)):=rfl
theorem ap_sl{rs:V->Option Int->Option Int->Hp->VK->Prop}{tl th:TO} : vK rs te tl th Y H Q=te Y H fun x H1=>tl Y H1 fun l H2=>th Y H2 fun u H3=>rs x l u H3 Q:=rfl
theorem ajP{O:Option Int->Hp->Prop} : vJ Y H O=O none H:=rfl
theorem aoa{O:Option Int->Hp->Prop} : tPart te Y H O=te Y H fun x H1=>∃ i,x=.int i/\O (some i) H1:=rfl
theorem ap_bm{T:String}{rm:V->List V->Hp->VK->Prop} : rF K T rm te taa Y H Q=te Y H fun x H1=>eQ K T x H1/\taa Y H1 fun xs H2=>rm x xs H2 Q:=rfl
theorem aq3{T:String}{rm:V->List V->Hp->VK->Prop} : tBM0 K T rm te Y H Q=te Y H fun x H1=>eQ K T x H1/\rm x [] H1 Q:=rfl
theorem aq4:tYes Y H B=B true H:=rfl
theorem aob:vT Y H Q=∀ p,H p=none->Q (.ref p) (A0 H p (.dK [])):=rfl
theorem aoc:tDGet ta tb Y H Q=ta Y H fun x H1=>tb Y H1 fun y H2=>∃ a v,x=.ref a/\DGet H2 a y (some v)/\Q v H2:=rfl
theorem aod:sDPut ta tb tc D Y H=tc Y H fun v H1=>ta Y H1 fun x H2=>tb Y H2 fun y H3=>∃ a H4,x=.ref a/\DPut H3 a y v H4/\D.nx Y H4:=rfl
theorem aoe{rd:V->V->Hp->VK->Prop} : sDAug ta tb tc rd D Y H=ta Y H fun x H1=>tb Y H1 fun y H2=>∃ a v,x=.ref a/\DGet H2 a y (some v)/\tc Y H2 fun y2 H3=>rd v y2 H3 fun z H4=>∃ H5,DPut H4 a y z H5/\D.nx Y H5:=rfl
theorem aof : aV (fun i j=>V.int (i-j)) x y H Q=∃ i j,x=.int i/\y=.int j/\Q (.int (i-j)) H:=rfl
theorem alP : rI CDiv (fun i j=>V.int (i / j)) x y H Q=∃ i j,x=.int i/\y=.int j/\(0<j/\j<1073741824)/\Q (.int (i / j)) H:=rfl
theorem aog : rI (fun _ j=>0<j) (fun i j=>V.int (i % j)) x y H Q=∃ i j,x=.int i/\y=.int j/\0<j/\Q (.int (i % j)) H:=rfl
theorem aoh : eQ K "str" (.str z) H=True:=by simp [eQ]
noncomputable def ForIt (J:It) (g:TG) (tb:TS) (D:Ends) (Y:St) (H1:Hp):Prop:=∃ W:Nat->Nat->St->Hp->Prop,(∃ m,W 0 m Y H1)/\∀ i m Y H,W i m Y H->
 (J.stop i H/\D.nx Y H)\/(J.go i H/\∃ N:St->Hp->Prop,(∀ σ' H',N σ' H'->∃ m',m'<m/\W (i+1) m' σ' H')/\∀ x H',J.yld i H x H'->g x Y H' fun σ2 H2=>tb { D with nx:=N,ct:=N,bk:=D.nx } σ2 H2)
theorem aq5{wi:TI}{tbs:TS} : tFor wi g tbs D Y H=wi Y H fun J H1=>ForIt J g tbs D Y H1:=rfl
theorem alQ{Z:It->Hp->Prop} : iList K te Y H Z=te Y H fun x H1=>∃ a,x=.ref a/\(∃ xs,D8 K H1 a xs)/\Z (aU K a) H1:=rfl
theorem aoi{Z:It->Hp->Prop} : iTup K te Y H Z=te Y H fun x H1=>∃ a,x=.ref a/\(∃ xs,B1 K H1 a xs)/\Z (eN K a) H1:=rfl
theorem aoj{Z:It->Hp->Prop} : iStr te Y H Z=te Y H fun x H1=>∃ z,x=.str z/\Z (kL z) H1:=rfl
theorem alR{Z:It->Hp->Prop} : iRng1 taa Y H Z=taa Y H fun vs H1=>∃ j:Int,vs=[.int j]/\-(2 ^ 62)<=j/\j<2 ^ 62/\Z (q9 0 j.toNat) H1:=rfl
theorem alS{Z:It->Hp->Prop} : iRng2 taa Y H Z=taa Y H fun vs H1=>∃ i j:Int,vs=[.int i,.int j]/\(-(2 ^ 62)<=i/\i<2 ^ 62/\-(2 ^ 62)<=j/\j<2 ^ 62)/\Z (q9 i (j-i).toNat) H1:=rfl
noncomputable def eR (J:It) (k:Nat) (ixs:List Nat) (g:TG) (c:TT) (te:TE) (Y:St) (Q:VK) (H1:Hp):Prop:=∀ D,H1 D=none->
 ∃ (n:Nat) (W:Nat->List V->St->Hp->Prop),W 0 [] (compStart k ixs Y) (A0 H1 D (.lst []))/\∀ i ys σ2 H2,W i ys σ2 H2->H2 D=some (.lst ys)->
  (J.stop i H2/\Q (.ref D) H2)\/
  (i<n/\J.go i H2/\∀ x H',J.yld i H2 x H'->g x σ2 H' fun σ3 H3=>c σ3 H3 fun b H4=>
   if b=true then te σ3 H4 fun y H5=>H5 D=some (.lst ys)/\ys.length<sizeLine/\W (i+1) (ys++[y]) σ3 (A0 H5 D (.lst (ys++[y])))
   else H4 D=some (.lst ys)/\W (i+1) ys σ3 H4)
theorem aok{wi:TI} : tComp wi k ixs g tt te Y H Q=wi Y H fun J H1=>eR J k ixs g tt te Y Q H1:=rfl
end
theorem aol{b k:Bool} : TruV K (.bl b) H k=(k=b):=rfl
theorem alT{i:Int}{k:Bool} : TruV K (.int i) H k=(k=(i != 0)):=rfl
theorem alU{k:Bool} : TruV K (.str z) H k=(z.length<=sizeLine/\k=((z.length:Int) != 0)):=rfl
theorem alV{k:Bool} : TruV K .non H k=(k=false):=rfl
theorem alW : start N vs=vs.map some++Y8 (N.length-vs.length) none:=rfl
theorem agc : compStart k ixs Y=Y8 k none++ixs.map fun i=>(Y[i]?).join:=rfl
theorem aom{i:Int} : kI K (.str z) (.int i) H Q=∃ c,z.length<=sizeLine/\F8 z.cps.toList i=some c/\Q (.str ⟨#[c]⟩) H:=by
 simp only [kI,rIxL,rIxT,rIxS];refine propext ⟨fun h=>?_,fun ⟨c,h⟩=>.inr (.inr ⟨z,i,c,rfl,rfl,h⟩)⟩
 rcases h with ⟨p,xs,j,v,e,_⟩ | ⟨p,xs,j,v,e,_⟩ | ⟨z',i',c,e1,e2,h⟩
 .cases e
 .cases e
 .cases e1;cases e2;exact ⟨c,h⟩
theorem aon{i:Int} : kI K (.ref p) (.int i) H Q=∃ xs v,(D8 K H p xs\/B1 K H p xs)/\F8 xs i=some v/\Q v H:=by
 simp only [kI,rIxL,rIxT,rIxS];refine propext ⟨fun h=>?_,fun ⟨xs,v,h,r⟩=>?_⟩
 .rcases h with ⟨p',xs,j,v,e1,e2,h1,h2⟩ | ⟨p',xs,j,v,e1,e2,h1,h2⟩ | ⟨z',i',c,e1,e2,h⟩
  .cases e1;cases e2;exact ⟨xs,v,.inl h1,h2⟩
  .cases e1;cases e2;exact ⟨xs,v,.inr h1,h2⟩
  .cases e1
 .rcases h with h | h
  .exact .inl ⟨p,xs,i,v,rfl,rfl,h,r⟩
  .exact .inr (.inl ⟨p,xs,i,v,rfl,rfl,h,r⟩)
theorem wB{α:Type}{xs:List α}{i:Int}(h0:0<=i)(h1:i<xs.length):∃ v,F8 xs i=some v/\v∈xs:=by
 have C5:i.toNat<xs.length:=by lia
 refine ⟨xs[i.toNat],?_,cC C5⟩;unfold F8 X4;rw [if_pos h0,if_pos h1];simp [C5]
theorem W6:bootBuiltins "len"=some (.builtin "len"):=by decide +kernel
theorem amS:bootBuiltins "any"=some (.builtin "any"):=by decide +kernel
theorem amT:bootBuiltins "min"=some (.builtin "min"):=by decide +kernel
theorem kM:bootBuiltins "list"=some (.type "list"):=by decide +kernel
theorem nR:bootBuiltins "tuple"=some (.type "tuple"):=by decide +kernel
theorem ajR:bootBuiltins "dict"=some (.type "dict"):=by decide +kernel
theorem amU:bootBuiltins "int"=some (.type "int"):=by decide +kernel
section
variable {K:PySem.W.Frag} {H:Hp} {Q:VK} {i j:Int} {x y:Str} {u v:V} {b c:Bool} {p q:Addr} {lo hi:Option Int} {cm:Bool}
theorem ad_ii:rAddU K (.int i) (.int j) H Q=Q (.int (i+j)) H:=rfl
theorem ad_ss:rAddU K (.str x) (.str y) H Q=(x.length+y.length<=sizeLine/\Q (.str (x++y)) H):=rfl
theorem ad_rr:rAddU K (.ref p) (.ref q) H Q=rAddR K p q H Q:=rfl
theorem mu_ii:rMulU (.int i) (.int j) H Q=(CMul i j/\Q (.int (i*j)) H):=rfl
theorem mu_ri:rMulU (.ref p) (.int j) H Q=rRep (.ref p) (.int j) H Q:=rfl
theorem eq_ii:rEqU K (.int i) (.int j) H Q=Q (.bl (decide (i=j))) H:=rfl
theorem eq_ss:rEqU K (.str x) (.str y) H Q=Q (.bl (decide (x=y))) H:=rfl
theorem eq_bb:rEqU K (.bl b) (.bl c) H Q=Q (.bl (decide (b=c))) H:=rfl
theorem eq_rx:rEqU K (.ref p) v H Q=∃ d e,Dn K H (.ref p) d/\Dn K H v e/\min d.depth e.depth<=60/\Q (.bl (V0 d e)) H:=by cases v <;> rfl
theorem eq_xr:rEqU K v (.ref p) H Q=∃ d e,Dn K H v d/\Dn K H (.ref p) e/\min d.depth e.depth<=60/\Q (.bl (V0 d e)) H:=by cases v <;> rfl
theorem ne_ii:rNeU K (.int i) (.int j) H Q=Q (.bl (!decide (i=j))) H:=rfl
theorem ne_ss:rNeU K (.str x) (.str y) H Q=Q (.bl (!decide (x=y))) H:=rfl
theorem ne_bb:rNeU K (.bl b) (.bl c) H Q=Q (.bl (!decide (b=c))) H:=rfl
theorem ne_rx:rNeU K (.ref p) v H Q=∃ d e,Dn K H (.ref p) d/\Dn K H v e/\min d.depth e.depth<=60/\Q (.bl (!PyData.eqv d e)) H:=by cases v <;> rfl
theorem ne_xr:rNeU K v (.ref p) H Q=∃ d e,Dn K H v d/\Dn K H (.ref p) e/\min d.depth e.depth<=60/\Q (.bl (!PyData.eqv d e)) H:=by cases v <;> rfl
theorem lt_ii:rLtU (.int i) (.int j) H Q=Q (.bl (decide (i<j))) H:=rfl
theorem lt_ss:rLtU (.str x) (.str y) H Q=Q (.bl (decide (x.cps.toList<y.cps.toList))) H:=rfl
theorem le_ii:rLeU (.int i) (.int j) H Q=Q (.bl (decide (i<=j))) H:=rfl
theorem le_ss:rLeU (.str x) (.str y) H Q=Q (.bl (!decide (y.cps.toList<x.cps.toList))) H:=rfl
theorem gt_ii:rGtU (.int i) (.int j) H Q=Q (.bl (decide (j<i))) H:=rfl
theorem gt_ss:rGtU (.str x) (.str y) H Q=Q (.bl (decide (y.cps.toList<x.cps.toList))) H:=rfl
theorem ge_ii:rGeU (.int i) (.int j) H Q=Q (.bl (decide (j<=i))) H:=rfl
theorem ge_ss:rGeU (.str x) (.str y) H Q=Q (.bl (!decide (x.cps.toList<y.cps.toList))) H:=rfl
theorem in_xs:rInU K b u (.str x) H Q=∃ i,u=.str i/\Q (.bl (b.xor (!(Builtin.Str.occurrences x i 0 x.length 1).isEmpty))) H:=rfl
theorem in_xr:rInU K b u (.ref p) H Q=rInR K b u p H Q:=rfl
theorem sl_s:rSlU K (.str x) lo hi H Q=(x.length<=sizeLine/\Q (.str (cutS x lo hi)) H):=rfl
theorem sl_r:rSlU K (.ref p) lo hi H Q=rSlR K p lo hi H Q:=rfl
theorem len_s:rLenU K [.str x] H Q=(x.length<=sizeLine/\Q (.int x.length) H):=rfl
theorem len_r:rLenU K [.ref p] H Q=∃ n:Nat,LenR K H p n/\Q (.int n) H:=rfl
theorem aq6:wA K cm [.ref p] H Q=rListR K cm p H Q:=rfl
theorem all_r:rAllB cm [.ref p] H Q=∃ bs:List Bool,cm=true/\H p=some (.lst (bs.map V.bl))/\Q (.bl (bs.all id)) H:=rfl
theorem isi_t{n:String} : rIsi [u,.ty n] H Q=∃ T,tyS H u=some T/\isTys.contains n=true/\Q (.bl (isB T n)) H:=rfl
theorem ord_s:rOrd [.str x] H Q=(x.length=1/\Q (.int (x.cps.getD 0 0:Nat)) H):=rfl
end
theorem forL(Pv:Nat->St->Hp->Prop)(h0:Pv 0 Y H)(hl:∀ i Y H,i<=xs.length->Pv i Y H->D8 K H a xs)(hs:∀ i x Y H,xs[i]?=some x->Pv i Y H->g x Y H fun σ2 H2=>tb { D with nx:=Pv (i+1),ct:=Pv (i+1),bk:=D.nx } σ2 H2)(hd:∀ Y H,Pv xs.length Y H->D.nx Y H):ForIt (aU K a) g tb D Y H:=alm Pv h0 hl hs hd
theorem forT(Pv:Nat->St->Hp->Prop)(h0:Pv 0 Y H)(hl:∀ i Y H,i<=xs.length->Pv i Y H->B1 K H a xs)(hs:∀ i x Y H,xs[i]?=some x->Pv i Y H->g x Y H fun σ2 H2=>tb { D with nx:=Pv (i+1),ct:=Pv (i+1),bk:=D.nx } σ2 H2)(hd:∀ Y H,Pv xs.length Y H->D.nx Y H):ForIt (eN K a) g tb D Y H:=anv Pv h0 hl hs hd
theorem forR(Pv:Nat->St->Hp->Prop)(h0:Pv 0 Y H)(hs:∀ i Y H,i<n->Pv i Y H->g (.int (lo+i)) Y H fun σ2 H2=>tb { D with nx:=Pv (i+1),ct:=Pv (i+1),bk:=D.nx } σ2 H2)(hd:∀ Y H,Pv n Y H->D.nx Y H):ForIt (q9 lo n) g tb D Y H:=ajq Pv h0 hs hd
noncomputable def CW (n:Nat) (fr:St) (Pv:Nat->List V->Hp->Prop) (i:Nat) (ys:List V) (σ2:St) (H2:Hp):Prop:=i<=n/\ys.length<=i/\(∃ v,σ2=v::fr)/\Pv i ys H2
theorem CW.put{fr:St}{Pv:Nat->List V->Hp->Prop}{o:Option V}(hi:i<n)(hy:ys.length<=i)(p:Pv (i+1) (ys++[y]) H):CW n fr Pv (i+1) (ys++[y]) (o::fr) H:=
 ⟨hi,by rw [D6,X2];lia,⟨_,rfl⟩,p⟩
theorem wC{fr:St}{Pv:Nat->List V->Hp->Prop}{o:Option V}(hi:i<n)(hy:ys.length<=i)(p:Pv (i+1) ys H):CW n fr Pv (i+1) ys (o::fr) H:=⟨hi,Nat.le_succ_of_le hy,⟨_,rfl⟩,p⟩
theorem compL{c:TT}(fr:St)(o3:compStart 1 ixs Y=none::fr)(Pv:Addr->Nat->List V->Hp->Prop)(h0:∀ D,H1 D=none->Pv D 0 [] (A0 H1 D (.lst [])))(hl:∀ D i ys H,H1 D=none->i<=xs.length->Pv D i ys H->D8 K H a xs)(hs:∀ D i x ys H,H1 D=none->i<xs.length->xs[i]?=some x->Pv D i ys H->H D=some (.lst ys)->ys.length<=i->c (some x::fr) H fun b H4=>
   if b=true then te (some x::fr) H4 fun y H5=>H5 D=some (.lst ys)/\ys.length<sizeLine/\CW xs.length fr (Pv D) (i+1) (ys++[y]) (some x::fr) (A0 H5 D (.lst (ys++[y])))
   else H4 D=some (.lst ys)/\CW xs.length fr (Pv D) (i+1) ys (some x::fr) H4)(hd:∀ D ys H,H1 D=none->Pv D xs.length ys H->H D=some (.lst ys)->ys.length<=xs.length->Q (.ref D) H):eR (aU K a) 1 ixs (gName 0) c te Y Q H1:=by
 intro D hD;refine ⟨xs.length,CW xs.length fr (Pv D),⟨G4 _,G4 _,⟨none,o3⟩,h0 D hD⟩,?_⟩;rintro i ys σ2 H2 ⟨hi,hy,⟨v,rfl⟩,p⟩ hDy;have q:=hl D i ys H2 hD hi p
 by_cases C5:i<xs.length
 .refine .inr ⟨C5,⟨xs,xs[i],q,by simp [C5]⟩,fun x H' y=>?_⟩;obtain ⟨e,y⟩:=y;subst e;exact hs D i x ys _ hD C5 (y xs q) p hDy hy
 .have e:i=xs.length:=by lia
  subst e;exact .inl ⟨⟨xs,q,C3 _⟩,hd D ys H2 hD p hDy hy⟩
theorem compT{c:TT}(fr:St)(o3:compStart 1 ixs Y=none::fr)(Pv:Addr->Nat->List V->Hp->Prop)(h0:∀ D,H1 D=none->Pv D 0 [] (A0 H1 D (.lst [])))(hl:∀ D i ys H,H1 D=none->i<=xs.length->Pv D i ys H->B1 K H a xs)(hs:∀ D i x ys H,H1 D=none->i<xs.length->xs[i]?=some x->Pv D i ys H->H D=some (.lst ys)->ys.length<=i->c (some x::fr) H fun b H4=>
   if b=true then te (some x::fr) H4 fun y H5=>H5 D=some (.lst ys)/\ys.length<sizeLine/\CW xs.length fr (Pv D) (i+1) (ys++[y]) (some x::fr) (A0 H5 D (.lst (ys++[y])))
   else H4 D=some (.lst ys)/\CW xs.length fr (Pv D) (i+1) ys (some x::fr) H4)(hd:∀ D ys H,H1 D=none->Pv D xs.length ys H->H D=some (.lst ys)->ys.length<=xs.length->Q (.ref D) H):eR (eN K a) 1 ixs (gName 0) c te Y Q H1:=by
 intro D hD;refine ⟨xs.length,CW xs.length fr (Pv D),⟨G4 _,G4 _,⟨none,o3⟩,h0 D hD⟩,?_⟩;rintro i ys σ2 H2 ⟨hi,hy,⟨v,rfl⟩,p⟩ hDy;have q:=hl D i ys H2 hD hi p
 by_cases C5:i<xs.length
 .refine .inr ⟨C5,⟨xs,xs[i],q,by simp [C5]⟩,fun x H' y=>?_⟩;obtain ⟨e,y⟩:=y;subst e;exact hs D i x ys _ hD C5 (y xs q) p hDy hy
 .have e:i=xs.length:=by lia
  subst e;exact .inl ⟨⟨xs,q,C3 _⟩,hd D ys H2 hD p hDy hy⟩
theorem compS{c:TT}(fr:St)(o3:compStart 1 ixs Y=none::fr)(Pv:Addr->Nat->List V->Hp->Prop)(h0:∀ D,H1 D=none->Pv D 0 [] (A0 H1 D (.lst [])))(hs:∀ D i x ys H,H1 D=none->i<z.cps.size->z.cps.toList[i]?=some x->Pv D i ys H->H D=some (.lst ys)->ys.length<=i->c (some (.str ⟨#[x]⟩)::fr) H fun b H4=>
   if b=true then te (some (.str ⟨#[x]⟩)::fr) H4 fun y H5=>H5 D=some (.lst ys)/\ys.length<sizeLine/\CW z.cps.size fr (Pv D) (i+1) (ys++[y]) (some (.str ⟨#[x]⟩)::fr) (A0 H5 D (.lst (ys++[y])))
   else H4 D=some (.lst ys)/\CW z.cps.size fr (Pv D) (i+1) ys (some (.str ⟨#[x]⟩)::fr) H4)(hd:∀ D ys H,H1 D=none->Pv D z.cps.size ys H->H D=some (.lst ys)->ys.length<=z.cps.size->Q (.ref D) H):eR (kL z) 1 ixs (gName 0) c te Y Q H1:=by
 intro D hD;refine ⟨z.cps.size,CW z.cps.size fr (Pv D),⟨G4 _,G4 _,⟨none,o3⟩,h0 D hD⟩,?_⟩;rintro i ys σ2 H2 ⟨hi,hy,⟨v,rfl⟩,p⟩ hDy
 by_cases C5:i<z.cps.size
 .refine .inr ⟨C5,C5,fun x H' y=>?_⟩;obtain ⟨e,c,hc,rfl⟩:=y;subst e;exact hs D i c ys _ hD C5 hc p hDy hy
 .have e:i=z.cps.size:=by lia
  subst e;exact .inl ⟨C3 _,hd D ys H2 hD p hDy hy⟩
theorem compR{c:TT}(fr:St)(o3:compStart 1 ixs Y=none::fr)(Pv:Addr->Nat->List V->Hp->Prop)(h0:∀ D,H1 D=none->Pv D 0 [] (A0 H1 D (.lst [])))(hs:∀ D i ys H,H1 D=none->i<n->Pv D i ys H->H D=some (.lst ys)->ys.length<=i->c (some (.int (lo+i))::fr) H fun b H4=>
   if b=true then te (some (.int (lo+i))::fr) H4 fun y H5=>H5 D=some (.lst ys)/\ys.length<sizeLine/\CW n fr (Pv D) (i+1) (ys++[y]) (some (.int (lo+i))::fr) (A0 H5 D (.lst (ys++[y])))
   else H4 D=some (.lst ys)/\CW n fr (Pv D) (i+1) ys (some (.int (lo+i))::fr) H4)(hd:∀ D ys H,H1 D=none->Pv D n ys H->H D=some (.lst ys)->ys.length<=n->Q (.ref D) H):eR (q9 lo n) 1 ixs (gName 0) c te Y Q H1:=by
 intro D hD;refine ⟨n,CW n fr (Pv D),⟨G4 _,G4 _,⟨none,o3⟩,h0 D hD⟩,?_⟩;rintro i ys σ2 H2 ⟨hi,hy,⟨v,rfl⟩,p⟩ hDy
 by_cases C5:i<n
 .refine .inr ⟨C5,C5,fun x H' y=>?_⟩;obtain ⟨e,y⟩:=y;subst e y;exact hs D i ys _ hD C5 p hDy hy
 .have e:i=n:=by lia
  subst e;exact .inl ⟨C3 _,hd D ys H2 hD p hDy hy⟩
theorem C8{q:Addr}{o u:HO}(h:H p=some o)(n:H q=none):A0 H q u p=some o:=by rw [A7 (w6 h n)];exact h
theorem Same.new{q:Addr}{u:HO}(n:H q=none):Same H (A0 H q u):=fun _ _ h=>C8 h n
theorem Same.put{q:Addr}{u:HO}(s:Same H0 H)(n:H0 q=none):Same H0 (A0 H q u):=fun b o h=>by rw [A7 (w6 h n)];exact s b o h
theorem cxK{CX:k7}{P:Program}{w:World}{base:Heap}{sc:Scope}{o:List Env}{E:XK} : (cxOf CX P w K mg base N q sc f cd A o s H E).K=K:=rfl
theorem cxKn : X.nox.K=X.K:=rfl
theorem cxKb{sc:Scope} : (N7 X sc N' C zw zt fp pins).K=X.K:=rfl
theorem cxC{CX:k7}{P:Program}{w:World}{base:Heap}{sc:Scope}{o:List Env}{E:XK} : (cxOf CX P w K mg base N q sc f cd A o s H E).calm=true:=rfl
theorem cxCn : X.nox.calm=X.calm:=rfl
theorem cxCb{sc:Scope} : (N7 X sc N' C zw zt fp pins).calm=X.calm:=rfl
theorem iteD{c A B:Prop}[Decidable c](h1:c->A)(h2:¬ c->B):if decide c=true then A else B:=by
 by_cases h:c
 .rw [decide_eq_true h,if_pos rfl];exact h1 h
 .rw [decide_eq_false h,if_neg L8];exact h2 h
theorem iteN{c A B:Prop}[Decidable c](h1:¬ c->A)(h2:c->B):if (!decide c)=true then A else B:=by
 by_cases h:c
 .rw [decide_eq_true h];exact iteF (h2 h)
 .rw [decide_eq_false h];exact iteT (h1 h)
theorem V2(h:H p=some (.lst xs)):eQ K "list" (.ref p) H:=.inl ⟨rfl,_,D8.of h⟩
theorem appOk{l:Addr}(h:H l=some (.lst xs))(hz:xs.length<sizeLine)(q:Q .non (A0 H l (.lst (xs++[y])))):vN (.ref l) [y] H Q:=⟨l,xs,y,rfl,rfl,h,hz,q⟩
theorem L6(h:n<=1000000):n<sizeLine:=Nat.lt_of_le_of_lt h (by decide)
theorem L9(h:n<=1000000):n<=sizeLine:=Nat.le_of_lt (L6 h)
noncomputable def signB (c:Nat):Bool:=decide (33<=c)&&decide (c<=126)&&decide (c≠37)
noncomputable def rN (z:Str):Bool:=decide (1<=z.length)&&decide (z.length<=2)&&z.cps.toList.all signB
theorem ajS(h:rN z=true):p9 z=true/\1<=z.length/\z.length<=2:=by
 unfold rN at h;simp only [f8,decide_eq_true_eq] at h;refine ⟨?_,h.1.1,h.1.2⟩;unfold p9;rw [Array.all_eq_true_iff_forall_mem];intro c hc
 have:=List.all_eq_true.mp h.2 c (Array.mem_toList_iff.mpr hc)
 unfold signB at this;simp only [f8,decide_eq_true_eq] at this;simp only [decide_eq_true_eq];lia
theorem ajT(h:signB c=true):rN ⟨#[c]⟩=true:=by
 unfold rN;simp [Str.length,h]
theorem ajU(x:Str):x.length=x.cps.toList.length:=by simp [Str.length]
noncomputable def SG:List Nat:=[33,34,35,36]++(U8 89).map (· + 38)
theorem aoo:∀ c∈SG,signB c=true:=by decide +kernel
theorem wD:SG.length=93:=by decide +kernel
structure IsRows(H:Hp)(a:Addr)(rs:List Addr)(zss:List (List Str)):Prop where
 top:H a=some (.lst (rs.map V.ref))
 row:Paired (fun r (zs:List Str)=>H r=some (.lst (zs.map V.str))) rs zss
theorem IsRows.same{zss:List (List Str)}(R:IsRows H a rs zss)(s:Same H H'):IsRows H' a rs zss:=⟨s _ _ R.top,O6 R.row fun _ _ h=>s _ _ h⟩
theorem Paired.at{α β:Type}{F:α->β->Prop} : ∀ {l₁:List α} {l₂:List β} {i:Nat} {a:α},Paired F l₁ l₂->l₁[i]?=some a->∃ b,l₂[i]?=some b/\F a b
 | _,_,_,_,.nil,h=>by simp at h
 | _,_,0,_,.cons h t,e=>by simp at e;subst e;exact ⟨_,rfl,h⟩
 | _,_,i+1,_,.cons h t,e=>by
  obtain ⟨b,h1,h2⟩:=Paired.at (i:=i) t (by simpa using e);exact ⟨b,by simpa using h1,h2⟩
theorem nS:∀ zs:List Int,aQ (zs.map aR)=0
 | []=>rfl
 | z::zs=>by rw [G0,aQ,nS zs,eK];rfl
theorem ahR(xs ys:List Str):V0 (.list (xs.map .str)) (.list (ys.map .str))=decide (xs=ys):=by rw [V0,aer]
noncomputable def dd (acc:List Str) (z:Str):List Str:=if z∈acc then acc else acc++[z]
noncomputable def J7 (acc zs:List Str):List Str:=zs.foldl dd acc
noncomputable def toldL (zss:List (List Str)):List Str:=zss.foldl J7 []
theorem nU(zs:List Str):∀ acc:List Str,(J7 acc zs).length<=acc.length+zs.length:=by
 induction zs with
 | nil=>intro acc;exact C3 _
 | cons z zs ih=>
  intro acc;have h1:=ih (dd acc z);have h2:(dd acc z).length<=acc.length+1:=by
   unfold dd
   split
   .lia
   .simp
  show (J7 (dd acc z) zs).length<=_;rw [L0];lia
theorem alX(h:zs[j]?=some z):J7 acc (zs.take (j+1))=dd (J7 acc (zs.take j)) z:=by
 rw [v6,h];simp [J7,aN]
theorem ajW{zss:List (List Str)}(h:zss[i]?=some zs):toldL (zss.take (i+1))=J7 (toldL (zss.take i)) zs:=by
 rw [v6,h];simp [toldL,aN]
theorem rO(zss:List (List Str)):∀ acc,zss.foldl J7 acc=J7 acc zss.flatten:=by
 induction zss with
 | nil=>intro acc;rfl
 | cons zs zss ih=>
  intro acc;rw [jY,ih,jX];unfold J7;rw [aN]
theorem nV(zss:List (List Str)):(toldL zss).length<=zss.flatten.length:=by
 unfold toldL;rw [rO]
 have:=nU zss.flatten []
 simpa using this
theorem dd_mem{y:Str}(h:y∈dd acc z):y∈acc\/y=z:=by
 unfold dd at h
 split at h
 .exact .inl h
 .rcases E8.mp h with h | h
  .exact .inl h
  .exact .inr (by simpa using h)
noncomputable def kvOf (zs:List Str):List (B3×V):=zs.map fun z=>(Sum.inr z,V.bl true)
theorem wE(z:Str):∀ acc:List Str,((kvOf acc).any fun kv=>decide (kv.1=(Sum.inr z:B3)))=decide (z∈acc)
 | []=>by simp [kvOf]
 | y::acc=>by
  have ih:=wE z acc;unfold kvOf at ih ⊢
  rw [G0,aO,ih]
  by_cases e:y=z
  .subst e
   simp
  .have e1:decide ((Sum.inr y:B3)=Sum.inr z)=false:=decide_eq_false fun q=>e (Sum.inr.inj q)
   have e2:decide (z∈y::acc)=decide (z∈acc):=by
    by_cases h:z∈acc
    .rw [decide_eq_true h,decide_eq_true (O5 _ h)]
    .rw [decide_eq_false h,decide_eq_false];intro q
     rcases L4.mp q with q | q
     .exact e q.symm
     .exact h q
   rw [e2];simp only [e1,Bool.false_or]
theorem agd(acc:List Str)(z:Str):putK (kvOf acc) (Sum.inr z:B3) (.bl true)=kvOf (dd acc z):=by
 unfold putK dd;rw [wE]
 by_cases h:z∈acc
 .rw [decide_eq_true h,if_pos rfl,if_pos h];unfold kvOf;rw [R3];refine jU fun y _=>?_
  show (if (Sum.inr y:B3)=Sum.inr z then ((Sum.inr y:B3),V.bl true) else (Sum.inr y,V.bl true))=_
  split <;> rfl
 .rw [decide_eq_false h,if_neg L8,if_neg h];unfold kvOf;rw [D0];rfl
theorem ajX(acc:List Str):((kvOf acc).map fun kv=>kV kv.1)=acc.map V.str:=by
 unfold kvOf;rw [R3];rfl
theorem ahS(z:Str):∀ acc:List Str,eP (.str z) (acc.map V.str)=decide (z∈acc)
 | []=>by simp [eP]
 | y::acc=>by
  have ih:=ahS z acc;unfold eP at ih ⊢
  rw [G0,aO,ih];show ((y==z) || decide (z∈acc))=_
  by_cases e:y=z
  .subst e
   simp
  .have e1:(y==z)=false:=by simpa using e
   rw [e1,Bool.false_or]
   by_cases h:z∈acc
   .rw [decide_eq_true h,decide_eq_true (O5 _ h)]
   .rw [decide_eq_false h,decide_eq_false];intro q
    rcases L4.mp q with q | q
    .exact e q.symm
    .exact h q
theorem J8{α β:Type}{f:α->β}{l:List α}{y:β}(h:(l.map f)[i]?=some y):∃ x,l[i]?=some x/\y=f x:=by
 rw [R6] at h;cases e:l[i]? with
 | none=>rw [e] at h;cases h
 | some x=>rw [e] at h;exact ⟨x,rfl,(Option.some.inj h).symm⟩
noncomputable def SS:Str:=Str.ofString "!\"#$&'()*+,-./0123456789:;<=>?@ABCDEFGHIJKLMNOPQRSTUVWXYZ[\\]^_`"++Str.ofString "abcdefghijklmnopqrstuvwxyz{|}~"
theorem SS_eq:SS.cps.toList=SG:=by decide +kernel
theorem aq7:SS.length<=sizeLine:=by decide +kernel
theorem aop:(Str.ofString "!\"#$&'()*+,-./0123456789:;<=>?@ABCDEFGHIJKLMNOPQRSTUVWXYZ[\\]^_`").length+(Str.ofString "abcdefghijklmnopqrstuvwxyz{|}~").length<=sizeLine:=by decide +kernel
theorem SS_at{i:Int}(h0:0<=i)(h1:i<93):∃ c,F8 SS.cps.toList i=some c/\signB c=true:=by
 rw [SS_eq];obtain ⟨c,h2,h3⟩:=wB (xs:=SG) h0 (by rw [wD];exact h1);exact ⟨c,h2,aoo c h3⟩
theorem drawn{i:Int}(hx:∀ x∈xs,∃ n,x=V.int n)(h0:0<=i)(h1:i<xs.length):∃ n,F8 xs i=some (V.int n):=by
 obtain ⟨v,h2,h3⟩:=wB h0 h1;obtain ⟨n,rfl⟩:=hx v h3;exact ⟨n,h2⟩
theorem wF{α β:Type}{F:α->β->Prop}{a:α}{b:β} : ∀ {l₁:List α} {l₂:List β},Paired F (l₁++[a]) (l₂++[b])->Paired F l₁ l₂/\F a b
 | [],[],.cons h _=>⟨.nil,h⟩
 | [],y::l₂,h=>by
  have:=Paired.length h
  simp at this
 | x::l₁,[],h=>by
  have:=Paired.length h
  simp at this
 | x::l₁,y::l₂,.cons h t=>by
  obtain ⟨h1,h2⟩:=wF (l₁:=l₁) (l₂:=l₂) t;exact ⟨.cons h h1,h2⟩
theorem rP{α β:Type}{F G:α->β->Prop} : ∀ {l₁:List α} {l₂:List β},Paired F l₁ l₂->(∀ a∈l₁,∀ b,F a b->G a b)->Paired G l₁ l₂
 | _,_,.nil,_=>.nil
 | _,_,.cons h t,k=>.cons (k _ M7 _ h) (rP t fun a ha b hb=>k a (O5 _ ha) b hb)
structure RowsAt(H0 H:Hp)(a:Addr)(rs:List Addr)(zss:List (List Str)):Prop where
 rows:IsRows H a rs zss
 nd:(a::rs).Nodup
 new:∀ r∈a::rs,H0 r=none
 same:Same H0 H
theorem RowsAt.live{zss:List (List Str)}(R:RowsAt H0 H a rs zss)(h:r∈a::rs):∃ o,H r=some o:=by
 rcases L4.mp h with h | h
 .subst h;exact ⟨_,R.rows.top⟩
 .obtain ⟨i,hi,rfl⟩:=k0.mp h;obtain ⟨zs,_,h2⟩:=Paired.at R.rows.row (i:=i) (a:=rs[i]) (by simp [hi]);exact ⟨_,h2⟩
theorem ahT(x:Str)(lo hi:Option Int):(cutS x lo hi).length<=x.length:=by
 rw [ajU,ajU];unfold cutS;simp only [F7,k5];lia
theorem age(x:Str)(lo hi:Option Int):(cutS x lo hi).cps.toList=(x.cps.toList.drop (HT.sIx x.length 0 lo)).take (HT.sIx x.length x.length hi-HT.sIx x.length 0 lo):=by
 unfold cutS
 simp
structure QE(X:Cx)(e:Expr)(t:TE):Prop where
 out:PE X e t
structure QT(X:Cx)(e:Expr)(t:TT):Prop where
 out:PT X e t
structure QW(X:Cx)(e:Expr)(t:TT):Prop where
 out:PW X e t
structure QA(X:Cx)(es:List Expr)(t:TA):Prop where
 out:PA X es t
structure QS(X:Cx)(st:Stmt)(t:TS):Prop where
 out:PS X st t
structure QSs(X:Cx)(st:List Stmt)(t:TS):Prop where
 out:Z9 X st t
structure QG(X:Cx)(tg:Expr)(t:TG):Prop where
 out:PG X tg t
structure QGs(X:Cx)(tg:List Expr)(t:q0):Prop where
 out:nJ X tg t
structure QI(X:Cx)(tg iter:Expr)(wi:TI):Prop where
 out:PI X tg iter wi
structure QO(X:Cx)(e:Option Expr)(t:TO):Prop where
 out:PO X e t
structure QIfs(X:Cx)(ifs:List Expr)(t:TT):Prop where
 out:PIfs X ifs t
structure QOp(X:Cx)(f:Value->Value->Sem Value)(r:R2):Prop where
 out:G7 X f r
structure QUn(X:Cx)(f:Value->Sem Value)(r:V->Hp->VK->Prop):Prop where
 out:rC X f r
structure QCall(X:Cx)(f:Value)(r:List V->Hp->VK->Prop):Prop where
 out:CallR X f r
structure QMt(X:Cx)(id:String)(r:V->List V->Hp->VK->Prop):Prop where
 out:rE X id r
structure QIp(X:Cx)(op:Operator)(t:gM):Prop where
 out:uY X op t
structure QIn(X:Cx)(op:Operator)(t:V->V->Hp->VK->Prop):Prop where
 out:InOp X op t
section
variable {X:Cx} {a b c e o i value:Expr} {es:List Expr} {ta tb tc te to ti tv:TE} {tA tB':TT} {t u:TS} {tl:TA} {pos p pos' tpos:Pos} {rest:List Expr} {r r':R2} {x:Str}
theorem A1{i j} : QE X (.Constant (.int i) j pos) (tC (.int i)):=⟨amM⟩
theorem qe_bl{b j} : QE X (.Constant (.bool b) j pos) (tC (.bl b)):=⟨pe_bl⟩
theorem gU{j} : QE X (.Constant .none j pos) (tC .non):=⟨ao5⟩
theorem M5{x j} : QE X (.Constant (.str x) j pos) (tC (.str x)):=⟨ao6⟩
theorem qe_v(hN:X.N[n]?=some x)(hv:nI X.env.scope x)(hd:(x==("__debug__" : Str))=false)(u8:(x==("__classdict__" : Str))=false):QE X (.Name x pos) (tVar n):=⟨amL hN hv hd u8⟩
theorem qv(n:Nat)(hN:X.N[n]?=some x:=by rfl)(hv:nI X.env.scope x:=by first | exact Or.inl rfl | exact Or.inr (Or.inl rfl) | exact Or.inr (Or.inr rfl))(hd:(x==("__debug__" : Str))=false:=by decide)(u8:(x==("__classdict__" : Str))=false:=by decide):QE X (.Name x pos) (tVar n):=⟨amL hN hv hd u8⟩
theorem gW{i:Int}(h:∃ t,X.mg x=some (.int i t))(hg:Gl X x:=by rfl)(hd:(x==("__debug__" : Str))=false:=by decide):QE X (.Name x p) (tC (.int i)):=⟨alJ h hg hd⟩
theorem kN{a:Addr}(h:X.mg x=some (.ref a))(hg:Gl X x:=by rfl)(hd:(x==("__debug__" : Str))=false:=by decide):QE X (.Name x p) (tC (.ref a)):=⟨alK h hg hd⟩
theorem qe_op{op:Operator}(ho:QOp X (binaryOp op) r)(ha:QE X a ta)(hb:QE X b tb):QE X (.BinOp a op b pos) (cI r ta tb):=⟨pe_op ho.out ha.out hb.out⟩
theorem qe_un{op:UnaryOp}{r:V->Hp->VK->Prop}(ho:QUn X (unaryOp op) r)(ha:QE X a ta):QE X (.UnaryOp op a pos) (vB r ta):=⟨pe_un ho.out ha.out⟩
theorem rQ{op}(ha:QE X a ta):QE X (.BoolOp op [a] pos) ta:=⟨aqa ha.out⟩
theorem wG(ha:QE X a ta)(hb:QE X (.BoolOp .And (b::rest) pos) tb):QE X (.BoolOp .And (a::b::rest) pos) (tAndV ta tb):=⟨aqb ha.out hb.out⟩
theorem qe_or(ha:QE X a ta)(hb:QE X (.BoolOp .Or (b::rest) pos) tb):QE X (.BoolOp .Or (a::b::rest) pos) (tOrV ta tb):=⟨pe_or ha.out hb.out⟩
theorem k8{op:CmpOp}(ho:QOp X (compareOp op) r)(ha:QE X a ta)(hb:QE X b tb)(hm:behindInMarks op b=false:=by first | exact amO _ | rfl):QE X (.Compare a [op] [b] pos) (cI r ta tb):=⟨anz ho.out ha.out hb.out hm⟩
theorem alY{op op':CmpOp}(ho:QOp X (compareOp op) r)(X9:QOp X (compareOp op') r')(ha:QE X a ta)(hb:QE X b tb)(hc:QE X c tc)(hm:lastMarks [op,op'] [b,c]=false:=by with_unfolding_all rfl):QE X (.Compare a [op,op'] [b,c] pos) (nK r r' ta tb tc):=⟨aln ho.out X9.out ha.out hb.out hc.out hm⟩
theorem ahV(hc:QT X c tA)(ha:QE X a ta)(hb:QE X b tb):QE X (.IfExp c a b pos) (uW tA ta tb):=⟨alg hc.out ha.out hb.out⟩
theorem A2:QA X [] tNil:=⟨aqx⟩
theorem qa_c(ha:QE X e te)(hr:QA X es tl)(h:L5 e=false:=by rfl):QA X (e::es) (tCons te tl):=⟨pa_c ha.out hr.out h⟩
theorem R7(h:QA X es tl):QE X (.List es pos) (tLst tl):=⟨aqz h.out⟩
theorem F9{x1}(h:QA X es tl):QE X (.Tuple es x1 pos) (tTup tl):=⟨aqy h.out⟩
theorem gX:QE X (.Dict [] [] pos) vT:=⟨alC⟩
theorem Q3:QO X none vJ:=⟨anJ⟩
theorem L1(h:QE X e te):QO X (some e) (tPart te):=⟨anK h.out⟩
theorem M9{lo hi:Option Expr}{tlo thi:TO}{p2:Pos}(he:QE X e te)(hl:QO X lo tlo)(hu:QO X hi thi)(hK:X.K=K:=by rfl):QE X (.Subscript e (.Slice lo hi none p2) pos) (vK (rSlU K) te tlo thi):=by subst hK;exact ⟨alw p_sl he.out hl.out hu.out⟩
theorem g6(hu:X.A.units+1<cLine)(ho:QE X o to)(hi:QE X i ti)(hs:NoSl i:=by exact fun _ _=>rfl):QE X (.Subscript o i pos) (tDGet to ti):=⟨anP hu ho.out hi.out hs⟩
theorem qe_ix(ha:QE X a ta)(hb:QE X b tb)(hs:ajD b:=by exact fun _ _=>rfl)(hK:X.K=K:=by rfl):QE X (.Subscript a b pos) (cI (kI K) ta tb):=by subst hK;exact ⟨pe_ix aqD ha.out hb.out hs⟩
theorem qe_cB{id:String}{rc:List V->Hp->VK->Prop}(hc:QCall X (.builtin id) rc)(hm:X.mg x=none)(hv:bootBuiltins x=some (.builtin id))(ha:QA X (e::es) tl)(hg:Gl X x:=by rfl)(h1:L5 e=false:=by rfl)(h2:Z1 es=true:=by rfl)(hn:x≠"__name__":=by decide)(U0:(x==("__debug__" : Str))=false:=by decide) :
  QE X (.Call (.Name x p) (e::es) [] pos) (gO rc tl):=⟨pe_cB hc.out hg hm hv ha.out h1 h2 hn U0⟩
theorem qe_cT{T:String}{rc:List V->Hp->VK->Prop}(hc:QCall X (.type T) rc)(hm:X.mg x=none)(hv:bootBuiltins x=some (.type T))(ha:QA X (e::es) tl)(hg:Gl X x:=by rfl)(h1:L5 e=false:=by rfl)(h2:Z1 es=true:=by rfl)(hn:x≠"__name__":=by decide)(U0:(x==("__debug__" : Str))=false:=by decide) :
  QE X (.Call (.Name x p) (e::es) [] pos) (gO rc tl):=⟨pe_cT hc.out hg hm hv ha.out h1 h2 hn U0⟩
theorem qe_mB{T id:String}{rm:V->List V->Hp->VK->Prop}(pa:PlainAttrs T)(slot:Slot T name id)(Y0:typeOf (.builtin id)=pure (.type "method_descriptor"))(hm:QMt X id rm)(ho:QE X o to)(ha:QA X (e::es) tl)(h1:L5 e=false:=by rfl)(h2:Z1 es=true:=by rfl)(h3:decide ((e::es).length<30)=true:=by rfl)(G2:attributeBase o name X.env (eval o X.env)=eval o X.env:=by rfl)(G3:(apos.endLine==cpos.line)=true:=by rfl)(hK:X.K=K:=by rfl):QE X (.Call (.Attribute o name apos) (e::es) [] cpos) (rF K T rm to tl):=by subst hK;exact ⟨pe_mB pa slot Y0 hm.out ho.out ha.out h1 h2 h3 G2 G3⟩
theorem qe_m0{T id:String}{rm:V->List V->Hp->VK->Prop}(pa:PlainAttrs T)(slot:Slot T name id)(Y0:typeOf (.builtin id)=pure (.type "method_descriptor"))(hm:QMt X id rm)(ho:QE X o to)(G2:attributeBase o name X.env (eval o X.env)=eval o X.env:=by rfl)(G3:(apos.endLine==cpos.line)=true:=by rfl)(hK:X.K=K:=by rfl):QE X (.Call (.Attribute o name apos) [] [] cpos) (tBM0 K T rm to):=by subst hK;exact ⟨aqF pa slot Y0 hm.out ho.out G2 G3⟩
theorem C9(G:FO X.prog X.w X.K X.mg X.base k x ps dvs sp)(hr:Room k X.A)(ha:QA X (e::es) tl)(hg:Gl X x:=by rfl)(h1:L5 e=false:=by rfl)(h2:Z1 es=true:=by rfl)(U0:(x==("__debug__" : Str))=false:=by decide) :
  QE X (.Call (.Name x p) (e::es) [] pos) (tCall sp dvs E0 tl):=⟨alI G hr ha.out hg h1 h2 U0⟩
theorem E2{op:CmpOp}(ho:QOp X (compareOp op) r)(ha:QE X a ta)(hb:QE X b tb)(hm:behindInMarks op b=false:=by first | exact amO _ | rfl):QT X (.Compare a [op] [b] pos) (tTest (cI r ta tb)):=⟨anA ho.out ha.out hb.out hm⟩
theorem alZ{op op':CmpOp}(ho:QOp X (compareOp op) r)(X9:QOp X (compareOp op') r')(ha:QE X a ta)(hb:QE X b tb)(hc:QE X c tc)(hm:lastMarks [op,op'] [b,c]=false:=by with_unfolding_all rfl):QT X (.Compare a [op,op'] [b,c] pos) (tTest (nK r r' ta tb tc)):=⟨alo ho.out X9.out ha.out hb.out hc.out hm⟩
theorem wH(ha:QT X a tA):QT X (.UnaryOp .Not a pos) (tNot tA):=⟨ao9 ha.out⟩
theorem eS(ha:QT X a tA):QW X (.BoolOp .And [a] pos) tA:=⟨ano ha.out⟩
theorem nW(ha:QT X a tA):QW X (.BoolOp .Or [a] pos) tA:=⟨ao7 ha.out⟩
theorem cN(ha:QT X a tA)(hb:QW X (.BoolOp .And (b::rest) pos) tB'):QW X (.BoolOp .And (a::b::rest) pos) (tAnd tA tB'):=⟨ao8 ha.out hb.out⟩
theorem qw_or(ha:QT X a tA)(hb:QW X (.BoolOp .Or (b::rest) pos) tB'):QW X (.BoolOp .Or (a::b::rest) pos) (uV tA tB'):=⟨pw_or ha.out hb.out⟩
theorem QW.pt(h:QW X a tA):QT X a tA:=⟨h.out.pt⟩
theorem X5(ha:QE X a ta)(he:∀ whole,isTrue a X.env whole=(do let v <- whole;standAt a.pos;holding [v] (truthy v)):=by intro _;rfl)(hK:X.K=K:=by rfl):QT X a (tTru K ta):=by subst hK;exact ⟨aqL ha.out he⟩
variable {st:Stmt} {sts:List Stmt}
theorem G5:QSs X [] tNext:=⟨anp⟩
theorem A5(h:QS X st t):QSs X [st] t:=⟨anq h.out⟩
theorem A4(h:QS X st t)(h2:QSs X sts u):QSs X (st::sts) (tSeq t u):=⟨alh h.out h2.out⟩
theorem D1(he:QE X e te):QS X (.Return (some e) pos) (tRet te):=⟨aqd he.out⟩
theorem kO:QS X st uX:=⟨ali⟩
theorem C4(hN:X.N.Nodup)(hi:X.N[n]?=some x)(hx:x0 X.env.scope x)(he:QE X e te)(hs:swapsWith e (some (.Name x pos')) pos.line X.env=pure false:=by rfl)(hf:X.fn x=true:=by rfl):QS X (.Assign [.Name x pos'] e pos) (tAsg te (gName n)):=⟨aqh hN hi hx he.out hs (.inl hf)⟩
theorem kP{f:Str}(ho:QE X o to)(hv:QE X value tv)(hs:swapsWith value (some (.Attribute o f pos')) pos.line X.env=pure false:=by rfl)(hK:X.K=K:=by rfl):QS X (.Assign [.Attribute o f pos'] value pos) (sFld K to tv f):=by subst hK;exact ⟨aqu ho.out hv.out hs⟩
theorem aW{f:Str}(ho:QE X o to)(hb:attributeBase o f X.env (eval o X.env)=eval o X.env:=by rfl)(hK:X.K=K:=by rfl):QE X (.Attribute o f pos) (tFld K to f):=by subst hK;exact ⟨aqt ho.out hb⟩
theorem r0(hu:X.A.units+1<cLine)(ho:QE X o to)(hi:QE X i ti)(hv:QE X value tv)(hs:swapsWith value (some (.Subscript o i pos')) pos.line X.env=pure false:=by rfl):QS X (.Assign [.Subscript o i pos'] value pos) (sDPut to ti tv):=⟨anQ hu ho.out hi.out hv.out hs⟩
theorem aj0{op:Operator}{rd:V->V->Hp->VK->Prop}(hu:X.A.units+1<cLine)(ho:QE X o to)(hi:QE X i ti)(hv:QE X value tv)(hop:QIn X op rd)(ha:∀ ov iv new,augStore i ov iv new=(do holding [new,ov,iv] (setItem ov iv new);release [new,ov,iv] [];pure .next):=by exact fun _ _ _=>rfl) :
  QS X (.AugAssign (.Subscript o i tpos) op value pos) (sDAug to ti tv rd):=⟨anR hu ho.out hi.out hv.out hop.out ha⟩
theorem gY(he:QE X e te)(hg:QG X tg g)(hs:swapsWithSole [tg] e pos.line X.env=pure false:=by rfl)(hw:swappedStores [tg] e X.env=pure none:=by rfl)(h1:(assignEach [tg] X.env).map (·.2)=[assign tg X.env]:=by rfl):QS X (.Assign [tg] e pos) (tAsg te g):=⟨aqg he.out hg.out hs hw h1⟩
theorem wI{op:Operator}{tip:gM}(hN:X.N.Nodup)(hi:X.N[n]?=some x)(hx:x0 X.env.scope x)(he:QE X e te)(ho:QIp X op tip)(hf:X.fn x=true:=by rfl):QS X (.AugAssign (.Name x pos') op e pos) (tAug n te tip):=⟨aqi hN hi hx he.out ho.out (.inl hf)⟩
theorem R9(he:QE X e te)(hs:swapsWith e none pos.line X.env=pure false:=by rfl):QS X (.Expr e pos) (tDrop te):=⟨anr he.out hs⟩
theorem qs_if{sa sb:List Stmt}(hc:QT X c tA)(ha:QSs X sa t)(hb:QSs X sb u):QS X (.If c sa sb pos) (tIfS tA t u):=⟨ps_if hc.out ha.out hb.out⟩
theorem rR{body:List Stmt}(hp:PassesOwn 'b' X.A X.env X.xe)(hc:QT X c tA)(hb:QSs X body t):QS X (.While c body [] pos) (rB tA t):=⟨alk hp hc.out hb.out⟩
theorem N0{body:List Stmt}{wi:TI}(hp:PassesOwn 'b' X.A X.env X.xe)(hi:QI X tg iter wi)(hg:QG X tg g)(hb:QSs X body t)(hc:X.calm=true:=by rfl)(hs:∀ x,foldedSetIterable iter X.env x=pure x:=by intro _;rfl):QS X (.For tg iter body [] pos) (tFor wi g t):=⟨aql hp hc hi.out hg.out hb.out hs⟩
theorem D3(hN:X.N.Nodup)(hi:X.N[n]?=some x)(hx:x0 X.env.scope x)(hf:X.fn x=true\/X.env.scope.names.lookup x=some .local:=by first | exact .inl rfl | exact .inr rfl | assumption):QG X (.Name x pos) (gName n):=⟨ans hN hi hx hf⟩
theorem x4:QGs X [] gNil:=⟨ant⟩
theorem P6{gs:q0}(h1:QG X e g)(h2:QGs X es gs)(hs:(assignEach (e::es) X.env).map (·.2)=assign e X.env::(assignEach es X.env).map (·.2):=by rfl):QGs X (e::es) (gCons g gs):=⟨alj h1.out h2.out hs⟩
theorem x5{gs:q0}(h:QGs X es gs)(hc:X.calm=true:=by rfl)(hn:(assignEach es X.env).length=n:=by rfl)(b9:(assignEach es X.env).findIdx? (·.1)=none:=by rfl)(hK:X.K=K:=by rfl):QG X (.Tuple es k pos) (gTup K n gs):=by subst hK;exact ⟨aqe hc h.out hn b9⟩
variable {tg:Expr}
theorem P7(h:QE X e te)(hK:X.K=K:=by rfl):QI X tg e (iList K te):=by subst hK;exact ⟨anu h.out⟩
theorem eT(h:QE X e te)(hK:X.K=K:=by rfl):QI X tg e (iTup K te):=by subst hK;exact ⟨aqk h.out⟩
theorem amV(h:QE X e te):QI X tg e (iStr te):=⟨aqQ h.out⟩
theorem qi_r1(hm:X.mg "range"=none)(ha:QA X [a] tl)(hg:Gl X "range":=by rfl)(h1:L5 a=false:=by rfl):QI X tg (.Call (.Name "range" p) [a] [] pos) (iRng1 tl):=⟨pi_r1 hg hm ha.out h1⟩
theorem qi_r2(hm:X.mg "range"=none)(ha:QA X [a,b] tl)(hg:Gl X "range":=by rfl)(h1:L5 a=false:=by rfl)(h2:L5 b=false:=by rfl):QI X tg (.Call (.Name "range" p) [a,b] [] pos) (iRng2 tl):=⟨pi_r2 hg hm ha.out h1 h2⟩
theorem k9:QIfs X [] tYes:=⟨alF⟩
theorem kQ(h:QT X c tA):QIfs X [c] tA:=⟨alG h.out⟩
variable {sc:Scope} {N':List Str} {k:Nat} {ixs:List Nat} {ifs:List Expr} {wi:TI} {g:TG} {elt:Expr}
theorem g7(C:CompOk X.N X.env.scope.names sc N' k ixs)(hi:QI X tg e wi)(hg:∀ C zw zt fp pins,QG (N7 X sc N' C zw zt fp pins) tg g)(hc:∀ C zw zt fp pins,QIfs (N7 X sc N' C zw zt fp pins) ifs tA)(he:∀ C zw zt fp pins,QE (N7 X sc N' C zw zt fp pins) elt te)(N3:X.calm=true:=by rfl)(hs:∀ x,foldedSetIterable e X.env x=pure x:=by intro _;rfl):QE X (.ListComp elt [⟨tg,e,ifs,0⟩] sc pos) (tComp wi k ixs g tA te):=
 ⟨anT C N3 hi.out (fun _ _ _ _ _=>(hg _ _ _ _ _).out) (fun _ _ _ _ _=>(hc _ _ _ _ _).out) (fun _ _ _ _ _=>(he _ _ _ _ _).out) hs⟩
theorem nX(hN:X.N.Nodup)(hiN:X.N[n]?=some x)(hx:x0 X.env.scope x)(C:CompOk X.N X.env.scope.names sc N' k ixs)(hi:QI X tg e wi)(hg:∀ C zw zt fp pins,QG (N7 X sc N' C zw zt fp pins) tg g)(hc:∀ C zw zt fp pins,QIfs (N7 X sc N' C zw zt fp pins) ifs tA)(he:∀ C zw zt fp pins,QE (N7 X sc N' C zw zt fp pins) elt te)(hsw:swapsWith (.ListComp elt [⟨tg,e,ifs,0⟩] sc pos) (some (.Name x pos')) spos.line X.env=pure true:=by rfl)(N3:X.calm=true:=by rfl)(hf:X.fn x=true:=by rfl)(hs:∀ x,foldedSetIterable e X.env x=pure x:=by intro _;rfl) :
  QS X (.Assign [.Name x pos'] (.ListComp elt [⟨tg,e,ifs,0⟩] sc pos) spos) (tAsg (tComp wi k ixs g tA te) (gName n)):=
 ⟨aiJ hN hiN hx C N3 hi.out (fun _ _ _ _ _=>(hg _ _ _ _ _).out) (fun _ _ _ _ _=>(hc _ _ _ _ _).out) (fun _ _ _ _ _=>(he _ _ _ _ _).out) hsw (.inl hf) hs⟩
theorem q_add(hK:X.K=K:=by rfl):QOp X (binaryOp .Add) (rAddU K):=by subst hK;exact ⟨p_add⟩
theorem q_sub:QOp X (binaryOp .Sub) (aV fun i j=>.int (i-j)):=⟨p_sub⟩
theorem q_mul:QOp X (binaryOp .Mult) rMulU:=⟨p_mul⟩
theorem W7:QOp X (binaryOp .FloorDiv) (rI CDiv fun i j=>.int (i / j)):=⟨aqM⟩
theorem q_mod:QOp X (binaryOp .Mod) (rI (fun _ j=>0<j) fun i j=>.int (i % j)):=⟨p_mod⟩
theorem q_eq(hu:X.A.units+64<cLine)(hK:X.K=K:=by rfl):QOp X (compareOp .Eq) (rEqU K):=by subst hK;exact ⟨p_eq hu⟩
theorem q_ne(hu:X.A.units+64<cLine)(hK:X.K=K:=by rfl):QOp X (compareOp .NotEq) (rNeU K):=by subst hK;exact ⟨p_ne hu⟩
theorem q_lt:QOp X (compareOp .Lt) rLtU:=⟨p_lt⟩
theorem q_le:QOp X (compareOp .LtE) rLeU:=⟨p_le⟩
theorem q_gt:QOp X (compareOp .Gt) rGtU:=⟨p_gt⟩
theorem q_in(hu:X.A.units+64<cLine)(hK:X.K=K:=by rfl):QOp X (compareOp .In) (rInU K false):=by subst hK;exact ⟨p_in hu⟩
theorem aj2(hu:X.A.units+64<cLine)(hK:X.K=K:=by rfl):QOp X (compareOp .NotIn) (rInU K true):=by subst hK;exact ⟨anU hu⟩
theorem q_isN:QOp X (compareOp .Is) (fun x y H Q=>y=.non/\Q (.bl (decide (x=.non))) H):=⟨aqr⟩
theorem wJ:QOp X (compareOp .IsNot) (fun x y H Q=>y=.non/\Q (.bl (!decide (x=.non))) H):=⟨anx⟩
theorem q_neg:QUn X (unaryOp .USub) (rU fun i=>.int (-i)):=⟨aqq⟩
theorem q_len(hK:X.K=K:=by rfl):QCall X (.builtin "len") (rLenU K):=by subst hK;exact ⟨p_len⟩
theorem nY(hK:X.K=K:=by rfl)(pU:X.calm=calm:=by rfl):QCall X (.type "list") (wA K calm):=by subst hK;subst pU;exact ⟨aqP⟩
theorem g8:QMt X "list.append" vN:=⟨fun pins s Y H x xs v us Q I rx rv h=>af7 pins s Y H x xs v us Q I rx rv h⟩
theorem aj4:QMt X "list.reverse" ahM:=⟨fun pins s Y H x xs v us Q I rx rv h=>aiI pins s Y H x xs v us Q I rx rv h⟩
theorem wK:QIp X .Add (uZ fun i j=>i+j):=⟨aqj⟩
theorem aq8:QIn X .Add rAdd:=⟨aqv⟩
theorem aq9:QIn X .Sub rSub:=⟨aqw⟩
end
noncomputable def ModD (P:Program) (w:World) (K:PySem.W.Frag) (a:Addr) (kvs:List (B3×V)):Prop:=(a==sysModules)=false/\∀ h:Heap,K.In h->∃ vs,KV kvs vs/\h.DictOf (N4 P w) a vs
noncomputable abbrev ModE (w:World):List DictEntry->List (B3×V)->Prop:=Paired fun e kv=>keyIs kv.1 e.key=true/\e.hash=keyH w kv.1/\RelV kv.2 e.val
theorem ModE.pairs{P:Program}{w:World} : ∀ {es:List DictEntry} {kvs:List (B3×V)},ModE w es kvs->∃ vs:List (B3×Value),KV kvs vs/\Pairs (N4 P w) es vs/\(∀ e∈es,∃ k,(N4 P w).is k e.key=true/\e.hash=(N4 P w).hash k)/\vs.map (·.1)=kvs.map (·.1)
 | _,_,.nil=>⟨[],.nil,.nil,fun e h=>(nomatch h),rfl⟩
 | e::es,kv::kvs,.cons ⟨h1,h2,h3⟩ t=>by
  obtain ⟨vs,a1,a2,a3,a4⟩:=ModE.pairs (P:=P) t;refine ⟨(kv.1,e.val)::vs,.cons ⟨rfl,h3⟩ a1,.cons h1 rfl a2,fun e' he=>?_,by rw [G0,G0,a4]⟩
  rcases L4.mp he with z | z
  .rw [z];exact ⟨kv.1,h1,h2⟩
  .exact a3 e' z
theorem aoq{P:Program}{w:World}{es:Array DictEntry}{ep:Nat}(l:K.lookup a=some { cls:=.type "dict",dict:=none,data:=.dict es ep,slots:=#[] })(hs:(a==sysModules)=false)(he:ModE w es.toList kvs)(hn:(kvs.map (·.1)).Nodup):ModD P w K a kvs:=by
 refine ⟨hs,fun h X=>?_⟩;obtain ⟨vs,a1,a2,a3,a4⟩:=he.pairs (P:=P);exact ⟨vs,a1,_,es,ep,X a _ l,⟨rfl,rfl,rfl⟩,rfl,fun e h=>a3 e (Array.mem_toList_iff.mpr h),a2,by rw [a4];exact hn⟩
noncomputable def rInM (neg:Bool) (a:Addr) (kvs:List (B3×V)):R2:=fun x y H Q=>y=.ref a/\∃ k,x=kV k/\Q (.bl (neg.xor (valV kvs k).isSome)) H
noncomputable def amW (a:Addr) (kvs:List (B3×V)) (to ti:TE):TE:=fun Y H Q=>to Y H fun x H1=>ti Y H1 fun y H2=>x=.ref a/\∃ k v,y=kV k/\valV kvs k=some v/\Q v H2
section
variable {X:Cx} {a:Addr} {kvs:List (B3×V)} {o i:Expr} {to ti:TE} {pos:Pos}
theorem q_inM(M:ModD X.prog X.w X.K a kvs):QOp X (compareOp .In) (rInM false a kvs):=⟨by
 sleep 0;obtain ⟨rfl,k,rfl,q⟩:=h;obtain rfl:u=Value.ref a:=ry;obtain ⟨hd,M⟩:=M;obtain ⟨vs,rel,dd⟩:=M s.heap I.kIn;refine wpAny_in_of (kV_is rx) hd dd.mapOf ?_;rw [<- (rel.val k).isSome_eq];exact ⟨.bl _,H,I.tok _,rfl,by simpa using q⟩⟩
theorem ahW(M:ModD X.prog X.w X.K a kvs)(ho:QE X o to)(hi:QE X i ti)(hs:NoSl i:=by exact fun _ _=>rfl):QE X (.Subscript o i pos) (amW a kvs to ti):=⟨by
 sleep 1;refine vS PySem.F.slot_dict_getitem.lookup hs (A8 (ho.out pins s Y H _ I h) fun u s1 ⟨x,H1,I1,rx,q1⟩=>A8 (hi.out pins s1 Y H1 _ I1 q1) fun iv s2 ⟨y,H2,I2,ry,ex,k,v,ey,l,q2⟩=>?_);subst ex ey;obtain rfl:u=Value.ref a:=rx;obtain ⟨hd,M⟩:=M;obtain ⟨vs,rel,dd⟩:=M s2.heap I2.kIn;obtain ⟨w',hw,rw'⟩:=nM (v:=v) (o:=valueAt vs k) (by rw [<- l];exact rel.val k);exact ⟨dd.typeIs,wpAny_getItem_of (kV_is ry) dd.mapOf hw ⟨v,H2,I2.tok _,rw',q2⟩⟩⟩
end
theorem amX{k:B3} : (V.str z=kV k)=(k=Sum.inr z):=by
 cases k with
 | inl i=>exact propext ⟨fun h=>(by cases h),fun h=>(by cases h)⟩
 | inr x=>exact propext ⟨fun h=>(by cases h;rfl),fun h=>(by cases h;rfl)⟩
theorem ara : rInM neg a kvs (.str z) (.ref b) H Q=(V.ref b=V.ref a/\Q (.bl (neg.xor (valV kvs (Sum.inr z)).isSome)) H):=by
 unfold rInM;simp only [amX,exists_eq_left]
theorem al0 : amW a kvs to ti Y H Q=to Y H fun x H1=>ti Y H1 fun y H2=>x=.ref a/\∃ k v,y=kV k/\valV kvs k=some v/\Q v H2:=rfl
noncomputable def aj6 (c:TT) (tb:TS) (D:Ends) (Y:St) (H:Hp):Prop:=rB c tb D Y H
theorem al1{c:TT} : rB c tb D Y H=aj6 c tb D Y H:=rfl
theorem rS{c:TT}(Pv:Nat->St->Hp->Prop)(m:Nat)(h0:Pv m Y H)(hs:∀ m Y H,Pv m Y H->c Y H fun b H1=>if b=true then ∃ N:St->Hp->Prop,(∀ σ' H',N σ' H'->∃ m',m'<m/\Pv m' σ' H')/\tb { D with nx:=N,ct:=N,bk:=D.nx } Y H1 else D.nx Y H1):aj6 c tb D Y H:=⟨Pv,⟨m,h0⟩,hs⟩
noncomputable def rTupR (K:PySem.W.Frag) (p:Addr) (H:Hp) (Q:VK):Prop:=∃ ys,(D8 K H p ys/\∀ l,H l=none->Q (.ref l) (A0 H l (.tup ys)))\/(B1 K H p ys/\Q (.ref p) H)
theorem rTupR.l(h1:D8 K H p ys)(h:∀ l,H l=none->Q (.ref l) (A0 H l (.tup ys))):rTupR K p H Q:=⟨ys,.inl ⟨h1,h⟩⟩
noncomputable def rTupU (K:PySem.W.Frag):List V->Hp->VK->Prop
 | [.ref p],H,Q=>rTupR K p H Q
 | _,_,_=>False
theorem tup_r : rTupU K [.ref p] H Q=rTupR K p H Q:=rfl
theorem nZ(hK:X.K=K:=by rfl):QCall X (.type "tuple") (rTupU K):=by
 subst hK;refine ⟨fun pins s Y H xs us Q I r h=>?_⟩
 match xs,h with
 | [.ref p],⟨ys,h⟩=>exact afv pins s Y H _ us Q I r ⟨p,ys,rfl,h⟩
noncomputable def rMin:List V->Hp->VK->Prop:=fun xs H Q=>∃ i j,xs=[.int i,.int j]/\Q (.int (if j<i then j else i)) H
noncomputable def rMax:List V->Hp->VK->Prop:=fun xs H Q=>∃ i j,xs=[.int i,.int j]/\Q (.int (if j > i then j else i)) H
theorem arb{i j:Int} : rMin [.int i,.int j] H Q=Q (.int (if j<i then j else i)) H:=propext ⟨fun ⟨_,_,e,q⟩=>(by cases e;exact q),fun q=>⟨_,_,rfl,q⟩⟩
theorem arc{i j:Int} : rMax [.int i,.int j] H Q=Q (.int (if j > i then j else i)) H:=propext ⟨fun ⟨_,_,e,q⟩=>(by cases e;exact q),fun q=>⟨_,_,rfl,q⟩⟩
noncomputable def rCalm (calm:Bool) (r:List V->Hp->VK->Prop):List V->Hp->VK->Prop:=fun xs H Q=>calm=true/\r xs H Q
theorem q_min(hc:X.calm=calm:=by rfl):QCall X (.builtin "min") (rCalm calm rMin):=⟨fun pins s Y H xs us Q I r h=>ajv (hc.trans h.1) pins s Y H xs us Q I r h.2⟩
theorem aor{r:List V->Hp->VK->Prop} : rCalm true r xs H Q=r xs H Q:=propext ⟨fun h=>h.2,fun h=>⟨rfl,h⟩⟩
end L2
namespace L2
open PySem PySem.Spec PyProof.Rows
open PySem.Builtin PySem.Builtin.Str PySem.StrLaws
noncomputable def tSeqM (t u:TS):TS:=fun D Y H=>∃ M:St->Hp->Prop,t { D with nx:=M } Y H/\∀ σ' H',M σ' H'->u D σ' H'
theorem cO{rest:List Stmt}{t u:TS}(h1:QS X st t)(h2:QSs X rest u):QSs X (st::rest) (tSeqM t u):=⟨by
 intro pins s Y H D I h;obtain ⟨M,h,hm⟩:=h;refine wpAny_execs_cons (A8 (h1.out pins s Y H { D with nx:=M } I h) fun f s1 q=>?_)
 cases f with
 | next=>
  obtain ⟨σ',H',I',q⟩:=q;exact h2.out pins s1 σ' H' D I' (hm _ _ q)
 | ret v=>exact q
 | brk=>exact q
 | cont=>exact q⟩
theorem mid{t u:TS}(M:St->Hp->Prop)(h:t { D with nx:=M } Y H)(h2:∀ σ' H',M σ' H'->u D σ' H'):tSeqM t u D Y H:=⟨M,h,h2⟩
theorem wL(h:H p=some (.lst xs)):TruV K (.ref p) H (!xs.isEmpty):=.inl ⟨xs,.of h,rfl⟩
theorem x6(xs:List V)(k:Nat):cutV xs (some (k:Int)) none=xs.drop k:=by
 unfold cutV;have e1:HT.sIx xs.length 0 (some (k:Int))=min k xs.length:=by unfold HT.sIx;simp;lia
 have e2:HT.sIx xs.length xs.length none=xs.length:=rfl;rw [e1,e2,v4 (by rw [k5];exact C3 _)]
 by_cases h:k<=xs.length
 .rw [cE h]
 .rw [Nat.min_eq_right 'a',mW (C3 _),mW 'a']
theorem aX(xs:List V)(k:Nat):cutV xs none (some (k:Int))=xs.take k:=by
 unfold cutV;have e1:HT.sIx xs.length xs.length (some (k:Int))=min k xs.length:=by unfold HT.sIx;simp;lia
 have e2:HT.sIx xs.length 0 none=0:=rfl;rw [e1,e2,List.drop_zero,Nat.sub_zero]
 by_cases h:k<=xs.length
 .rw [cE h]
 .rw [Nat.min_eq_right 'a',v4 (C3 _),v4 'a']
theorem wM(x:V)(xs:List V):cutV (x::xs) (some 1) none=xs:=x6 (x::xs) 1
theorem M3{α:Type}(x:α)(xs:List α):F8 (x::xs) 0=some x:=by
 have e:X4 (x::xs).length 0=some 0:=by unfold X4;rw [if_pos (Int.le_refl 0),if_pos (by rw [L0];lia)];rfl
 unfold F8;rw [e];rfl
theorem al2{o f:Expr}(hu:X.A.units+1<cLine)(ho:QE X o td)(he:QE X e ty)(hf:QE X f tx)(h1:L5 e=false:=by rfl)(h2:L5 f=false:=by rfl)(G2:attributeBase o "get" X.env (eval o X.env)=eval o X.env:=by rfl)(G3:(apos.endLine==cpos.line)=true:=by rfl):QE X (.Call (.Attribute o "get" apos) [e,f] [] cpos) (vW td ty tx):=
 ⟨alE hu ho.out he.out hf.out ⟨G2,by rw [O7 h1,O7 h2];rfl,G3,by rw [O7 h1,O7 h2];rfl⟩⟩
theorem aos{trs:List (TE×TE)} : tDisp trs Y H Q=∀ p,H p=none->kJ trs Y (A0 H p (.dK [])) fun ps H2=>H2 p=some (.dK [])/\∃ kvs:List (B3×V),ps=kvs.map (fun kv=>(kV kv.1,kv.2))/\kvs.length<=15/\Q (.ref p) (A0 H2 p (.dK (Z0 [] kvs))):=rfl
theorem aot{Q:List (V×V)->Hp->Prop} : kJ [] Y H Q=Q [] H:=rfl
theorem al3{r:List (TE×TE)}{Q:List (V×V)->Hp->Prop} : kJ ((tk,tv)::r) Y H Q=tk Y H fun x H1=>tv Y H1 fun y H2=>kJ r Y H2 fun ps H3=>Q ((x,y)::ps) H3:=rfl
theorem al4 : vW td ty tx Y H Q=td Y H fun x H1=>∃ a,x=.ref a/\gQ H1 a/\ty Y H1 fun y H2=>tx Y H2 fun z H3=>∃ o,DGet H3 a y o/\Q (o.getD z) H3:=rfl
theorem ad6:∀ {zs:List Str} {us:List Value},Vals (zs.map V.str) us->StrsAre us zs
 | [],_,.nil=>.nil
 | z::zs,_::_,.cons ⟨t,h⟩ r=>by subst h;exact .cons _ _ (ad6 r)
end L2
namespace L2
open PySem PySem.Spec PyProof.Rows
theorem acW:entryFor table "dict.update.loop"=some Builtin.«dict.update.loop»:=entryFor_of_tree (by kernel_rfl)
theorem rT:plainId "dict.update.loop"=true:=by decide +kernel
section
variable {prog:Program} {w:World} {A:Around} {R:Result->Shared->Prop} {I:Addr} {fp wr:List Addr} {G:Array GenState->Array GenState->Prop} {n:Nat} {P:Nat->Value->Prop} {St:Nat->Shared->Prop}
variable {K:Type} [DecidableEq K] {knd:KeyKind prog w K}
noncomputable def x8 (ks:Nat->K) (vl:Nat->Value):Nat->List (K×Value)
 | 0=>[]
 | i+1=>stored (x8 ks vl i) (ks i) (vl i)
theorem aex(ks:Nat->K)(vl:Nat->Value):∀ i,(x8 ks vl i).length<=i
 | 0=>C3 _
 | i+1=>by
  have h1:=aex ks vl i;have h2:(stored (x8 ks vl i) (ks i) (vl i)).length<=(x8 ks vl i).length+1:=by
   unfold stored
   split
   .rw [A6];lia
   .rw [D6];exact C3 _
  show (stored (x8 ks vl i) (ks i) (vl i)).length<=i+1;lia
theorem aj7(W:WalksS prog w A.in1 I fp wr G n P St)(d:Addr)(bO:d∉fp)(tp:Nat->Addr)(ky vl:Nat->Value)(ks:Nat->K)(hP:∀ i v,P i v->v=.ref (tp i))(hk:∀ i,i<n->knd.is (ks i) (ky i)=true)(ht:∀ i,i<n->tp i≠d/\tp i∉wr)(hn:n<=sizeLine) :
  ∀ (k i:Nat) (s:Shared) (j:Int) (t:Tok),n-i=k->i<=n->St i s->(∀ i,i<n->IsTup s.heap (tp i) #[ky i,vl i])->s.heap.DictOf knd d (x8 ks vl i)->
   (∀ s',Moved (d::wr) G s s'->s'.heap.DictOf knd d (x8 ks vl n)->R (.ok (.ret .none)) s')->
   codeAny (model prog w) A (.builtin "dict.update.loop" ⟨[.ref d,.ref I,.int j t,.none],[]⟩) R s:=by
 have hdw:d∉wr:=fun h=>bO (W.sub _ h)
 have pV:∀ b∈wr,b∈d::wr:=fun b hb=>O5 _ hb
 intro k
 induction k with
 | zero=>
  intro i s j t hk' hi b9 hT hD hR;have F6:i=n:=by lia
  subst F6;refine codeAny_builtin acW ?_;rw [Around.under_plainId rT _];show wpAny _ A.in1 (pyNext (.ref I) >>= _) _ _ s;refine wpAny_bind (W.done s _ _ b9 fun s' hm=>?_);have e0:Builtin.Dict.addKeywords d []=pure ():=rfl;show wpAny _ A.in1 (Builtin.Dict.addKeywords d [] >>= fun _=>ret Value.none) _ _ s';rw [e0];refine wpAny_bind (wpAny_pure (wpAny_pure (hR s' (hm.mono pV) ?_)));obtain ⟨o,es,ep,ho,rest⟩:=hD;exact ⟨o,es,ep,hm.heap d _ hdw ho,rest⟩
 | succ k ih=>
  intro i s j t hk' hi b9 hT hD hR;have C5:i<n:=by lia
  refine codeAny_builtin acW ?_;rw [Around.under_plainId rT _];show wpAny _ A.in1 (pyNext (.ref I) >>= _) _ _ s;refine wpAny_bind (W.item i s _ _ C5 b9 fun v s' hv hst' hm=>?_);obtain rfl:=hP i v hv;have hD':s'.heap.DictOf knd d (x8 ks vl i):=by
   obtain ⟨o,es,ep,ho,rest⟩:=hD;exact ⟨o,es,ep,hm.heap d _ hdw ho,rest⟩
  have hT':∀ i,i<n->IsTup s'.heap (tp i) #[ky i,vl i]:=fun i hi=>by
   obtain ⟨o,ho,rest⟩:=hT i hi;exact ⟨o,hm.heap _ _ (ht i hi).2 ho,rest⟩
  have hTi:=hT' i C5;obtain ⟨o,ho,zX,n0,tZ⟩:=id hTi;refine wpAny_bind (wpAny_holding (wpAny_bind (wpAny_tryCatch ?_)));unfold Builtin.Dict.pairItems;refine wpAny_bind (wpAny_typeOf hTi.typeIs ?_);rw [if_pos (by decide)];refine wpAny_bind (wpAny_seqItems ho tZ ?_);refine wpAny_pure ?_;show wpAny _ _ (holding [ky i,vl i] (dictSet d (ky i) (vl i))) _ _ s';have hl:=aex ks vl i;refine wpAny_holding (wpAny_dictSet_pairs (hk i C5) hD' (fun h' hD2 hsb=>?_) 'a');refine wpAny_pure ⟨plainId_quiet rT _,ih (i+1) _ (j+1) 0 'a' C5 (W.frame _ s' _ _ hst' (Nat.le_succ _) fun b hb o e=>?_) (fun i hi=>?_) hD2 fun s'' hm'' hD''=>?_⟩
  .rw [hsb.2 b (fun h:b=d=>bO (by rw [<- h];exact hb))];exact e
  .obtain ⟨o,ho,rest⟩:=hT' i hi;exact ⟨o,(hsb.2 _ (ht i hi).1).trans ho,rest⟩
  .refine hR s'' (Moved.trans W.gtrans ((hm.mono pV).then_heap (Nat.le_succ _) fun b o hb e=>?_) hm'') hD'';rw [hsb.2 b (fun h:b=d=>hb (by rw [h];exact M7))];exact e
end
theorem aiK:typeLookup (.type "list") "__getattribute__"=pure (some (.builtin "list.__getattribute__")):=by rw [typeLookup_type,builtinLookup_eq_fast];kernel_rfl
theorem agh:typeLookup (.type "list") "keys"=pure none:=by rw [typeLookup_type,builtinLookup_eq_fast];kernel_rfl
theorem agi:typeLookup (.type "list") "__getattr__"=pure none:=by rw [typeLookup_type,builtinLookup_eq_fast];kernel_rfl
theorem agj{w:World}{l:Addr}{xs:Array Value}{Q:Option Value->Shared->Prop}(hx:s.heap.get? l=some o)(hc:o.cls=.type "list")(pW:o.data=.seq xs k)(hd:o.dict=none)(hA:A.handled=none)(h:∀ h' tk,(∀ b o,s.heap.get? b=some o->h'.get? b=some o)->Q none { s with heap:=h',toks:=tk }):wpAny (model prog w) A (getAttr? (.ref l) "keys") Q E s:=by
 obtain ⟨c,dct,dat,sl⟩:=o;simp only at hc pW hd;subst hc pW hd;obtain ⟨hp,g,d,tk,os⟩:=s;have hT:∀ tk',(⟨hp,g,d,tk',os⟩:Shared).TypeIs (.ref l) "list":=fun _=>⟨_,hx,rfl⟩
 have f4:=F.slot_list_getattribute.bind (.ref l);unfold getAttr? getAttrBy? getAttrBy;refine wpAny_bind (wpAny_mkText (wpAny_bind (wpAny_attempt (wpAny_holding (wpAny_bind (wpAny_typeOf (hT _) ?_))))));rw [aiK];refine wpAny_bind (wpAny_pure ?_);show wpAny _ _ (getAttrByItsOwn _ _ _ _ _ _) _ _ _;unfold getAttrByItsOwn;refine wpAny_bind (wpAny_pure ?_);refine wpAny_bind (wpAny_attempt (wpAny_holding ?_));show wpAny _ _ (boundAndCalled _ _ _) _ _ _;unfold boundAndCalled;rw [f4];refine wpAny_bind (wpAny_pure ?_);refine call_meets F.slot_list_getattribute (hT _) am_entry_list_getattribute (F.args_list_getattribute_2 _ _) (meets_getattribute_miss_list l xs k sl "keys" _ agh 'd' 'd') ⟨hx,hA,fun h' tk' e new=>?_⟩;obtain ⟨t',u',he⟩:=new.there;have hTe:∀ tk',(⟨h',g,d,tk',os⟩:Shared).TypeIs (.ref e) "AttributeError":=fun _=>⟨_,he,rfl⟩
 show wpAny _ _ (getattributeRaised _ _ _ _ _ _ _) _ _ _;unfold getattributeRaised;refine wpAny_bind (wpAny_isInstance (hTe _) sub_AttributeError ?_);rw [if_pos rfl];show wpAny _ _ (hookBehind _ _ >>= _) _ _ _;unfold hookBehind;rw [if_neg (by decide),agi];refine wpAny_bind (wpAny_pure ?_);unfold hookOrError attributeErrorLeaves;show wpAny _ _ (if (!false)=true then _ else _) _ _ _;rw [if_pos (by decide)];refine wpAny_bind (wpAny_throw ?_);show wpAny _ _ (isInstance _ _ >>= _) _ _ _;refine wpAny_bind (wpAny_isInstance (hTe _) sub_AttributeError ?_);rw [if_pos rfl];exact wpAny_pure (h h' tk' new.keeps)
section
variable {prog:Program} {w:World} {A:Around} {E:Value->Shared->Prop} {s:Shared} {K:Type} [DecidableEq K] {knd:KeyKind prog w K}
theorem aey{l:Addr}{Q:Value->Shared->Prop}(hl:PlainL s.heap l items)(hA:A.handled=none)(tp:Nat->Addr)(ky vl:Nat->Value)(ks:Nat->K)(hP:∀ (i:Nat) (v:Value),items[i]?=some v->v=Value.ref (tp i))(hk:∀ i,i<items.size->knd.is (ks i) (ky i)=true)(hT:∀ i,i<items.size->IsTup s.heap (tp i) #[ky i,vl i])(hn:items.size<=sizeLine)(h:∀ h' tk,(∀ b o,s.heap.get? b=some o->h'.get? b=some o)->h'.DictOf knd s.heap.objs.size (x8 ks vl items.size)->Q (.ref s.heap.objs.size) { s with heap:=h',toks:=tk }) :
  wpAny (model prog w) A (call (.type "dict") [.ref l]) Q E s:=by
 refine callType_codes (Q₁:=fun obj zu=>obj=.ref s.heap.objs.size/\zu={ s with heap:=s.heap.push { cls:=.type "dict",data:=.dict #[] } }) F.kt_called_dict (F.kt_typeCall_dict_1 _) F.entry_dict_init (kt_code_dict_new _ ⟨rfl,rfl⟩) ?_;rintro obj zu ⟨rfl,rfl⟩;have U3:(s.heap.push { cls:=.type "dict",data:=.dict #[] }).DictOf knd s.heap.objs.size []:=Heap.DictOf.new s.heap;obtain ⟨ol,nl,hol,hlc,hld,fO⟩:=hl;have iX:(s.heap.push { cls:=.type "dict",data:=.dict #[] }).get? l=some ol:=Heap.get?_push_of_some _ hol;have C5:l<s.heap.objs.size:=Heap.lt_size hol;refine ⟨U3.typeIs,F.args_dict_init_2 _ _,?_⟩;unfold Builtin.«dict.__init__»;refine wpAny_bind ?_;unfold Builtin.Dict.selfAndRest;refine wpAny_bind (wpAny_notOrdered_dict U3.typeIs ?_);show wpAny _ _ (pure (s.heap.objs.size,[Value.ref l])) _ _ _;refine wpAny_pure ?_;show wpAny _ _ (Builtin.Dict.updateFrom "dict.__init__" s.heap.objs.size (.ref l) [] .none) _ _ _;unfold Builtin.Dict.updateFrom;refine wpAny_bind (wpAny_typeOf (T:="list") ⟨_,iX,hlc⟩ ?_);rw [if_pos (by decide)];refine wpAny_bind (agj iX hlc fO hld (by simp [hA]) fun h2 tk2 keep2=>?_);rw [if_pos (show (none:Option Value).isNone=true from rfl)];refine wpAny_bind (wpAny_rule ?_);have V8:h2.IsList l items:=⟨ol,keep2 _ _ iX,hlc,nl,fO⟩
 refine wpAny_bind (wpAny_pyIter_list V8 ?_);obtain ⟨od,es,ep,tZ,restd⟩:=U3;have dG:s.heap.objs.size<h2.objs.size:=Heap.lt_size (keep2 _ _ tZ);have G8:l≠h2.objs.size:=M4 (Nat.lt_trans C5 dG);have hh:A.in1.in1.handled=none:=by simp [hA]
 have bO:s.heap.objs.size∉[h2.objs.size,l]:=by
  simp only [L4,cB,or_false,not_or];exact ⟨M4 dG,Nat.ne_of_gt C5⟩
 have pX:∀ i,i<items.size->tp i<s.heap.objs.size:=fun i hi=>by
  obtain ⟨o,ho,_⟩:=hT i hi;exact Heap.lt_size ho
 refine wpAny_pure ⟨plainId_quiet rT _,aj7 ((Walks.list hh _ l G8 items).toS) s.heap.objs.size bO tp ky vl ks hP hk (fun i hi=>⟨M4 (pX i hi),?_⟩) hn (items.size-0) 0 _ 0 0 'a' (G4 _) ⟨⟨_,Heap.get?_push_size _ rfl,rfl,rfl⟩,V8.push _⟩ (fun i hi=>?_) ?_ fun s' hm hD'=>?_⟩
 .simp only [L4,cB,or_false];exact M4 (Nat.lt_trans (pX i hi) dG)
 .obtain ⟨o,ho,rest⟩:=hT i hi;exact ⟨o,Heap.get?_push_of_some _ (keep2 _ _ (Heap.get?_push_of_some _ ho)),rest⟩
 .exact ⟨od,es,ep,Heap.get?_push_of_some _ (keep2 _ _ tZ),restd⟩
 .obtain ⟨h',g',d',tk',os'⟩:=s';have eg:g'=s.gens:=hm.gens;have ed:d'=s.drawn:=hm.drawn;have eo:os'=s.os:=hm.os;subst eg ed eo;refine ⟨rfl,h h' tk' (fun b o hb=>hm.heap b o ?_ (Heap.get?_push_of_some _ (keep2 _ _ (Heap.get?_push_of_some _ hb)))) hD'⟩;have pY:b<s.heap.objs.size:=Heap.lt_size hb;simp only [L4,cB,or_false,not_or];exact ⟨M4 pY,M4 (Nat.lt_trans pY dG)⟩
end
noncomputable def ard (K:PySem.W.Frag) (calm:Bool):List V->Hp->VK->Prop:=fun xs H Q=>calm=true/\∃ (p:Addr) (ts:List Addr) (kxs:List (B3×V)),xs=[.ref p]/\D8 K H p (ts.map V.ref)/\Paired (fun t kx=>B1 K H t [kV kx.1,kx.2]) ts kxs/\∀ d,H d=none->Q (.ref d) (A0 H d (.dK (Z0 [] kxs)))
theorem ahY(I:Inv X pins Y H s):∀ {ts:List Addr} {kxs:List (B3×V)},Paired (fun t kx=>B1 X.K H t [kV kx.1,kx.2]) ts kxs->
  ∃ ws:List (Value×Value),Paired (fun t w=>IsTup s.heap t #[w.1,w.2]) ts ws/\Paired (fun (kx:B3×V) (w:Value×Value)=>keyIs kx.1 w.1=true/\RelV kx.2 w.2) kxs ws
 | _,_,.nil=>⟨[],.nil,.nil⟩
 | _,_,.cons h t=>by
  obtain ⟨ws,h1,h2⟩:=ahY I t;obtain ⟨its,r,ht,_⟩:=I.tuple h;obtain ⟨u1,u2,rfl,r1,r2⟩:=vals2 r;exact ⟨(u1,u2)::ws,.cons ht h1,.cons ⟨kV_is (P:=X.prog) (w:=X.w) r1,r2⟩ h2⟩
theorem aj8:∀ {ts:List Addr} {us:List Value},Vals (ts.map V.ref) us->us=ts.map Value.ref
 | [],_,.nil=>rfl
 | t::ts,_::_,.cons h r=>by
  rw [G0,<- aj8 r];cases h;rfl
theorem aj9(hK:X.K=K:=by rfl)(hc:X.calm=calm:=by rfl):QCall X (.type "dict") (ard K calm):=⟨by
 subst hK;intro pins s Y H xs us Q I r h;obtain ⟨pU,p,ts,kxs,rfl,hp,hP,q⟩:=h;obtain ⟨u,rfl,rx⟩:=vals1 r
 cases rx
 obtain ⟨its,r',pl,hz⟩:=I.list hp;have pZ:=aj8 r';obtain ⟨ws,h1,h2⟩:=ahY I hP;have dH:ts.length=ws.length:=Paired.length h1;have V8:kxs.length=ws.length:=Paired.length h2;rw [A6] at hz;have hsz:its.toArray.size=ts.length:=by rw [K9,pZ,A6]
 have hrel:∀ i,i<=ts.length->KV (Z0 [] (kxs.take i)) (x8 (fun i=>(kxs.getD i (Sum.inl 0,.non)).1) (fun i=>(ws.getD i (.none,.none)).2) i):=by
  intro i
  induction i with
  | zero=>intro _;exact .nil
  | succ i ih=>
   intro hi;have dI:i<kxs.length:=by lia
   obtain ⟨w',hw,hr⟩:=Paired.at h2 (J5 dI);have e1:Z0 [] (kxs.take (i+1))=putK (Z0 [] (kxs.take i)) kxs[i].1 kxs[i].2:=by
    unfold Z0;rw [v6,J5 dI,Option.toList_some,aN];rfl
   rw [e1];show KV _ (stored _ (kxs.getD i (Sum.inl 0,.non)).1 (ws.getD i (.none,.none)).2);have e2:(kxs.getD i (Sum.inl 0,.non))=kxs[i]:=by rw [aK,J5 dI];rfl
   have e3:(ws.getD i (.none,.none))=w':=by rw [aK,hw];rfl
   rw [e2,e3];exact (ih 'a').put _ hr.2
 refine aey (knd:=N4 X.prog X.w) pl (I.ok.hd (hc.trans pU)) (fun i=>ts.getD i 0) (fun i=>(ws.getD i (.none,.none)).1) (fun i=>(ws.getD i (.none,.none)).2) (fun i=>(kxs.getD i (Sum.inl 0,.non)).1) (fun i v hv=>?_) (fun i hi=>?_) (fun i hi=>?_) 'a' fun h' tk keep hD=>?_
 .rw [<- Array.getElem?_toList,pZ,R6] at hv;rw [aK];cases e:ts[i]? with
  | none=>rw [e] at hv;cases hv
  | some t=>rw [e] at hv;cases hv;rfl
 .obtain ⟨w',hw,hr⟩:=Paired.at h2 (J5 (show i<kxs.length by lia));have e2:(kxs.getD i (Sum.inl 0,.non))=kxs[i]'(by lia):=by rw [aK,J5 (show i<kxs.length by lia)];rfl
  have e3:(ws.getD i (.none,.none))=w':=by rw [aK,hw];rfl
  rw [e2,e3];exact hr.1
 .have hi':i<ts.length:=by lia
  obtain ⟨w',hw,hr⟩:=Paired.at h1 (J5 hi');have e3:(ws.getD i (.none,.none))=w':=by rw [aK,hw];rfl
  have e4:ts.getD i 0=ts[i]:=by rw [aK,J5 hi'];rfl
  rw [e3,e4];exact hr
 .have hD2:KV (Z0 [] kxs) (x8 (fun i=>(kxs.getD i (Sum.inl 0,.non)).1) (fun i=>(ws.getD i (.none,.none)).2) its.toArray.size):=by
   have:=hrel ts.length (C3 _)
   rw [v4 'a'] at this;rw [hsz];exact this
  have A9:=adC kxs [];rw [Z6] at A9;exact ⟨.ref s.heap.objs.size,_,I.laid (t':=tk) keep (C3 _) (vR 'a' (beq_eq_false_iff_ne.mpr (Ne.symm (M4 I.big))) hD2 hD),rfl,q _ (I.hok.fresh (C3 _))⟩⟩
section
variable {X:Cx} {pins:List (Addr×Obj)} {Y:St} {H:Hp} {s:Shared} {h':Heap}
theorem Inv.turnNew{ch:List Addr}{T:Addr}{o:HO}(I:Inv X pins Y H s)(hf:∀ b∈ch,FpOk X pins H b)(k:∀ b u,b∉ch->s.heap.get? b=some u->h'.get? b=some u)(hT:s.heap.objs.size<=T)(new:ObjOk X.prog X.w (A0 H T o) h' T o):Inv X pins Y (A0 H T o) { s with heap:=h',toks:=t' }:=by
 have hn:H T=none:=I.hok.fresh hT;have nch:∀ b u,H b=some u->b∉ch:=fun b u e z=>by rw [(hf b z).1] at e;cases e
 have neT:∀ b u,s.heap.get? b=some u->b≠T:=fun b u e=>M4 (W2 (Heap.lt_size e) hT)
 refine I.step (g':=s.gens) (d':=s.drawn) (ch:=ch) (fun b hb=>?_) (fun b u _ _ hc e _=>k b u hc e) (fun b u _ _ hc e _=>⟨u.slots,k b u hc e⟩) (fun b u _ e n=>by rw [A7 (neT b u e)];exact n)
  (fun b u hc e=>⟨u,k b u hc e⟩) (fun b xs e=>C8 e hn) (fun b ob u e=>C8 e hn) (fun b ps e=>⟨#[],by rw [C8 e hn];simp⟩) (fun m hm=>?_) (fun b u e=>?_) I.bare
 .obtain ⟨f0,f1,f2,f3,f4,f5⟩:=hf b hb;exact ⟨f3,f1,f4,f5⟩
 .obtain ⟨ob,es,ep,ho,r⟩:=hm;exact ⟨ob,es,ep,k _ ob (fun z=>(hf _ z).2.1 rfl) ho,r⟩
 .by_cases hb:b=T
  .subst hb;rw [A3] at e;cases e;exact new
  .rw [A7 hb] at e;refine (I.hok b u e).stay (fun c v hc q=>k c v ?_ q) (fun c q=>C8 q hn) fun c xs q=>C8 q hn
   rcases hc with z | z
   .rw [z];exact nch b u e
   .exact nch c _ z
end
theorem r8{a b:Nat}(h:a<b\/b<a):(show Addr from a)≠(show Addr from b):=fun e=>by
 have e:a=b:=e;lia
noncomputable def rV (l1 l2 : Addr) : It :=
  ⟨fun i H => ∃ xs ys x y, H l1 = some (.lst xs) /\ H l2 = some (.lst ys) /\ xs[i]? = some x /\ ys[i]? = some y,
   fun i H v H' => ∃ t xs ys x y, H l1 = some (.lst xs) /\ H l2 = some (.lst ys) /\ xs[i]? = some x /\ ys[i]? = some y /\ H t = none /\ v = .ref t /\ H' = A0 H t (.tup [x, y]),
   fun i H => ∃ xs ys, H l1 = some (.lst xs) /\ H l2 = some (.lst ys) /\ (xs.length <= i \/ ys.length <= i)⟩
theorem al5{P:Program}{w:World}{pos:Pos}(z TI TO i1 i2 l1 l2:Addr)(a1:TI≠z)(a2:TO≠z)(a3:i1≠z)(a4:i2≠z)(a5:TI≠TO)(a6:TI≠i1)(a7:TI≠i2)(a8:TO≠i1)(a9:TO≠i2)(a10:i1≠i2) :
  Turn P w K (.Tuple elts x1 pos) (rV l1 l2) [z,TO,i1,i2,TI] z (fun i h=>IsZip h z TI TO .none/\IsPair h TI (.ref i1) (.ref i2)/\(∃ a b,IsPair h TO a b)/\h.IsListIter i1 l1 i/\h.IsListIter i2 l2 i) where
 mem:=by simp
 obj:=fun i h ⟨hz,hTI,⟨a,b,hTO⟩,h1,h2⟩ c hc=>by
  have e:c=z\/c=TO\/c=i1\/c=i2\/c=TI:=by simpa using hc
  rcases e with rfl | rfl | rfl | rfl | rfl
  .exact ⟨_,hz,fun v q=>by cases q⟩
  .exact ⟨_,hTO,fun v q=>by cases q⟩
  .obtain ⟨o,e,c,d⟩:=h1;exact ⟨o,e,fun v z=>by rw [d] at z;cases z⟩
  .obtain ⟨o,e,c,d⟩:=h2;exact ⟨o,e,fun v z=>by rw [d] at z;cases z⟩
  .exact ⟨_,hTI,fun v q=>by cases q⟩
 keep:=fun i h h' ⟨hz,hTI,⟨a,b,hTO⟩,h1,h2⟩ k=>⟨k z 'c' _ hz,k TI 'c' _ hTI,⟨a,b,k TO 'c' _ hTO⟩,h1.at fun o e=>k i1 'c' o e,h2.at fun o e=>k i2 'c' o e⟩
 item:=by
  intro X hP hw hK hc i pins s Y H E I hf ⟨hz,hTI,⟨a,b,hTO⟩,h1,h2⟩ hg;subst hP hw hK;obtain ⟨xs,ys,x,y,e1,e2,hx,hy⟩:=hg;obtain ⟨its1,Y1,p1,_⟩:=I.list (D8.of (K:=X.K) e1);obtain ⟨its2,uA,p2,_⟩:=I.list (D8.of (K:=X.K) e2);obtain ⟨u1,B5,r1⟩:=Y1.get hx;obtain ⟨u2,fP,r2⟩:=uA.get hy;have nl:∀ c∈[z,TO,i1,i2,TI],l1≠c/\l2≠c:=fun c hc=>⟨fun q=>(by rw [q,(hf c hc).1] at e1;cases e1),fun q=>(by rw [q,(hf c hc).1] at e2;cases e2)⟩
  have D:ZipApart z TI TO i1 i2 l1 l2:=⟨a1,a2,a3,a4,a5,a6,a7,a8,a9,a10,(nl z 'c').1,(nl TO 'c').1,(nl i1 'c').1,(nl i2 'c').1,(nl z 'c').2,(nl TO 'c').2,(nl i1 'c').2,(nl i2 'c').2⟩
  refine wpAny_pyNext_zip_item D hz hTI hTO h1 h2 p1.isList p2.isList (x:=u1) (y:=u2) (by simpa using B5) (by simpa using fP) fun h' b1 b2 b3 b4 b5 b6 b7=>⟨_,rfl,wpAny_letOwnedTupleGo_zip b1 fun h2' c1 c2=>?_⟩
  have P9:z<s.heap.objs.size:=Heap.lt_size hz;have up:∀ c o,c≠z->h'.get? c=some o->h2'.get? c=some o:=fun c o hc e=>(c2.2 c hc).trans e
  have nT:∀ c∈[z,TO,i1,i2,TI],c≠s.heap.objs.size:=fun c hc=>by
   have e:c=z\/c=TO\/c=i1\/c=i2\/c=TI:=by simpa using hc
   refine M4 ?_
   rcases e with rfl | rfl | rfl | rfl | rfl
   .exact Heap.lt_size hz
   .exact Heap.lt_size hTO
   .obtain ⟨o,e,_⟩:=h1;exact Heap.lt_size e
   .obtain ⟨o,e,_⟩:=h2;exact Heap.lt_size e
   .exact Heap.lt_size hTI
  have hT:=up _ _ (Nat.ne_of_gt P9) b5;refine ⟨.ref s.heap.objs.size,A0 H s.heap.objs.size (.tup [x,y]),I.turnNew (t':=s.toks) (ch:=[z,TO,i1,i2,TI]) hf (fun c u hc e=>?_) (C3 _) ⟨by show 2<=sizeLine;decide,[u1,u2],.cons r1 (.cons r2 .nil),?_⟩,rfl,⟨_,xs,ys,x,y,e1,e2,hx,hy,I.fresh,rfl,rfl⟩,
   ⟨c1,up _ _ a1 (b7 _ _ a1 a5 a6 a7 hTI),⟨_,_,up _ _ a2 b2⟩,b3.at fun o e=>up _ o a3 e,b4.at fun o e=>up _ o a4 e⟩,fun c hc=>by rw [A7 (nT c hc)];exact (hf c hc).1⟩
  .have q:c≠z/\c≠TO/\c≠i1/\c≠i2:=by
    refine ⟨fun q=>hc (by simp [q]),fun q=>hc (by simp [q]),fun q=>hc (by simp [q]),fun q=>hc (by simp [q])⟩
   exact up c u q.1 (b7 c u q.1 q.2.1 q.2.2.1 q.2.2.2 e)
  .exact ⟨_,hT,rfl,_,rfl⟩
 done:=by
  intro X hP hw hK hc i pins s Y H E I hf ⟨hz,hTI,⟨a,b,hTO⟩,h1,h2⟩ hg;subst hP hw hK;obtain ⟨xs,ys,e1,e2,iY⟩:=hg;obtain ⟨its1,Y1,p1,_⟩:=I.list (D8.of (K:=X.K) e1);obtain ⟨its2,uA,p2,_⟩:=I.list (D8.of (K:=X.K) e2);have q1:=Y1.length;have q2:=uA.length;have nl:∀ c∈[z,TO,i1,i2,TI],l1≠c/\l2≠c:=fun c hc=>⟨fun q=>(by rw [q,(hf c hc).1] at e1;cases e1),fun q=>(by rw [q,(hf c hc).1] at e2;cases e2)⟩
  have D:ZipApart z TI TO i1 i2 l1 l2:=⟨a1,a2,a3,a4,a5,a6,a7,a8,a9,a10,(nl z 'c').1,(nl TO 'c').1,(nl i1 'c').1,(nl i2 'c').1,(nl z 'c').2,(nl TO 'c').2,(nl i1 'c').2,(nl i2 'c').2⟩
  refine wpAny_pyNext_zip_end (I.ok.hd hc) D hz hTI hTO h1 h2 p1.isList p2.isList (by rcases iY with q | q <;> simp <;> lia) fun h' k=>⟨rfl,?_⟩
  refine I.step (h':=h') (t':=s.toks) (g':=s.gens) (d':=s.drawn) (ch:=[z,TO,i1,i2,TI]) (fun b hb=>?_) (fun b u _ _ hc e _=>?_) (fun b u _ _ hc e _=>⟨u.slots,?_⟩) (fun b u _ e n=>n)
   (fun b u hc e=>⟨u,?_⟩) (fun b xs e=>e) (fun b ob u e=>e) (fun b ps e=>⟨#[],by rw [e];simp⟩) (fun m hm=>?_) (fun b u e=>?_) I.bare
  .obtain ⟨f0,f1,f2,f3,f4,f5⟩:=hf b hb;exact ⟨f3,f1,f4,f5⟩
  .exact k b u (fun q=>hc (by simp [q])) (fun q=>hc (by simp [q])) (fun q=>hc (by simp [q])) (fun q=>hc (by simp [q])) e
  .exact k b u (fun q=>hc (by simp [q])) (fun q=>hc (by simp [q])) (fun q=>hc (by simp [q])) (fun q=>hc (by simp [q])) e
  .exact k b u (fun q=>hc (by simp [q])) (fun q=>hc (by simp [q])) (fun q=>hc (by simp [q])) (fun q=>hc (by simp [q])) e
  .obtain ⟨ob,es,ep,ho,r⟩:=hm;have nL:∀ c∈[z,TO,i1,i2,TI],X.env.locals≠c:=fun c hc q=>(hf c hc).2.1 q.symm
   exact ⟨ob,es,ep,k _ ob (nL z 'c') (nL TO 'c') (nL i1 'c') (nL i2 'c') ho,r⟩
  .have nch:∀ b u,H b=some u->∀ c∈[z,TO,i1,i2,TI],b≠c:=fun b u e c hc q=>by rw [q,(hf c hc).1] at e;cases e
   refine (I.hok b u e).stay (fun c v hc q=>?_) (fun c q=>q) fun c xs q=>q
   have:∀ d∈[z,TO,i1,i2,TI],c≠d:=by
    rcases hc with z | z
    .rw [z];exact nch b u e
    .exact nch c _ z
   exact k c v (this z 'c') (this TO 'c') (this i1 'c') (this i2 'c') q
 self:=fun _ _ _ _ _ st h=>wpAny_pyIter_zip st.1 h
section
variable {X:Cx}
noncomputable def iZip (ta:TA):TI:=fun Y H R=>ta Y H fun vs H1=>∃ (l1 l2:Addr) (xs ys:List V),vs=[.ref l1,.ref l2]/\H1 l1=some (.lst xs)/\H1 l2=some (.lst ys)/\R (rV l1 l2) H1
theorem are{a b:Expr}{p pos:Pos}(hg:Gl X "zip")(hm:X.mg "zip"=none)(ha:PA X [a,b] ta)(h1:L5 a=false:=by rfl)(h2:L5 b=false:=by rfl) :
  PI X (.Tuple elts x1 tpos) (.Call (.Name "zip" p) [a,b] [] pos) (iZip ta):=by
 intro pins s Y H R I h;refine Call_ (cH I hg hm boot_zip (PyProof.Rows.callWith_type1 (A8 (ha pos pins s Y H _ I h) fun us s1 ⟨vs,H1,I1,r1,q1⟩=>?_) (O7 h1) (by rw [O7 h2];rfl)));obtain ⟨l1,l2,xs,ys,rfl,e1,e2,q⟩:=q1;obtain ⟨u1,u2,rfl,iZ,ru2⟩:=vals2 r1
 cases iZ
 cases ru2
 obtain ⟨its1,Y1,p1,_⟩:=I1.list (D8.of (K:=X.K) e1);obtain ⟨its2,uA,p2,_⟩:=I1.list (D8.of (K:=X.K) e2);refine call_zip_2 p1.isList p2.isList fun h' z1 z2 z3 z4 z5 z6 z7=>wpAny_pyIter_zip z1 ?_
 refine ⟨s1.heap.objs.size+4,[s1.heap.objs.size+4,s1.heap.objs.size+3,s1.heap.objs.size,s1.heap.objs.size+1,s1.heap.objs.size+2],_,_,H1,rfl,I1.kept (t':=s1.toks) z7,
  al5 _ (s1.heap.objs.size+2) (s1.heap.objs.size+3) s1.heap.objs.size (s1.heap.objs.size+1) l1 l2 (r8 'a') (r8 'a') (r8 'a') (r8 'a') (r8 'a') (r8 'a') (r8 'a') (r8 'a') (r8 'a') (r8 'a'),⟨z1,z2,⟨_,_,z3⟩,z4,z5⟩,fun b hb=>?_,q⟩
 have c0:s1.heap.objs.size<=b:=by
  have e:b=s1.heap.objs.size+4\/b=s1.heap.objs.size+3\/b=s1.heap.objs.size\/b=s1.heap.objs.size+1\/b=s1.heap.objs.size+2:=by simpa using hb
  rcases e with rfl | rfl | rfl | rfl | rfl
  .exact eI _ _
  .exact eI _ _
  .exact C3 _
  .exact eI _ _
  .exact eI _ _
 exact I1.fpOk c0 (I1.hok.fresh c0)
theorem arf{a b:Expr}{p pos:Pos}(hm:X.mg "zip"=none)(ha:QA X [a,b] ta)(hg:Gl X "zip":=by rfl)(h1:L5 a=false:=by rfl)(h2:L5 b=false:=by rfl) :
  QI X (.Tuple elts x1 tpos) (.Call (.Name "zip" p) [a,b] [] pos) (iZip ta):=⟨are hg hm ha.out h1 h2⟩
end
theorem aou{R:It->Hp->Prop} : iZip ta Y H R=ta Y H fun vs H1=>∃ (l1 l2:Addr) (xs ys:List V),vs=[.ref l1,.ref l2]/\H1 l1=some (.lst xs)/\H1 l2=some (.lst ys)/\R (rV l1 l2) H1:=rfl
theorem forZ{l1 l2:Addr}(Pv:Nat->St->Hp->Prop)(h0:Pv 0 Y H)(hl:∀ i Y H,Pv i Y H->H l1=some (.lst xs)/\H l2=some (.lst ys))(hs:∀ i x y t Y H,xs[i]?=some x->ys[i]?=some y->Pv i Y H->H t=none->g (.ref t) Y (A0 H t (.tup [x,y])) fun σ2 H2=>tb { D with nx:=Pv (i+1),ct:=Pv (i+1),bk:=D.nx } σ2 H2)(hd:∀ Y H,Pv (min xs.length ys.length) Y H->D.nx Y H):ForIt (rV l1 l2) g tb D Y H:=by
 refine ⟨fun i m Y H=>m=min xs.length ys.length-i/\i<=min xs.length ys.length/\Pv i Y H,⟨min xs.length ys.length,by simp,G4 _,h0⟩,?_⟩;rintro i m Y H ⟨rfl,hi,p⟩;obtain ⟨e1,e2⟩:=hl i Y H p
 by_cases C5:i<min xs.length ys.length
 .refine .inr ⟨⟨xs,ys,xs[i]'(by lia),ys[i]'(by lia),e1,e2,by simp,by simp⟩,Pv (i+1),fun σ' H' p'=>⟨_,by lia,rfl,C5,p'⟩,fun v H' y=>?_⟩;obtain ⟨t,xs',ys',x,y',f1,f2,hx,hy,ht,rfl,rfl⟩:=y;rw [e1] at f1;cases f1;rw [e2] at f2;cases f2;exact hs i x y' t Y H hx hy p ht
 .have e:i=min xs.length ys.length:=by lia
  subst e;exact .inl ⟨⟨xs,ys,e1,e2,by lia⟩,hd Y H p⟩
noncomputable def Itr3 (lo st:Int) (n:Nat):It:=⟨fun i _=>i<n,fun i H x H'=>H'=H/\x=.int (lo+i*st),fun i _=>n<=i⟩
theorem afa:∀ {vs:List Value} {zs:List Str},StrsAre vs zs->∀ {j:Nat} {z:Str},zs[j]?=some z->∃ t,vs[j]?=some (.str z t)
 | _,_,.nil,_,_,h=>by simp at h
 | _,_,.cons _ _ _,0,_,h=>by simp at h;subst h;exact ⟨_,rfl⟩
 | _,_,.cons _ _ r,j+1,z,h=>by
  obtain ⟨t,q⟩:=afa r (j:=j) (z:=z) (by simpa using h);exact ⟨t,by simpa using q⟩
theorem agk{α β:Type}(f:α->β):∀ (l:List α) (i:Nat),(l.eraseIdx i).map f=(l.map f).eraseIdx i
 | [],_=>rfl
 | _::_,0=>rfl
 | x::l,i+1=>by
  show f x::(l.eraseIdx i).map f=f x::(l.map f).eraseIdx i;rw [agk f l i]
noncomputable def wN (td ty tx:TE):TE:=fun Y H Q=>td Y H fun x H1=>∃ a,x=.ref a/\gQ H1 a/\ty Y H1 fun y H2=>tx Y H2 fun z H3=>∃ kvs k,H3 a=some (.dK kvs)/\kvs.length<sizeLine/\y=kV k/\
 (∀ v,valV kvs k=some v->Q v H3)/\(valV kvs k=none->Q z (A0 H3 a (.dK (putK kvs k z))))
section
variable {X:Cx} {o e f:Expr} {apos cpos:Pos} {td ty tx:TE} {pins:List (Addr×Obj)} {Y:St} {H:Hp} {s:Shared} {a:Addr} {A:Around} {E:Value->Shared->Prop}
theorem arh{k:B3}{z:V}{r:Value}{Q:Value->Shared->Prop}(I:Inv X pins Y H s)(e:H a=some (.dK kvs))(hl:kvs.length<sizeLine)(ry:RelV (kV k) u)(rz:RelV z r)(h1:∀ v w' s',valV kvs k=some v->Inv X pins Y H s'->RelV v w'->Q w' s')(h2:∀ s',valV kvs k=none->Inv X pins Y (A0 H a (.dK (putK kvs k z))) s'->Q r s') :
  wpAny 'b' A (call (.builtin "dict.setdefault") [.ref a,u,r]) Q E s:=by
 obtain ⟨hz,hd,vs,rel,dd⟩:=dk_of I.hok e;have A9:=rel.length;refine call_meetsIn PySem.F.slot_dict_setdefault dd.typeIs PySem.F.entry_dict_setdefault (PySem.F.args_dict_setdefault_3 _ _ _) (kt_meets_setdefault (N4 X.prog X.w) a (kV_is ry) hd r) ⟨vs,dd,by lia,fun v hv=>?_,fun hn h' hm hs=>?_⟩
 .have:=rel.val k
  rw [hv] at this;cases jA:valV kvs k with
  | none=>rw [jA] at this;exact this.elim
  | some x=>rw [jA] at this;exact h1 x v _ jA (I.tok _) this
 .have:=rel.val k
  rw [hn] at this;cases jA:valV kvs k with
  | some x=>rw [jA] at this;exact this.elim
  | none=>
   have X0:(putK kvs k z).length<=sizeLine:=by rw [alA z jA,D6,X2];lia
   obtain ⟨ob,_,_,ho,_⟩:=id hm;exact h2 _ jA (rJ (t':=s.toks+1) I (by rw [e];exact trivial) hs ⟨ob,ho⟩ (vR X0 hd (rel.put k rz) hm))
theorem al6(ho:PE X o td)(he:PE X e ty)(hf:PE X f tx)(m:M2 X o "setdefault" apos e f cpos):PE X (.Call (.Attribute o "setdefault" apos) [e,f] [] cpos) (wN td ty tx):=by
 sleep 1;refine wpAny_Call_method m.base m.few m.line PySem.F.plainAttrs_dict PySem.F.slot_dict_setdefault PySem.F.type_dict_setdefault (A8 (ho pins s Y H _ I h) fun u s1 ⟨x,H1,I1,rx,a,ex,d,q1⟩=>?_);subst ex;obtain rfl:u=Value.ref a:=rx;obtain ⟨t1,t2,_⟩:=vU I1 d;refine ⟨t1,t2,?_⟩;rw [m.trees];refine Calls.callWith_builtin rfl (Calls.evalArgs_plain (Calls.spliced_cons (A8 (he pins s1 Y H1 _ I1 q1) fun iv s2 ⟨y,H2,I2,ry,q2⟩=>
  Calls.spliced_cons (A8 (hf pins s2 Y H2 _ I2 q2) fun fv s3 ⟨z,H3,I3,rz,kvs,k,e3,hl,ey,q3,q4⟩=>Calls.spliced_nil ?_))))
 subst ey;exact arh I3 e3 hl ry rz (fun v w' s4 hv I4 rw'=>⟨v,H3,I4,rw',q3 v hv⟩) fun s4 hn I4=>⟨z,_,I4,rz,q4 hn⟩
theorem al7(ho:QE X o td)(he:QE X e ty)(hf:QE X f tx)(h1:L5 e=false:=by rfl)(h2:L5 f=false:=by rfl)(G2:attributeBase o "setdefault" X.env (eval o X.env)=eval o X.env:=by rfl)(G3:(apos.endLine==cpos.line)=true:=by rfl):QE X (.Call (.Attribute o "setdefault" apos) [e,f] [] cpos) (wN td ty tx):=
 ⟨al6 ho.out he.out hf.out ⟨G2,by rw [O7 h1,O7 h2];rfl,G3,by rw [O7 h1,O7 h2];rfl⟩⟩
theorem al8:wN td ty tx Y H Q=td Y H fun x H1=>∃ a,x=.ref a/\gQ H1 a/\ty Y H1 fun y H2=>tx Y H2 fun z H3=>∃ kvs k,H3 a=some (.dK kvs)/\kvs.length<sizeLine/\y=kV k/\
 (∀ v,valV kvs k=some v->Q v H3)/\(valV kvs k=none->Q z (A0 H3 a (.dK (putK kvs k z)))):=rfl
end
section
variable {X:Cx} {tg:Expr}
noncomputable def rsz (i j k:Int):Nat:=(if i<j then (j-i-1) / k+1 else 0).toNat
noncomputable def iRng3 (ta:TA):TI:=fun Y H R=>ta Y H fun vs H1=>∃ i j k:Int,vs=[.int i,.int j,.int k]/\(-(2 ^ 60)<=i/\i<2 ^ 60/\-(2 ^ 60)<=j/\j<2 ^ 60/\0<k/\k<1000000)/\R (Itr3 i k (rsz i j k)) H1
end
theorem al9{R:It->Hp->Prop} : iRng3 ta Y H R=ta Y H fun vs H1=>∃ i j k:Int,vs=[.int i,.int j,.int k]/\(-(2 ^ 60)<=i/\i<2 ^ 60/\-(2 ^ 60)<=j/\j<2 ^ 60/\0<k/\k<1000000)/\R (Itr3 i k (rsz i j k)) H1:=rfl
section
variable {X:Cx} {pins:List (Addr×Obj)} {Y:St} {H:Hp} {s:Shared} {a:Addr}
theorem Inv.swap{u u':HO}(I:Inv X pins Y H s)(e:H a=some u)(n1:∀ xs,u≠.tup xs)(n2:∀ x,u≠.own x)(n3:∀ ps,u≠.tbl ps)(n4:∀ o v,X.H₀ a≠some (.frz o v))(new:ObjOk X.prog X.w H s.heap a u'):Inv X pins Y (A0 H a u') s:=by
 have ne:∀ b,H b=none->b≠a:=fun b h q=>by rw [q,e] at h;cases h
 have own:∀ c x,H c=some (.own x)->A0 H a u' c=some (.own x):=fun c x q=>by
  rw [A7 (fun z=>by rw [z,e] at q;exact n2 x (Option.some.inj q))];exact q
 have tup:∀ c xs,H c=some (.tup xs)->A0 H a u' c=some (.tup xs):=fun c x q=>by
  rw [A7 (fun z=>by rw [z,e] at q;exact n1 x (Option.some.inj q))];exact q
 refine ⟨I.ok,I.os,I.bare,⟨I.base.keep,I.base.slot,fun b o h1 h2 h3=>?_,I.base.there,fun b xs h=>tup b xs (I.base.tups b xs h),fun b o v h=>?_,fun b ps h=>?_⟩,I.loc,I.cell,?_,fun x c h=>?_,fun p hp=>?_,fun b v h=>?_,I.len⟩
 .have:=I.base.free b o h1 h2 h3
  rw [A7 (ne b this)];exact this
 .rw [A7 (fun z=>n4 o v (by rw [<- z];exact h))];exact I.base.frzs b o v h
 .obtain ⟨m,q⟩:=I.base.tbls b ps h;exact ⟨m,by rw [A7 (fun z=>by rw [z,e] at q;exact n3 _ (Option.some.inj q))];exact q⟩
 .rw [A7 (ne _ I.free)];exact I.free
 .rw [A7 (ne _ (I.freeC x c h))];exact I.freeC x c h
 .obtain ⟨h1,h2,h3⟩:=I.pin p hp;exact ⟨h1,by rw [A7 (ne _ h2)];exact h2,h3⟩
 .by_cases hb:b=a
  .subst hb;rw [A3] at h;cases h;exact new.stay (fun _ _ _ q=>q) (fun c q=>own c _ q) fun c xs q=>tup c xs q
  .rw [A7 hb] at h;exact (I.hok b v h).stay (fun _ _ _ q=>q) (fun c q=>own c _ q) fun c xs q=>tup c xs q
end
noncomputable def oA (a:Addr) (o:Obj) (kvs:List (B3×V)):It:=
 ⟨fun i H=>H a=some (.frz o (.dK kvs))/\i<kvs.length,fun i H x H'=>H'=H/\∃ k v,kvs[i]?=some (k,v)/\x=kV k,fun i H=>H a=some (.frz o (.dK kvs))/\kvs.length<=i⟩
theorem akb{P:Program}{w:World}(a it:Addr)(o:Obj)(kvs:List (B3×V))(vs:List (B3×Value))(ep:Nat)(V9:∀ h:Heap,h.get? a=some o->h.DictAt (N4 P w) a vs ep)(rel:KV kvs vs):Turn P w K tg (oA a o kvs) [it] it (fun i h=>h.IsKeyIter it a i vs.length ep) where
 mem:=by simp
 obj:=fun i h st b hb=>by
  have e:b=it:=by simpa using hb
  subst e;obtain ⟨o,e,c,d⟩:=st;exact ⟨o,e,fun v z=>by rw [d] at z;cases z⟩
 keep:=fun i h h' st k=>st.at fun o e=>k it 'c' o e
 item:=by
  intro X hP hw hK hc i pins s Y H E I hf st hg;subst hP hw hK;obtain ⟨f0,f1,f2,f3,f4,f5⟩:=hf it 'c';obtain ⟨hga,qA⟩:=hg;have hd:=V9 s.heap (I.hok a _ hga).1;have aB:i<vs.length:=by rw [<- rel.length];exact qA
  refine wpAny_pyNext_dict_item st hd (k:=vs[i].1) (v:=vs[i].2) (by rw [J5 aB]) fun key h' m9 qB uB=>?_
  have I1:Inv X pins Y H { s with heap:=h' }:=I.turned (t':=s.toks) (fun b o hb e=>(uB.2 b hb).trans e) f0 f1 f3 f4 f5;obtain ⟨oi,e,c,d⟩:=id qB;have hk:kvs[i].1=vs[i].1:=by
   have:=congrArg (·[i]?) rel.keys
   simpa [qA,aB] using this
  have rk:RelV (kV kvs[i].1) key:=by
   rw [hk];have m9:keyIs vs[i].1 key=true:=m9;generalize vs[i].1=kk at m9
   rcases v9 m9 with ⟨j,t,rfl,rfl⟩ | ⟨x,t,rfl,rfl⟩
   .exact ⟨t,rfl⟩
   .exact ⟨t,rfl⟩
  exact ⟨key,rfl,go_of (s:={ s with heap:=h' }) e c d (by decide) ⟨kV kvs[i].1,H,I1,rk,⟨rfl,kvs[i].1,kvs[i].2,by rw [J5 qA],rfl⟩,qB,fun b hb=>(hf b hb).1⟩⟩
 done:=by
  intro X hP hw hK hc i pins s Y H E I hf st hg;subst hP hw hK;obtain ⟨f0,f1,f2,f3,f4,f5⟩:=hf it 'c';obtain ⟨hga,qA⟩:=hg;have hd:=V9 s.heap (I.hok a _ hga).1;exact wpAny_pyNext_dict_end (I.ok.hd hc) st hd (by rw [List.getElem?_eq_none_iff,<- rel.length];exact qA) fun h' eb=>⟨rfl,I.turned (t':=s.toks) (fun b o hb e=>eb b o hb e) f0 f1 f3 f4 f5⟩
 self:=fun _ _ _ _ _ st h=>wpAny_pyIter_keyiter st h
noncomputable def Ends.thaw (D:Ends) (a:Addr) (kvs:List (B3×V)):Ends where
 nx:=fun Y H=>(∃ o,H a=some (.frz o (.dK kvs)))/\D.nx Y (A0 H a (.dK kvs))
 rt:=fun v H=>(∃ o,H a=some (.frz o (.dK kvs)))/\D.rt v (A0 H a (.dK kvs))
noncomputable def tForD (tl:TE) (g:TG) (tb:TS):TS:=fun D Y H=>tl Y H fun x H1=>∃ a kvs,x=.ref a/\H1 a=some (.dK kvs)/\∀ o,ForIt (oA a o kvs) g tb (D.thaw a kvs) Y (A0 H1 a (.frz o (.dK kvs)))
theorem aov{l:Expr}{body:List Stmt}{pos:Pos}(hp:PassesOwn 'b' X.A X.env X.xe)(hc:X.calm=true)(hl:PE X l tl)(hg:PG X tg g)(hb:Z9 X body tb)(hs:∀ x,foldedSetIterable l X.env x=pure x):PS X (.For tg l body [] pos) (tForD tl g tb):=by
 intro pins s Y H D I h;refine wpAny_For (A8 (hl pins s Y H _ I h) fun v s1 ⟨x,H1,I1,r1,q1⟩=>?_) hs;obtain ⟨a,kvs,rfl,e,q⟩:=q1
 cases r1
 obtain ⟨z,hd,vs,rel,dd⟩:=dk_of I1.hok e;obtain ⟨ep,V9⟩:=dd.dictAt;obtain ⟨o,es,ho,j5⟩:=id V9;refine wpAny_pyIter_dict hd V9 ?_;have NF:∀ o' v',X.H₀ a≠some (.frz o' v'):=fun o' v' z=>by
  have:=I1.base.frzs _ _ _ z
  rw [e] at this;cases this
 have I1':Inv X pins Y H1 { s1 with heap:=s1.heap.push { cls:=.type "dict_keyiterator",data:=.fields #[.ref a,.int 0 0,.int vs.length 0,.int ep 0] } }:=I1.kept (t':=s1.toks) fun b u e=>Heap.get?_push_of_some _ e
 have I2:=I1'.swap (u':=.frz o (.dK kvs)) e (fun _ q=>by cases q) (fun _ q=>by cases q) (fun _ q=>by cases q) NF ⟨Heap.get?_push_of_some _ ho,I1'.hok a _ e⟩;have thaw:∀ {σ':St} {H':Hp} {s':Shared},Inv X pins σ' H' s'->(∃ o,H' a=some (.frz o (.dK kvs)))->Inv X pins σ' (A0 H' a (.dK kvs)) s':=fun {σ' H' s'} I' ⟨o',e'⟩=>
  I'.swap e' (fun _ q=>by cases q) (fun _ q=>by cases q) (fun _ q=>by cases q) NF (I'.hok a _ e').2
 have T:Turn X.prog X.w X.K tg (oA a o kvs) [s1.heap.objs.size] s1.heap.objs.size (fun i h=>h.IsKeyIter s1.heap.objs.size a i vs.length ep):=akb a _ o kvs vs ep (fun h e=>⟨o,es,e,j5⟩) rel;have o3:A0 H1 a (.frz o (.dK kvs)) s1.heap.objs.size=none:=by rw [A7 (fun q=>by rw [<- q,I1.fresh] at e;cases e)];exact I1.fresh
 have f2:∀ b∈[s1.heap.objs.size],FpOk X pins (A0 H1 a (.frz o (.dK kvs))) b:=fun b hb=>by
  have e:b=s1.heap.objs.size:=by simpa using hb
  subst e;exact I1.fpOk (C3 _) o3
 obtain ⟨W,⟨m0,w0⟩,turn⟩:=q o;have stat:∀ {H':Hp},(∀ b∈[s1.heap.objs.size],H' b=none)->∀ b∈[s1.heap.objs.size],FpOk X pins H' b:=fun hn b hb=>⟨hn b hb,(f2 b hb).2⟩
 refine codeAny_forLoop_any (fun n s'=>∃ i σ' H',Inv X pins σ' H' s'/\s'.heap.IsKeyIter s1.heap.objs.size a i vs.length ep/\(∀ b∈[s1.heap.objs.size],H' b=none)/\W i n σ' H') ?_ m0 ⟨0,Y,_,I2,⟨_,Heap.get?_push_size _ rfl,rfl,rfl⟩,fun b hb=>(f2 b hb).1,w0⟩;rintro n s3 ⟨i,σ3,H3,I3,fK,pO,w3⟩
 rcases turn i n σ3 H3 w3 with ⟨stop,qn⟩ | ⟨go,N,hN,step⟩
 .refine wpAny_passesOwn hp (A8 (T.done X rfl rfl rfl hc i pins s3 σ3 H3 X.xe I3 (stat pO) fK stop) fun r s4 ⟨hr,I4⟩=>?_);subst hr;exact wpAny_execs_nil ⟨σ3,_,thaw I4 qn.1,qn.2⟩
 .refine wpAny_passesOwn hp (A8 (T.item X rfl rfl rfl hc i pins s3 σ3 H3 X.xe I3 (stat pO) fK go) fun r s4 ⟨u,hr,h4⟩=>?_);subst hr;refine wpAny_passesOwn hp (A8 h4 fun _ s5 ⟨x,H5,I5,r5,y5,iQ,zZ⟩=>?_);have I5':=I5.pinned (stat zZ) (T.obj _ _ iQ);refine wpAny_passesOwn hp (A8 (hg _ s5 σ3 H5 x u _ I5' r5 (step x H5 y5)) fun _ s6 ⟨σ6,H6,I6,q6⟩=>?_);refine wpAny_passesOwn hp (A8 (hb _ s6 σ6 H6 _ I6 q6) fun f s7 q7=>?_);have again:∀ {σ7:St} {H7:Hp},Inv X (pins++kE [s1.heap.objs.size] s5.heap) σ7 H7 s7->N σ7 H7->∃ m,m<n/\∃ i σ' H',Inv X pins σ' H' s7/\s7.heap.IsKeyIter s1.heap.objs.size a i vs.length ep/\(∀ b∈[s1.heap.objs.size],H' b=none)/\W i m σ' H':=fun {σ7 H7} I7 n7=>by
   obtain ⟨m',hm,w7⟩:=hN σ7 H7 n7;refine ⟨m',hm,i+1,σ7,H7,I7.unpinned,T.keep _ _ _ iQ fun b hb o e=>(I7.pin (b,o) (O4 _ (O4 _ (kF hb e)))).1,fun b hb=>?_,w7⟩;obtain ⟨o,e,d⟩:=T.obj _ _ iQ b hb;exact (I7.pin (b,o) (O4 _ (O4 _ (kF hb e)))).2.1
  cases f with
  | next=>obtain ⟨σ7,H7,I7,n7⟩:=q7;exact again I7 n7
  | cont=>obtain ⟨σ7,H7,I7,n7⟩:=q7;exact again I7 n7
  | brk=>obtain ⟨σ7,H7,I7,q7⟩:=q7;exact ⟨σ7,_,thaw I7.unpinned q7.1,q7.2⟩
  | ret v=>obtain ⟨x7,σ7,H7,I7,r7,q7⟩:=q7;exact ⟨x7,σ7,_,thaw I7.unpinned q7.1,r7,q7.2⟩
theorem wO{l:Expr}{body:List Stmt}{pos:Pos}(hp:PassesOwn 'b' X.A X.env X.xe)(hl:QE X l tl)(hg:QG X tg g)(hb:QSs X body tb)(hc:X.calm=true:=by rfl)(hs:∀ x,foldedSetIterable l X.env x=pure x:=by intro _;rfl):QS X (.For tg l body [] pos) (tForD tl g tb):=⟨aov hp hc hl.out hg.out hb.out hs⟩
theorem aow : tForD tl g tb D Y H=tl Y H fun x H1=>∃ a kvs,x=.ref a/\H1 a=some (.dK kvs)/\∀ o,ForIt (oA a o kvs) g tb (D.thaw a kvs) Y (A0 H1 a (.frz o (.dK kvs))):=rfl
theorem forD(Pv:Nat->St->Hp->Prop)(h0:Pv 0 Y H)(hl:∀ i Y H,Pv i Y H->H a=some (.frz o (.dK kvs)))(hs:∀ i k v Y H,kvs[i]?=some (k,v)->Pv i Y H->g (kV k) Y H fun σ2 H2=>tb { D.thaw a kvs with nx:=Pv (i+1),ct:=Pv (i+1),bk:=(D.thaw a kvs).nx } σ2 H2)(hd:∀ Y H,Pv kvs.length Y H->D.nx Y (A0 H a (.dK kvs))):ForIt (oA a o kvs) g tb (D.thaw a kvs) Y H:=by
 refine ⟨fun i m Y H=>m=kvs.length-i/\i<=kvs.length/\Pv i Y H,⟨kvs.length,by simp,G4 _,h0⟩,?_⟩;rintro i m Y H ⟨rfl,hi,p⟩;have e:=hl i Y H p
 by_cases C5:i<kvs.length
 .refine .inr ⟨⟨e,C5⟩,Pv (i+1),fun σ' H' p'=>⟨_,by lia,rfl,C5,p'⟩,fun v H' y=>?_⟩;obtain ⟨rfl,k,v',hk,rfl⟩:=y;exact hs i k v' Y _ hk p
 .have e2:i=kvs.length:=by lia
  subst e2;exact .inl ⟨⟨e,C3 _⟩,⟨o,e⟩,hd Y H p⟩
noncomputable def W8 (row:List Str):List (Str×Str):=row.zip row.tail
noncomputable def edges (rows:List (List Str)):List (Str×Str):=rows.flatMap W8
noncomputable def G1 (E:List (Str×Str)) (p:Str):List Str:=(E.filter fun e=>decide (e.1=p)).map (·.2)
noncomputable def cnt (E:List (Str×Str)) (line:List Str) (q:Str):Nat:=E.countP fun e=>decide (e.2=q) && !decide (e.1∈line)
noncomputable def cntIn (E:List (Str×Str)) (S:List Str) (q:Str):Nat:=E.countP fun e=>decide (e.2=q)&&decide (e.1∈S)
theorem ama(E:List (Str×Str))(a b p:Str):G1 (E++[(a,b)]) p=if a=p then G1 E p++[b] else G1 E p:=by
 unfold G1;rw [cA,D0]
 by_cases h:a=p
 .rw [if_pos h,jR (by simpa using h)];rfl
 .rw [if_neg h,jS (by simpa using h)];simp
theorem agl(E:List (Str×Str))(p q:Str):(G1 E p).count q=E.countP fun e=>decide (e.2=q)&&decide (e.1=p):=by
 induction E with
 | nil=>rfl
 | cons e E ih=>
  unfold G1 at ih ⊢
  by_cases h:e.1=p
  .rw [jR (by simpa using h),G0,List.count_cons,ih,eD]
   by_cases h2:e.2=q
   .simp [h,h2]
   .simp [h,h2]
  .rw [jS (by simpa using h),ih,eD];simp [h]
theorem aiL{E:List (Str×Str)}{S:List Str}{p:Str}(h:p∉S):cntIn E (S++[p]) q=cntIn E S q+(G1 E p).count q:=by
 rw [agl];unfold cntIn
 induction E with
 | nil=>rfl
 | cons e E ih=>
  rw [eD,eD,eD,ih]
  by_cases h2:e.2=q
  .by_cases h1:e.1=p
   .have:e.1∉S:=by rw [h1];exact h
    simp [h2,h1,h];lia
   .by_cases h3:e.1∈S
    .simp [h2,h1,h3];lia
    .simp [h2,h1,h3]
  .simp [h2]
theorem ahZ{E:List (Str×Str)}{p:Str}(h:p∉line):cnt E line q=cnt E (line++[p]) q+(G1 E p).count q:=by
 rw [agl];unfold cnt
 induction E with
 | nil=>rfl
 | cons e E ih=>
  rw [eD,eD,eD,ih]
  by_cases h2:e.2=q
  .by_cases h1:e.1=p
   .simp [h2,h1,h];lia
   .by_cases h3:e.1∈line
    .simp [h2,h1,h3]
    .simp [h2,h1,h3];lia
  .simp [h2]
theorem akc{E:List (Str×Str)}{S:List Str}(h:∀ e∈E,e.1∈S)(q:Str):cntIn E S q=cnt E [] q:=by
 unfold cntIn cnt;refine List.countP_congr fun e he=>?_
 simp [h e he]
theorem akd(E:List (Str×Str))(q:Str):cntIn E [] q=0:=by
 unfold cntIn
 simp
theorem cnt_zero{E:List (Str×Str)} : cnt E line q=0↔∀ e∈E,e.2=q->e.1∈line:=by
 unfold cnt;rw [List.countP_eq_zero]
 constructor
 .intro h e he h2
  have:=h e he
  simpa [h2] using this
 .intro h e he
  by_cases h2:e.2=q
  .simp [h2,h e he h2]
  .simp [h2]
noncomputable def nextP (E:List (Str×Str)) (ts pre:List Str):Option Str:=(ts.filter fun p=>!decide (p∈pre)).find? fun p=>decide (cnt E pre p=0)
noncomputable def V3 (E:List (Str×Str)) (ts line:List Str):Prop:=∀ pre q post,line=pre++q::post->nextP E ts pre=some q
theorem V3.nil(E:List (Str×Str))(ts:List Str):V3 E ts []:=fun pre q post h=>by
 have:=congrArg f6 h
 simp at this
theorem V3.snoc{E:List (Str×Str)}{p:Str}(r:V3 E ts line)(h:nextP E ts line=some p):V3 E ts (line++[p]):=fun pre q post e=>by
 rcases List.append_eq_append_iff.mp e with ⟨m,h1,h2⟩ | ⟨m,h1,h2⟩
 .cases m with
  | nil=>
   rw [M8] at h1;rw [eE] at h2
   cases (List.cons.inj h2).1
   rw [h1];exact h
  | cons a m=>
   have:=congrArg f6 h2
   simp at this
 .cases m with
  | nil=>
   rw [M8] at h1;rw [eE] at h2
   cases (List.cons.inj h2).1
   rw [<- h1];exact h
  | cons a m=>
   rw [gJ] at h2;have h3:=(List.cons.inj h2).1;exact r pre q m (by rw [h1,h3])
theorem kR{E:List (Str×Str)}{pre:List Str}(h:nextP E ts pre=some q):q∈ts/\q∉pre/\cnt E pre q=0:=by
 have h1:=List.mem_of_find?_eq_some h;have h2:=List.find?_some h;rw [Y6] at h1;exact ⟨h1.1,by simpa using h1.2,by simpa using h2⟩
theorem V3.nodup{E:List (Str×Str)} : ∀ {line:List Str},V3 E ts line->line.Nodup:=by
 intro line r;rw [eA,gG];intro i j hi hj hij e;have e1:line=line.take j++line[j]::line.drop (j+1):=by rw [<- bX hj,e8]
 have:=(kR (r _ _ _ e1)).2.1
 exact this (k0.mpr ⟨i,by rw [F7];lia,by rw [List.getElem_take];exact e⟩)
theorem V3.sub{E:List (Str×Str)}(r:V3 E ts line)(h:q∈line):q∈ts:=by
 obtain ⟨pre,post,e⟩:=List.append_of_mem h;exact (kR (r pre q post e)).1
theorem amb{E:List (Str×Str)}{rank:Str->Nat}(hr:∀ e∈E,rank e.1<rank e.2)(hE:∀ e∈E,e.1∈ts)(hw:∃ p∈ts,p∉line):∃ q,nextP E ts line=some q:=by
 have key:∀ n p,rank p<=n->p∈ts->p∉line->∃ q∈ts,q∉line/\cnt E line q=0:=by
  intro n
  induction n with
  | zero=>
   intro p hp ht hl;refine ⟨p,ht,hl,cnt_zero.mpr fun e he h2=>?_⟩
   have:=hr e he
   rw [h2] at this;lia
  | succ n ih=>
   intro p hp ht hl
   by_cases hc:cnt E line p=0
   .exact ⟨p,ht,hl,hc⟩
   .have:∃ e∈E,e.2=p/\e.1∉line:=by
     refine Classical.byContradiction fun hn=>hc (cnt_zero.mpr fun e he h2=>Classical.byContradiction fun h3=>hn ⟨e,he,h2,h3⟩)
    obtain ⟨e,he,h2,h3⟩:=this;have h4:=hr e he;rw [h2] at h4;exact ih e.1 'a' (hE e he) h3
 obtain ⟨p,hp,hl⟩:=hw;obtain ⟨q,h1,h2,h3⟩:=key (rank p) p (C3 _) hp hl;cases h:nextP E ts line with
 | some q=>exact ⟨q,rfl⟩
 | none=>
  have:=aM.mp h q (Y6.mpr ⟨h1,by simpa using h2⟩)
  simp [h3] at this
theorem rW{E:List (Str×Str)}(nd:ts.Nodup)(r:V3 E ts line)(h:∀ p∈ts,p∈line):line.length=ts.length:=
 ((List.perm_ext_iff_of_nodup r.nodup nd).mpr fun a=>⟨r.sub,h a⟩).length_eq
theorem afb(E:List (Str×Str))(pre:List Str):∀ ts:List Str,nextP E ts pre=ts.find? fun p=>!decide (p∈pre)&&decide (∀ e∈E,e.2=p->e.1∈pre)
 | []=>rfl
 | t::ts=>by
  have ih:=afb E pre ts;unfold nextP at ih ⊢
  by_cases h:t∈pre
  .rw [jS (by simpa using h),Y7,ih];simp [h]
  .rw [jR (by simpa using h),Y7,Y7,ih]
   by_cases h2:cnt E pre t=0
   .have:=cnt_zero.mp h2
    rw [decide_eq_true h2,decide_eq_true this];simp [h]
   .have:¬ ∀ e∈E,e.2=t->e.1∈pre:=fun z=>h2 (cnt_zero.mpr z)
    rw [decide_eq_false h2,decide_eq_false this];simp [h]
theorem aiM{row:List Str}{e:Str×Str}(h:e∈W8 row):e.1∈row/\e.2∈row:=by
 unfold W8 at h;exact ⟨(List.of_mem_zip h).1,List.mem_of_mem_tail (List.of_mem_zip h).2⟩
theorem agm{rows:List (List Str)}{e:Str×Str}(h:e∈edges rows):e.1∈rows.flatten/\e.2∈rows.flatten:=by
 unfold edges at h;obtain ⟨row,h1,h2⟩:=W0.mp h
 have:=aiM h2
 exact ⟨List.mem_flatten.mpr ⟨row,h1,this.1⟩,List.mem_flatten.mpr ⟨row,h1,this.2⟩⟩
noncomputable def C2 (ts:List Str) (f:Str->V):List (B3×V):=ts.map fun t=>(Sum.inr t,f t)
theorem wP(f:Str->V)(z:Str):∀ ts:List Str,((C2 ts f).any fun kv=>decide (kv.1=(Sum.inr z:B3)))=decide (z∈ts)
 | []=>by simp [C2]
 | y::ts=>by
  have ih:=wP f z ts;unfold C2 at ih ⊢
  rw [G0,aO,ih]
  by_cases e:y=z
  .subst e
   simp
  .have e1:decide ((Sum.inr y:B3)=Sum.inr z)=false:=decide_eq_false fun q=>e (Sum.inr.inj q)
   rw [e1,Bool.false_or]
   by_cases h:z∈ts
   .rw [decide_eq_true h,decide_eq_true (O5 _ h)]
   .rw [decide_eq_false h,decide_eq_false];intro q
    rcases L4.mp q with q | q
    .exact e q.symm
    .exact h q
theorem Q4(f:Str->V)(z:Str):∀ ts:List Str,valV (C2 ts f) (Sum.inr z)=if z∈ts then some (f z) else none
 | []=>rfl
 | y::ts=>by
  have ih:=Q4 f z ts;unfold C2 at ih ⊢
  rw [G0]
  by_cases e:y=z
  .subst e;rw [rH rfl,if_pos M7]
  .rw [cL (fun q=>e (Sum.inr.inj q)),ih]
   by_cases h:z∈ts
   .rw [if_pos h,if_pos (O5 _ h)]
   .rw [if_neg h,if_neg];intro q
    rcases L4.mp q with q | q
    .exact e q.symm
    .exact h q
theorem oB{f:Str->V}(v:V)(h:z∈ts):putK (C2 ts f) (Sum.inr z:B3) v=C2 ts fun t=>if t=z then v else f t:=by
 unfold putK;rw [wP,decide_eq_true h,if_pos rfl];unfold C2;rw [R3];refine jU fun y _=>?_
 show (if (Sum.inr y:B3)=Sum.inr z then ((Sum.inr y:B3),v) else (Sum.inr y,f y))=((Sum.inr y:B3),if y=z then v else f y)
 by_cases e:y=z
 .rw [if_pos (by rw [e]),if_pos e]
 .rw [if_neg (fun q=>e (Sum.inr.inj q)),if_neg e]
theorem eU{f:Str->V}(v:V)(h:z∉ts):putK (C2 ts f) (Sum.inr z:B3) v=C2 (ts++[z]) fun t=>if t=z then v else f t:=by
 unfold putK;rw [wP,decide_eq_false h,if_neg L8];unfold C2;rw [D0]
 congr 1
 .refine jU fun y hy=>?_
  show _=((Sum.inr y:B3),if y=z then v else f y);rw [if_neg (fun e:y=z=>h (by rw [<- e];exact hy))]
 .simp
theorem V4{f g:Str->V}(h:∀ t∈ts,f t=g t):C2 ts f=C2 ts g:=by
 unfold C2;exact jU fun t ht=>by rw [h t ht]
theorem l6(f:Str->V)(ts:List Str):(C2 ts f).length=ts.length:=by unfold C2;rw [A6]
theorem amY{f:Str->V}{k:B3}(h:(C2 ts f)[i]?=some (k,v)):∃ t,ts[i]?=some t/\k=Sum.inr t/\v=f t:=by
 unfold C2 at h;obtain ⟨t,h1,h2⟩:=J8 h;cases h2;exact ⟨t,h1,rfl,rfl⟩
theorem amc(f:Str->V)(ts:List Str):((C2 ts f).map fun kv=>kV kv.1)=ts.map V.str:=by
 unfold C2;rw [R3];rfl
structure DL(H0 H:Hp)(ts:List Str)(ad:Str->Addr)(F:Str->List Str):Prop where
 row:∀ t∈ts,H (ad t)=some (.lst ((F t).map V.str))
 inj:∀ t∈ts,∀ u∈ts,ad t=ad u->t=u
 new:∀ t∈ts,H0 (ad t)=none
theorem DL.same{ad:Str->Addr}{F:Str->List Str}(x:DL H0 H ts ad F)(s:Same H H'):DL H0 H' ts ad F:=⟨fun t h=>s _ _ (x.row t h),x.inj,x.new⟩
theorem DL.app{ad:Str->Addr}{F:Str->List Str}(x:DL H0 H ts ad F)(hz:z∈ts)(ys:List Str):DL H0 (A0 H (ad z) (.lst (ys.map V.str))) ts ad fun t=>if t=z then ys else F t:=by
 refine ⟨fun t ht=>?_,x.inj,x.new⟩;show _=some (HO.lst ((if t=z then ys else F t).map V.str))
 by_cases e:t=z
 .subst e;rw [A3,if_pos rfl]
 .rw [A7 (fun q=>e (x.inj t ht z hz q)),if_neg e];exact x.row t ht
theorem DL.more{ad:Str->Addr}{F:Str->List Str}(x:DL H0 H ts ad F)(hz:z∉ts)(np:H p=none)(n0:H0 p=none):DL H0 (A0 H p (.lst [])) (ts++[z]) (fun t=>if t=z then p else ad t) fun t=>if t=z then [] else F t:=by
 have ne:∀ t∈ts,t≠z:=fun t ht e=>hz (by rw [<- e];exact ht)
 have nad:∀ t∈ts,ad t≠p:=fun t ht e=>by have:=x.row t ht;rw [e,np] at this;cases this
 have cases':∀ t,t∈ts++[z]->(t∈ts/\t≠z)\/t=z:=fun t ht=>by
  rcases E8.mp ht with h | h
  .exact .inl ⟨h,ne t h⟩
  .exact .inr (E5.mp h)
 refine ⟨fun t ht=>?_,fun t ht u hu e=>?_,fun t ht=>?_⟩
 .show A0 H p (.lst []) (if t=z then p else ad t)=some (.lst ((if t=z then [] else F t).map V.str))
  rcases cases' t ht with ⟨h1,h2⟩ | rfl
  .rw [if_neg h2,if_neg h2,A7 (nad t h1)];exact x.row t h1
  .rw [if_pos rfl,if_pos rfl,A3];rfl
 .have e:(if t=z then p else ad t)=(if u=z then p else ad u):=e
  rcases cases' t ht with ⟨h1,h2⟩ | rfl <;> rcases cases' u hu with ⟨h3,h4⟩ | rfl
  .rw [if_neg h2,if_neg h4] at e;exact x.inj t h1 u h3 e
  .rw [if_neg h2,if_pos rfl] at e;exact absurd e (nad t h1)
  .rw [if_pos rfl,if_neg h4] at e;exact absurd e.symm (nad u h3)
  .rfl
 .show H0 (if t=z then p else ad t)=none
  rcases cases' t ht with ⟨h1,h2⟩ | rfl
  .rw [if_neg h2];exact x.new t h1
  .rw [if_pos rfl];exact n0
theorem amd(h:acc.Nodup)(z:Str):(dd acc z).Nodup:=by
 unfold dd
 split
 .exact h
 .rename_i hz
  rw [Z5];refine ⟨h,by simp,fun a ha b hb e=>hz ?_⟩;rw [<- E5.mp hb,<- e];exact ha
theorem wQ:∀ {zs acc:List Str},acc.Nodup->(J7 acc zs).Nodup
 | [],_,h=>h
 | z::zs,acc,h=>wQ (zs:=zs) (amd h z)
theorem kS(zss:List (List Str)):(toldL zss).Nodup:=by
 unfold toldL;rw [rO];exact wQ 'c'
theorem aY(x:Str):∀ (zs acc:List Str),x∈J7 acc zs↔x∈acc\/x∈zs
 | [],acc=>by simp [J7]
 | z::zs,acc=>by
  show x∈J7 (dd acc z) zs↔_;rw [aY x zs];unfold dd
  by_cases h:z∈acc
  .rw [if_pos h,L4]
   constructor
   .rintro (h1 | h1)
    .exact .inl h1
    .exact .inr (.inr h1)
   .rintro (h1 | rfl | h1)
    .exact .inl h1
    .exact .inl h
    .exact .inr h1
  .rw [if_neg h,E8,E5,L4,or_assoc]
theorem wR(x:Str)(zss:List (List Str)):x∈toldL zss↔x∈zss.flatten:=by
 unfold toldL;rw [rO,aY]
 simp
theorem aiN{zss:List (List Str)}{e:Str×Str}(h:e∈edges zss):e.1∈toldL zss/\e.2∈toldL zss:=⟨(wR _ _).mpr (agm h).1,(wR _ _).mpr (agm h).2⟩
theorem aiO{zss:List (List Str)}(h:zss[i]?=some zs):edges (zss.take (i+1))=edges (zss.take i)++W8 zs:=by
 rw [v6,h];unfold edges;rw [e9]
 simp
theorem wS(zs:List Str):(W8 zs).length=min zs.length zs.tail.length:=by unfold W8;rw [List.length_zip]
theorem agn{x y:Str}(h1:zs[j]?=some x)(h2:zs.tail[j]?=some y):(W8 zs)[j]?=some (x,y):=by
 unfold W8;rw [List.getElem?_zip_eq_some];exact ⟨h1,h2⟩
theorem ago(zss:List (List Str)):(edges zss).length<=zss.flatten.length:=by
 induction zss with
 | nil=>exact C3 _
 | cons zs zss ih=>
  unfold edges at ih ⊢
  rw [o9,D6,jX,D6,wS];lia
theorem DL.put{ad:Str->Addr}{F:Str->List Str}(x:DL H0 H ts ad F){o u:HO}(hb:H0 b=some u):DL H0 (A0 H b o) ts ad F:=
 ⟨fun t ht=>by rw [A7 (fun e=>by have:=x.new t ht;rw [e,hb] at this;cases this)];exact x.row t ht,x.inj,x.new⟩
theorem DL.congr{ad:Str->Addr}{F G:Str->List Str}(x:DL H0 H ts ad F)(h:∀ t∈ts,F t=G t):DL H0 H ts ad G:=⟨fun t ht=>by rw [<- h t ht];exact x.row t ht,x.inj,x.new⟩
theorem DL.old{H00:Hp}{ad:Str->Addr}{F:Str->List Str}(x:DL H0 H ts ad F)(s:Same H00 H0):DL H00 H ts ad F:=⟨x.row,x.inj,fun t ht=>s.free (x.new t ht)⟩
theorem wT(nd:ts.Nodup)(h:ts[i]?=some z):z∉ts.take i:=fun hm=>by
 obtain ⟨hi,e⟩:=E6.mp h;obtain ⟨j,hj,e2⟩:=k0.mp hm;rw [F7] at hj;rw [List.getElem_take] at e2
 have:=(eA.mp nd)
 rw [gG] at this;exact this j i 'a' hi 'a' (e2.trans e.symm)
theorem M6{α:Type}{ts:List α}{z:α}(h:ts[i]?=some z):ts.take (i+1)=ts.take i++[z]:=by rw [v6,h];rfl
noncomputable def SameBut (d:Addr) (H H':Hp):Prop:=∀ b o,b≠d->H b=some o->H' b=some o
theorem SameBut.put{d q:Addr}{u:HO}(s:SameBut d H0 H)(n:H0 q=none):SameBut d H0 (A0 H q u):=fun b o hb h=>by rw [A7 (w6 h n)];exact s b o hb h
theorem SameBut.thaw{d:Addr}{u:HO}(s:SameBut d H0 H)(h:H0 d=some u):Same H0 (A0 H d u):=fun b o hb=>by
 by_cases e:b=d
 .subst e;rw [A3,<- hb,h]
 .rw [A7 e];exact s b o e hb
theorem RowsAt.grow{q:Addr}{zss:List (List Str)}(R:RowsAt H0 H a rs zss)(S:Same H H')(hq:H q=none)(iR:H' q=some (.lst (zs.map V.str))):RowsAt H0 (A0 H' a (.lst (rs.map V.ref++[V.ref q]))) a (rs++[q]) (zss++[zs]):=by
 have nq:∀ r∈a::rs,r≠q:=fun r hr z=>by
  obtain ⟨o,e⟩:=R.live hr;rw [z,hq] at e;cases e
 obtain ⟨na,_⟩:=W1.mp R.nd;refine ⟨⟨by rw [A3,D0];rfl,?_⟩,?_,?_,?_⟩
 .refine Paired.snoc (rP R.rows.row fun r hr zs h=>?_) ?_
  .rw [A7 (fun z:r=a=>na (by rw [<- z];exact hr))];exact S _ _ h
  .rw [A7 (nq a M7).symm];exact iR
 .show (a::(rs++[q])).Nodup;exact vX R.nd fun h=>nq q h rfl
 .intro r hr
  rcases L4.mp hr with h | h
  .exact R.new r (by rw [h];exact M7)
  .rcases E8.mp h with h | h
   .exact R.new r (O5 _ h)
   .rw [E5.mp h];exact R.same.free hq
 .exact (R.same.trans S).put (R.new a M7)
noncomputable def spFol:Sp:=fun vs H Q _=>∃ (a:Addr) (rs:List Addr) (zss:List (List Str)),vs=[.ref a]/\IsRows H a rs zss/\zss.flatten.length<=100000/\
 ∀ (d:Addr) (ad:Str->Addr) (H':Hp),H d=none->Same H H'->H' d=some (.dK (C2 (toldL zss) fun t=>.ref (ad t)))->DL H H' (toldL zss) ad (G1 (edges zss))->Q (.ref d) H'
noncomputable def ake:Sp:=fun vs H Q _=>∃ (d:Addr) (ts:List Str) (ad:Str->Addr) (E:List (Str×Str)),vs=[.ref d]/\H d=some (.dK (C2 ts fun t=>.ref (ad t)))/\ts.Nodup/\ts.length<=100000/\E.length<=100000/\
 (∀ t∈ts,H (ad t)=some (.lst ((G1 E t).map V.str)))/\(∀ e∈E,e.1∈ts/\e.2∈ts)/\∀ c H',H c=none->Same H H'->H' c=some (.dK (C2 ts fun t=>.int (cnt E [] t:Nat)))->Q (.ref c) H'
theorem agp:∀ {l m:List Str},l.Nodup->(∀ x∈l,x∈m)->l.length<=m.length
 | [],_,_,_=>G4 _
 | x::l,m,nd,h=>by
  obtain ⟨n1,n2⟩:=W1.mp nd;have hx:=h x M7
  have:=agp (l:=l) (m:=m.erase x) n2 fun y hy=>(List.mem_erase_of_ne (fun e=>n1 (by rw [<- e];exact hy))).mpr (h y (O5 _ hy))
  rw [qW hx] at this;have dJ:=qX hx;rw [L0];lia
noncomputable def akf:Sp:=fun vs H Q _=>∃ (a:Addr) (rs:List Addr) (zss:List (List Str)) (rank:Str->Nat),vs=[.ref a]/\IsRows H a rs zss/\zss.flatten.length<=100000/\(∀ e∈edges zss,rank e.1<rank e.2)/\
 ∀ (l:Addr) (line:List Str) (H':Hp),H l=none->Same H H'->H' l=some (.lst (line.map V.str))->V3 (edges zss) (toldL zss) line->(∀ p∈toldL zss,p∈line)->Q (.ref l) H'
theorem SameBut.free{d:Addr}(s:SameBut d H0 H)(n:H p=none)(h:p≠d):H0 p=none:=by
 cases e:H0 p with
 | none=>rfl
 | some o=>
  have:=s p o h e
  rw [n] at this;cases this
theorem SameBut.same{d:Addr}(s:SameBut d H1 H2)(S:Same H H1)(n:H d=none):Same H H2:=fun b o h=>s b o (w6 h n) (S b o h)
theorem uan(d:Addr)(H:Hp):SameBut d H H:=fun _ _ _ h=>h
theorem SameBut.at{d:Addr}{o:HO}(s:SameBut d H H'):SameBut d H (A0 H' d o):=fun b u hb h=>by rw [A7 hb];exact s b u hb h
noncomputable def one (c:Nat):Str:=⟨#[c]⟩
noncomputable def two (c d:Nat):Str:=⟨#[c,d]⟩
theorem SG_nd:SG.Nodup:=by decide +kernel
section
variable {X:Cx}
noncomputable def rAnyB (calm:Bool):List V->Hp->VK->Prop
 | [.ref p],H,Q=>∃ bs:List Bool,calm=true/\H p=some (.lst (bs.map V.bl))/\Q (.bl (bs.any id)) H
 | _,_,_=>False
theorem p_any:CallR X (.builtin "any") (rAnyB X.calm):=by
 intro pins s Y H xs us Q I r h
 match xs,h with
 | [.ref p],⟨bs,hc,hp,q⟩=>
  obtain ⟨u,rfl,rx⟩:=vals1 r
  cases rx
  obtain ⟨z,its,n,rv,hl,e⟩:=I.lstM hp;have pl:s.heap.IsList p its.toArray:=⟨_,e,rfl,n,rfl⟩
  refine call_any_walk (wpAny_pyIter_list pl ?_);have G8:p≠s.heap.objs.size:=M4 (Heap.lt_size e);have hk:∀ b o,s.heap.get? b=some o->(s.heap.push { cls:=.type "list_iterator",data:=.fields #[.ref p,.int 0 0] }).get? b=some o:=fun b o q=>Heap.get?_push_of_some _ q
  refine ⟨_,_,_,_,_,_,fun i=>(bs[i]?).getD false,rfl,Walks.list (show X.A.in1.handled=none from I.ok.hd hc) s.heap.objs.size p G8 its.toArray,⟨⟨_,Heap.get?_push_size _ rfl,rfl,rfl⟩,pl.at fun o q=>hk p o q⟩,?_,?_⟩
  .intro i v s' Q' E' hv hq;have tU:its[i]?=some v:=by simpa using hv
   have hb:∃ b,bs[i]?=some b/\v=.bool b:=by
    cases eb:(bs.map V.bl)[i]? with
    | none=>
     have:=rv.none_of eb
     rw [tU] at this
     cases this
    | some y=>
     obtain ⟨u,h1,h2⟩:=rv.get eb;rw [tU] at h1;cases h1;rw [R6] at eb;cases e3:bs[i]? with
     | none=>rw [e3] at eb;cases eb
     | some b=>
      rw [e3] at eb;cases eb;exact ⟨b,rfl,h2⟩
   obtain ⟨b,e1,rfl⟩:=hb;have hq:Q' ((bs[i]?).getD false) s':=hq;rw [e1] at hq;exact wpAny_truthy_bool hq
  .intro h' tk qC;have e1:(U8 its.toArray.size).any (fun i=>(bs[i]?).getD false)=bs.any id:=by
    have A9:its.toArray.size=bs.length:=by
     rw [K9,<- hl,A6]
    rw [A9,kA,List.any_eq_true,List.any_eq_true]
    constructor
    .rintro ⟨i,hi,hb⟩;rw [k6] at hi;rw [J5 hi,Option.getD_some] at hb;exact ⟨bs[i],cC hi,hb⟩
    .rintro ⟨b,hb,ht⟩;obtain ⟨i,hi,rfl⟩:=k0.mp hb;exact ⟨i,k6.mpr hi,by rw [J5 hi];exact ht⟩
   rw [e1];have I1:Inv X pins Y H { s with heap:=h',toks:=tk }:=I.kept fun b o q=>qC b o (by
    intro hm
    have:b=s.heap.objs.size:=by simpa using hm
    rw [this] at q;exact absurd (Heap.lt_size q) (f7 _)) (hk b o q)
   exact ⟨.bl _,H,I1,rfl,q⟩
theorem q_any(pU:X.calm=calm:=by rfl):QCall X (.builtin "any") (rAnyB calm):=by subst pU;exact ⟨p_any⟩
theorem any_r{cm:Bool} : rAnyB cm [.ref p] H Q=∃ bs:List Bool,cm=true/\H p=some (.lst (bs.map V.bl))/\Q (.bl (bs.any id)) H:=rfl
end
noncomputable def oC (l : Addr) : It :=
  ⟨fun i H => ∃ xs x, H l = some (.lst xs) /\ xs[i]? = some x,
   fun i H v H' => ∃ t xs x, H l = some (.lst xs) /\ xs[i]? = some x /\ H t = none /\ v = .ref t /\ H' = A0 H t (.tup [.int i, x]),
   fun i H => ∃ xs, H l = some (.lst xs) /\ xs.length <= i⟩
theorem akg{P:Program}{w:World}{pos:Pos}(e it l:Addr)(G8:e≠it) :
  Turn P w K (.Tuple elts x1 pos) (oC l) [e,it] e (fun i h=>(∃ old,IsEnum h e it ((i:Nat):Int) old)/\h.IsListIter it l i) where
 mem:=by simp
 obj:=fun i h ⟨⟨old,he⟩,hi⟩ c hc=>by
  have q:c=e\/c=it:=by simpa using hc
  rcases q with rfl | rfl
  .exact ⟨_,he,fun v q=>by cases q⟩
  .obtain ⟨o,e,c,d⟩:=hi;exact ⟨o,e,fun v z=>by rw [d] at z;cases z⟩
 keep:=fun i h h' ⟨⟨old,he⟩,hi⟩ k=>⟨⟨old,k e 'c' _ he⟩,hi.at fun o q=>k it 'c' o q⟩
 item:=by
  intro X hP hw hK hc i pins s Y H E I hf ⟨⟨old,he⟩,hi⟩ hg;subst hP hw hK;obtain ⟨xs,x,e1,hx⟩:=hg;obtain ⟨its1,Y1,p1,_⟩:=I.list (D8.of (K:=X.K) e1);obtain ⟨u1,B5,r1⟩:=Y1.get hx;refine wpAny_pyNext_enum_item he hi p1.isList (x:=u1) (by simpa using B5) G8 fun h' b1 b2 b3 b4 b5=>⟨_,rfl,wpAny_letOwnedTupleGo_enum b1 fun h2' c1 c2=>?_⟩
  have o4:e<s.heap.objs.size:=Heap.lt_size he;have up:∀ c o,c≠e->h'.get? c=some o->h2'.get? c=some o:=fun c o hc q=>(c2.2 c hc).trans q
  have hT:=up _ _ (Nat.ne_of_gt o4) b3;have nT:∀ c∈[e,it],c≠s.heap.objs.size:=fun c hc=>by
   have q:c=e\/c=it:=by simpa using hc
   refine M4 ?_
   rcases q with rfl | rfl
   .exact o4
   .obtain ⟨o,q,_⟩:=hi;exact Heap.lt_size q
  refine ⟨.ref s.heap.objs.size,A0 H s.heap.objs.size (.tup [.int i,x]),I.turnNew (t':=s.toks+1) (ch:=[e,it]) hf (fun c u hc q=>?_) (C3 _) ⟨by show 2<=sizeLine;decide,[.int i s.toks,u1],.cons ⟨_,rfl⟩ (.cons r1 .nil),?_⟩,rfl,⟨_,xs,x,e1,hx,I.fresh,rfl,rfl⟩,
   ⟨⟨_,c1⟩,b2.at fun o q=>up _ o G8.symm q⟩,fun c hc=>by rw [A7 (nT c hc)];exact (hf c hc).1⟩
  .have q1:c≠e/\c≠it:=⟨fun q=>hc (by simp [q]),fun q=>hc (by simp [q])⟩
   exact up c u q1.1 (b5 c u q1.1 q1.2 q)
  .exact ⟨_,hT,rfl,_,rfl⟩
 done:=by
  intro X hP hw hK hc i pins s Y H E I hf ⟨⟨old,he⟩,hi⟩ hg;subst hP hw hK;obtain ⟨xs,e1,iY⟩:=hg;obtain ⟨its1,Y1,p1,_⟩:=I.list (D8.of (K:=X.K) e1);have q1:=Y1.length;obtain ⟨f0,f1,f2,f3,f4,f5⟩:=hf it 'c';exact wpAny_pyNext_enum_end (I.ok.hd hc) he hi p1.isList (by simp;lia) fun h' eb=>⟨rfl,I.turned (t':=s.toks) (fun b o hb q=>eb b o hb q) f0 f1 f3 f4 f5⟩
 self:=fun _ _ _ _ _ st h=>by
  obtain ⟨⟨old,he⟩,_⟩:=st;exact wpAny_pyIter_enum he h
section
variable {X:Cx}
noncomputable def iEnum (ta:TA):TI:=fun Y H R=>ta Y H fun vs H1=>∃ (l:Addr) (xs:List V),vs=[.ref l]/\H1 l=some (.lst xs)/\R (oC l) H1
theorem aox{a:Expr}{p pos:Pos}(hg:Gl X "enumerate")(hm:X.mg "enumerate"=none)(ha:PA X [a] ta)(h1:L5 a=false:=by rfl) :
  PI X (.Tuple elts x1 tpos) (.Call (.Name "enumerate" p) [a] [] pos) (iEnum ta):=by
 intro pins s Y H R I h;refine Call_ (cH I hg hm boot_enumerate (PyProof.Rows.callWith_type1 (A8 (ha pos pins s Y H _ I h) fun us s1 ⟨vs,H1,I1,r1,q1⟩=>?_) (O7 h1) rfl));obtain ⟨l,xs,rfl,e1,q⟩:=q1;obtain ⟨u1,rfl,iZ⟩:=vals1 r1
 cases iZ
 obtain ⟨its1,Y1,p1,_⟩:=I1.list (D8.of (K:=X.K) e1);refine call_enumerate_list p1.isList fun h' z1 z2 z3 z4=>wpAny_pyIter_enum z1 ?_
 refine ⟨s1.heap.objs.size+1,[s1.heap.objs.size+1,s1.heap.objs.size],_,_,H1,rfl,I1.kept (t':=s1.toks) z4,akg _ s1.heap.objs.size l (r8 'a'),⟨⟨_,z1⟩,z2⟩,fun b hb=>?_,q⟩;have c0:s1.heap.objs.size<=b:=by
  have e:b=s1.heap.objs.size+1\/b=s1.heap.objs.size:=by simpa using hb
  rcases e with rfl | rfl
  .exact eI _ _
  .exact C3 _
 exact I1.fpOk c0 (I1.hok.fresh c0)
theorem wU{a:Expr}{p pos:Pos}(hm:X.mg "enumerate"=none)(ha:QA X [a] ta)(hg:Gl X "enumerate":=by rfl)(h1:L5 a=false:=by rfl) :
  QI X (.Tuple elts x1 tpos) (.Call (.Name "enumerate" p) [a] [] pos) (iEnum ta):=⟨aox hg hm ha.out h1⟩
end
theorem ame{R:It->Hp->Prop} : iEnum ta Y H R=ta Y H fun vs H1=>∃ (l:Addr) (xs:List V),vs=[.ref l]/\H1 l=some (.lst xs)/\R (oC l) H1:=rfl
theorem forE{l:Addr}(Pv:Nat->St->Hp->Prop)(h0:Pv 0 Y H)(hl:∀ i Y H,Pv i Y H->H l=some (.lst xs))(hs:∀ i x t Y H,xs[i]?=some x->Pv i Y H->H t=none->g (.ref t) Y (A0 H t (.tup [.int i,x])) fun σ2 H2=>tb { D with nx:=Pv (i+1),ct:=Pv (i+1),bk:=D.nx } σ2 H2)(hd:∀ Y H,Pv xs.length Y H->D.nx Y H):ForIt (oC l) g tb D Y H:=by
 refine ⟨fun i m Y H=>m=xs.length-i/\i<=xs.length/\Pv i Y H,⟨xs.length,by simp,G4 _,h0⟩,?_⟩;rintro i m Y H ⟨rfl,hi,p⟩;have e1:=hl i Y H p
 by_cases C5:i<xs.length
 .refine .inr ⟨⟨xs,xs[i],e1,by simp⟩,Pv (i+1),fun σ' H' p'=>⟨_,by lia,rfl,C5,p'⟩,fun v H' y=>?_⟩;obtain ⟨t,xs',x,f1,hx,ht,rfl,rfl⟩:=y;rw [e1] at f1;cases f1;exact hs i x t Y H hx p ht
 .have e:i=xs.length:=by lia
  subst e;exact .inl ⟨⟨xs,e1,by lia⟩,hd Y H p⟩
noncomputable def MO (P:Program) (w:World) (K:PySem.W.Frag) (mg:Str->Option Value) (base:Heap) (k:Nat) (C:Addr) (m:Str) (ps:List Str) (sp:Sp):Prop:=
 ∃ f fd,FnOk P w K mg base E1 k f fd ps sp/\Cls K C/\Meth K C m f/\Binds K fd ps []
noncomputable def KO (P:Program) (w:World) (K:PySem.W.Frag) (mg:Str->Option Value) (base:Heap) (k:Nat) (C:Addr) (x:Str) (ps:List Str) (sp:Sp):Prop:=
 ∃ f fd,FnOk P w K mg base E1 k f fd ps sp/\Mk K C f/\mg x=some (.ref C)/\Binds K fd ps []
section
variable {X:Cx} {k:Nat} {C:Addr} {ps:List Str} {sp:Sp} {x m:Str} {p pos apos:Pos} {e o:Expr} {es:List Expr} {ta:TE} {t:TA}
theorem aoy(G:KO X.prog X.w X.K X.mg X.base k C x ps sp)(hr:Room (k+1) X.A)(ha:QA X (e::es) t)(hg:Gl X x:=by rfl)(h1:L5 e=false:=by rfl)(h2:Z1 es=true:=by rfl)(U0:(x==("__debug__" : Str))=false:=by decide) :
  QE X (.Call (.Name x p) (e::es) [] pos) (tMake C sp [] E0 t):=by
 obtain ⟨f,fd,F,M,hm,hb⟩:=G;exact ⟨anH M F hr hg hm hb .nil pass0 ha.out U0 (O7 h1) (gT h2)⟩
theorem rX(ho:QE X o ta)(G:MO X.prog X.w X.K X.mg X.base k C m ps sp)(hr:Room k X.A)(ha:QA X (e::es) t)(h1:L5 e=false:=by rfl)(h2:Z1 es=true:=by rfl){pl:Sem Bool}(ht:eval (.Call (.Attribute o m apos) (e::es) [] pos) X.env=(do
   let ov <- eval o X.env
   standAt apos.atName
   let (f,first) <- holding [ov] (getMethod ov m pl)
   callWith pos f first (backTo pos (starEach (e::es) X.env)) (backToKw pos (keywordEach [] X.env))):=by rfl) :
  QE X (.Call (.Attribute o m apos) (e::es) [] pos) (tMeth C m sp [] E0 ta t):=by
 obtain ⟨f,fd,F,c,hm,hb⟩:=G;exact ⟨anG ho.out c hm F hr hb .nil pass0 ha.out (O7 h1) (gT h2) ht⟩
theorem amf(ho:QE X o ta)(G:MO X.prog X.w X.K X.mg X.base k C m ps sp)(hr:Room k X.A){pl:Sem Bool}(ht:eval (.Call (.Attribute o m apos) [] [] pos) X.env=(do
   let ov <- eval o X.env
   standAt apos.atName
   let (f,first) <- holding [ov] (getMethod ov m pl)
   callWith pos f first (backTo pos (starEach [] X.env)) (backToKw pos (keywordEach [] X.env))):=by rfl) :
  QE X (.Call (.Attribute o m apos) [] [] pos) (tMeth C m sp [] E0 ta tNil):=by
 obtain ⟨f,fd,F,c,hm,hb⟩:=G;exact ⟨als ho.out c hm F hr hb .nil pass0 ht⟩
end
section
variable {C:Addr} {m f:Str} {sp:Sp} {K:PySem.W.Frag} {ta tv:TE} {t:TA} {Y:St} {H:Hp} {Q:VK} {D:Ends}
theorem aoz:tMake C sp [] E0 t Y H Q=t Y H fun vs H1=>∀ x dx,H1 x=none->H1 dx=none->dx≠x->sp (.ref x::(vs++[])) (A0 (A0 H1 dx (.own x)) x (.ins C dx [])) (fun v H2=>v=.non/\Q (.ref x) H2) E0:=rfl
theorem aoA:tMeth C m sp [] E0 ta t Y H Q=ta Y H fun x H1=>∃ a dx fs,x=.ref a/\H1 a=some (.ins C dx fs)/\fs.lookup m=none/\t Y H1 fun vs H2=>sp (x::(vs++[])) H2 Q E0:=rfl
theorem ari:tFld K ta f Y H Q=ta Y H fun x H1=>∃ a C dx fs v,x=.ref a/\H1 a=some (.ins C dx fs)/\Cls K C/\NoAttr K C f/\fs.lookup f=some v/\Q v H1:=rfl
theorem aoB:sFld K ta tv f D Y H=tv Y H fun y H1=>ta Y H1 fun x H2=>∃ a C dx fs,x=.ref a/\H2 a=some (.ins C dx fs)/\Cls K C/\NoAttr K C f/\fs.length<1000/\D.nx Y (A0 H2 a (.ins C dx (putF f y fs))):=rfl
end
section
variable {X:Cx} {o e:Expr} {apos cpos:Pos} {td ty:TE}
theorem rY(hu:X.A.units+1<cLine)(ho:QE X o td)(he:QE X e ty)(h1:L5 e=false:=by rfl)(G2:attributeBase o "get" X.env (eval o X.env)=eval o X.env:=by rfl)(G3:(apos.endLine==cpos.line)=true:=by rfl):QE X (.Call (.Attribute o "get" apos) [e] [] cpos) (vV td ty):=
 ⟨alD hu ho.out he.out ⟨G2,by rw [O7 h1];rfl,G3,by rw [O7 h1];rfl⟩⟩
theorem amg : vV td ty Y H Q=td Y H fun x H1=>∃ a,x=.ref a/\gQ H1 a/\ty Y H1 fun y H2=>∃ o,DGet H2 a y o/\Q (o.getD .non) H2:=rfl
end
noncomputable abbrev Rl:=Str×List Str
noncomputable def tupR (z:Rl):HO:=.tup ((z.1::z.2).map V.str)
structure IsRules(H:Hp)(a:Addr)(rs:List Addr)(R:List Rl):Prop where
 top:H a=some (.lst (rs.map V.ref))
 row:Paired (fun r z=>H r=some (tupR z)) rs R
theorem IsRules.same{R:List Rl}(h:IsRules H a rs R)(s:Same H H'):IsRules H' a rs R:=⟨s _ _ h.top,O6 h.row fun _ _ e=>s _ _ e⟩
theorem IsRules.len{R:List Rl}(h:IsRules H a rs R):rs.length=R.length:=Paired.length h.row
noncomputable def P3 (z:Rl):List Str:=if z.1=("great" : Str) then z.2.drop 1 else if z.1=("as" : Str) then z.2.take 1 else if z.1=("row" : Str)\/z.1=("marks" : Str)\/z.1=("over" : Str) then z.2 else []
noncomputable def jobD (w:Str):Str:=if w=("row" : Str) then "letter" else if w=("marks" : Str) then "mark" else w
noncomputable def C6 (R:List Rl):List (Str×Str):=R.flatMap fun z=>(P3 z).map fun p=>(p,jobD z.1)
noncomputable def hasW (R:List Rl) (w:Str):Bool:=R.any fun z=>decide (z.1=w)
noncomputable def figO (c:Nat):Bool:=decide (48<=c)&&decide (c<=57)
noncomputable def oE:List Str:=["letter", "mark", "over"]
noncomputable def NC (figs:Bool) (g:Str->Str) (PL:List (Str×Str)):Prop:=∀ i p j,PL[i]?=some (p,j)->j=g p/\(p∈(PL.take i).map (·.1)->j∈oE)/\(figs=true->∀ c∈p.cps.toList,figO c=false)/\p.length<=1000
noncomputable def keysP (PL:List (Str×Str)):List Str:=J7 [] (PL.map (·.1))
theorem afc{R:List Rl}{z:Rl}(h:R[i]?=some z):C6 (R.take (i+1))=C6 (R.take i)++(P3 z).map fun p=>(p,jobD z.1):=by
 rw [v6,h];unfold C6;rw [e9]
 simp
theorem agr(R:List Rl)(i:Nat):∃ more,C6 R=C6 (R.take i)++more:=⟨C6 (R.drop i),by
 unfold C6;rw [<- e9,e8]⟩
theorem aiP(PL:List (Str×Str))(p j:Str):keysP (PL++[(p,j)])=dd (keysP PL) p:=by
 unfold keysP J7;rw [D0,aN];rfl
theorem rZ(x:Str)(PL:List (Str×Str)):x∈keysP PL↔x∈PL.map (·.1):=by
 unfold keysP;rw [aY]
 simp
theorem wV(PL:List (Str×Str)):(keysP PL).length<=PL.length:=by
 have:=nU (PL.map (·.1)) []
 rw [A6] at this
 simpa [keysP] using this
noncomputable def rowsW (R:List Rl) (w:Str):List (List Str):=(R.filter fun z=>decide (z.1=w)).map (·.2)
theorem afd{R:List Rl}{z:Rl}{w:Str}(h:R[i]?=some z):rowsW (R.take (i+1)) w=if z.1=w then rowsW (R.take i) w++[z.2] else rowsW (R.take i) w:=by
 rw [v6,h];unfold rowsW;rw [cA,D0]
 by_cases e:z.1=w
 .rw [if_pos e,Option.toList_some,jR (by simpa using e)];rfl
 .rw [if_neg e,Option.toList_some,jS (by simpa using e)];simp
theorem aZ{hi:Option Int}(hk:1<=k)(hn:1<=n):¬ (HT.sIx n 0 (some (k:Int))=0/\HT.sIx n n hi=n):=fun h=>by
 have:=h.1
 rw [HT.sIx_nat] at this;lia
noncomputable abbrev jobsL:List (B3×V):=[((Sum.inr ("row" : Str):B3),V.str "letter"),(Sum.inr ("marks" : Str),V.str "mark"),(Sum.inr ("great" : Str),V.str "great"),(Sum.inr ("as" : Str),V.str "as"),(Sum.inr ("over" : Str),V.str "over")]
noncomputable def gZ (w:Str):Prop:=w=("row" : Str)\/w=("marks" : Str)\/w=("great" : Str)\/w=("as" : Str)\/w=("over" : Str)
theorem wW{w:Str}(h:gZ w):valV jobsL (Sum.inr w)=some (.str (jobD w)):=by
 rcases h with rfl | rfl | rfl | rfl | rfl <;> decide +kernel
theorem amh{w:Str}(h:¬ gZ w):valV jobsL (Sum.inr w)=none:=by
 unfold gZ at h;have n:∀ u:Str,w≠u->¬ ((Sum.inr u:B3)=Sum.inr w):=fun u hu e=>hu (Sum.inr.inj e).symm
 rw [cL (n _ (fun e=>h (.inl e))),cL (n _ (fun e=>h (.inr (.inl e)))),cL (n _ (fun e=>h (.inr (.inr (.inl e))))),cL (n _ (fun e=>h (.inr (.inr (.inr (.inl e)))))),cL (n _ (fun e=>h (.inr (.inr (.inr (.inr e))))))];rfl
theorem oF{z:Rl}{p:Str}(h:p∈P3 z):gZ z.1:=by
 unfold P3 at h;unfold gZ
 split at h
 .rename_i e;exact .inr (.inr (.inl e))
 .split at h
  .rename_i e;exact .inr (.inr (.inr (.inl e)))
  .split at h
   .rename_i e
    rcases e with e | e | e
    .exact .inl e
    .exact .inr (.inl e)
    .exact .inr (.inr (.inr (.inr e)))
   .cases h
theorem arj{R:List Rl}{z:Rl}{p:Str}(hz:R[i]?=some z)(hp:(P3 z)[j]?=some p) :
  (C6 R)[(C6 (R.take i)).length+j]?=some (p,jobD z.1)/\(C6 R).take ((C6 (R.take i)).length+j)=C6 (R.take i)++((P3 z).take j).map fun p=>(p,jobD z.1):=by
 obtain ⟨more,e⟩:=agr R (i+1);rw [afc hz,X3] at e;have hj:j<(P3 z).length:=(E6.mp hp).1;rw [e]
 constructor
 .rw [gF (eI _ _),Nat.add_sub_cancel_left,eB (by rw [A6];exact hj),R6,hp];rfl
 .rw [List.take_append,v4 (eI _ _),Nat.add_sub_cancel_left,List.take_append_of_le_length (by rw [A6];lia),v7]
theorem ark{d:Nat} : (([c]:List Nat)<[d])↔c<d:=by
 constructor
 .intro h;cases h with
  | rel h=>exact h
  | cons h=>cases h
 .intro h;exact List.Lex.rel h
theorem B1.same(e:Same H H')(h:B1 K H a xs):B1 K H' a xs:=by
 rcases h with (h | ⟨o,h⟩) | h
 .exact .inl (.inl (e _ _ h))
 .exact .inl (.inr ⟨o,e _ _ h⟩)
 .exact .inr h
theorem B1.dput{d:Addr}{o:HO}(hd:H d=some (.dK kvs))(h:B1 K H a xs):B1 K (A0 H d o) a xs:=by
 rcases h with (h | ⟨o,h⟩) | h
 .exact .inl (.inl (by rw [A7 (fun e=>by rw [e,hd] at h;cases h)];exact h))
 .exact .inl (.inr ⟨o,by rw [A7 (fun e=>by rw [e,hd] at h;cases h)];exact h⟩)
 .exact .inr h
noncomputable def spHas (K:PySem.W.Frag):Sp:=fun vs H Q _=>∃ (a:Addr) (ts:List Addr) (R:List Rl) (w:Str),vs=[.ref a,.str w]/\IsRules H a ts R/\R.length<=1000/\∀ H',Same H H'->Q (.bl (hasW R w)) H'
noncomputable def akh (K:PySem.W.Frag):Sp:=fun vs H Q _=>∃ (t:Addr) (z:Rl),vs=[.ref t]/\H t=some (tupR z)/\∀ p H',Same H H'->B1 K H' p ((P3 z).map V.str)->Q (.ref p) H'
noncomputable def aki:Sp:=fun vs H Q _=>∃ (d:Addr) (p j:Str) (fg:Bool) (ks:List Str) (g:Str->Str),vs=[.ref d,.str p,.str j,.bl fg]/\H d=some (.dK (C2 ks fun t=>.str (g t)))/\p.length<=1000/\(p∈ks->g p=j/\j∈oE)/\(fg=true->∀ c∈p.cps.toList,figO c=false)/\
 ∀ H',Same H H'->Q (.bl false) H'
noncomputable def W9 (R:List Rl):List Str:=if hasW R "blanks"=true then [" "] else []
noncomputable def jobG (g:Str->Str):Str->V:=fun t=>if t=(" " : Str) then .str "over" else .str (g t)
noncomputable def amZ (K:PySem.W.Frag):Sp:=fun vs H Q _=>∃ (a:Addr) (ts:List Addr) (R:List Rl) (g:Str->Str),vs=[.ref a]/\IsRules H a ts R/\R.length<=1000/\(C6 R).length<=10000/\NC (hasW R "figures") g (C6 R)/\(" " : Str)∉(C6 R).map (·.1)/\
 ∀ d H',H d=none->Same H H'->H' d=some (.dK (C2 (keysP (C6 R)++W9 R) (jobG g)))->Q (.ref d) H'
noncomputable def ordF (f b:Bool) (j ll ml md:Addr):List (Str×V):=putF "made" (.ref md) (putF "mark_line" (.ref ml) (putF "letter_line" (.ref ll) (putF "jobs" (.ref j) (putF "behind" (.bl b) (putF "figures" (.bl f) [])))))
theorem ad7(f b:Bool)(j ll ml md:Addr):(ordF f b j ll ml md).lookup ("figures" : Str)=some (V.bl f):=by
 unfold ordF;rw [P1,if_neg 'd',P1,if_neg 'd',P1,if_neg 'd',P1,if_neg 'd',P1,if_neg 'd',P1,if_pos rfl]
theorem aeC(f b:Bool)(j ll ml md:Addr):(ordF f b j ll ml md).lookup ("behind" : Str)=some (V.bl b):=by
 unfold ordF;rw [P1,if_neg 'd',P1,if_neg 'd',P1,if_neg 'd',P1,if_neg 'd',P1,if_pos rfl]
theorem ags(f b:Bool)(j ll ml md:Addr):(ordF f b j ll ml md).lookup ("jobs" : Str)=some (V.ref j):=by
 unfold ordF;rw [P1,if_neg 'd',P1,if_neg 'd',P1,if_neg 'd',P1,if_pos rfl]
theorem oG(f b:Bool)(j ll ml md:Addr){m:Str}(h:m∉(["made", "mark_line", "letter_line", "jobs", "behind", "figures"]:List Str)):(ordF f b j ll ml md).lookup m=none:=by
 unfold ordF;have n:∀ u∈(["made", "mark_line", "letter_line", "jobs", "behind", "figures"]:List Str),¬ m=u:=fun u hu e=>h (by rw [e];exact hu)
 rw [P1,if_neg (n _ 'c'),P1,if_neg (n _ 'c'),P1,if_neg (n _ 'c'),P1,if_neg (n _ 'c'),P1,if_neg (n _ 'c'),P1,if_neg (n _ 'c')];rfl
theorem IsRules.but{x:Addr}{R:List Rl}(h:IsRules H a rs R)(s:SameBut x H H'){dx:Addr}{fs:List (Str×V)}(hx:H x=some (.ins C dx fs)):IsRules H' a rs R:=
 ⟨s _ _ (fun e=>by have:=h.top;rw [e,hx] at this;cases this) h.top,O6 h.row fun t z e=>s _ _ (fun q=>by rw [q,hx] at e;cases e) e⟩
theorem SameBut.trans{x:Addr}(a:SameBut x H H1)(b:SameBut x H1 H2):SameBut x H H2:=fun c o hc h=>b c o hc (a c o hc h)
theorem Same.but{x:Addr}(a:Same H H1):SameBut x H H1:=fun c o _ h=>a c o h
noncomputable def Q5 (R:List Rl) (w:Str) (L:List Str):Prop:=V3 (edges (rowsW R w)) (toldL (rowsW R w)) L/\∀ p∈toldL (rowsW R w),p∈L
structure IsOrder(C:Addr)(H:Hp)(x:Addr)(g:Str->Str)(R:List Rl)(L M:List Str):Prop where
 ob:∃ dx j ll ml md,H x=some (.ins C dx (ordF (hasW R "figures") (hasW R "behind") j ll ml md))/\H j=some (.dK (C2 (keysP (C6 R)++W9 R) (jobG g)))/\H ll=some (.lst (L.map V.str))/\H ml=some (.lst (M.map V.str))
 l1:Q5 R "row" L
 l2:Q5 R "marks" M
noncomputable def am0 (K:PySem.W.Frag):Sp:=fun vs H Q _=>∃ (a:Addr) (ts:List Addr) (R:List Rl) (w:Str) (rank:Str->Nat),vs=[.ref a,.str w]/\IsRules H a ts R/\R.length<=1000/\(rowsW R w).flatten.length<=100000/\(∀ e∈edges (rowsW R w),rank e.1<rank e.2)/\
 ∀ (l:Addr) (line:List Str) (H':Hp),H l=none->Same H H'->H' l=some (.lst (line.map V.str))->V3 (edges (rowsW R w)) (toldL (rowsW R w)) line->(∀ p∈toldL (rowsW R w),p∈line)->Q (.ref l) H'
noncomputable def cellF (ns:List Int) (k:Int):Int:=if k<(ns.length:Int) then ns.getD k.toNat 0 else 0
noncomputable def LA:List Nat:=SG.filter fun c=>!figO c
noncomputable def LB:List Nat:=LA++[48,49,50,51,52,53,54,55,56,57]
noncomputable def listF (d:Bool):List Nat:=if d=true then LB else LA
noncomputable def lenF (d:Bool):Int:=if d=true then 93 else 83
noncomputable def wX (ns:List Int):Bool:=decide (cellF ns 1 / 12 % 2=0)
noncomputable def stepO:List Int:=[1,2,4,5,7,8,10,11,13,23,44,80]
noncomputable def stO (ns:List Int):Int:=(F8 stepO (cellF ns 1 % 12)).getD 0
noncomputable def kT (ns:List Int) (k:Int):Nat:=(F8 (listF (wX ns)) ((cellF ns 0+k*stO ns) % lenF (wX ns))).getD 33
theorem arl{l:List Nat}(nd:l.Nodup){i j:Int}(h0:0<=i)(h1:i<l.length)(h2:0<=j)(h3:j<l.length)(h:(F8 l i).getD 33=(F8 l j).getD 33):i=j:=by
 have li:i.toNat<l.length:=by lia
 have lj:j.toNat<l.length:=by lia
 have a1:F8 l i=some l[i.toNat]:=by
  have:=J9 (xs:=l) (j:=i.toNat) (v:=l[i.toNat]) (J5 li)
  rw [show ((i.toNat:Nat):Int)=i by lia] at this;exact this
 have a2:F8 l j=some l[j.toNat]:=by
  have:=J9 (xs:=l) (j:=j.toNat) (v:=l[j.toNat]) (J5 lj)
  rw [show ((j.toNat:Nat):Int)=j by lia] at this;exact this
 rw [a1,a2] at h
 have:=(eA.mp nd)
 rw [gG] at this
 rcases mZ i.toNat j.toNat with z | z | z
 .exact absurd h (this _ _ li lj z)
 .lia
 .exact absurd h.symm (this _ _ lj li z)
theorem aiQ{m s t b k l:Int}(ht:s*t % m=1)(e:(b+k*s) % m=(b+l*s) % m)(h0:0<=k)(h1:k<m)(h2:0<=l)(h3:l<m):k=l:=by
 have d1:m ∣ (k-l)*s:=by
  have:=Int.dvd_of_emod_eq_zero (Int.emod_eq_emod_iff_emod_sub_eq_zero.mp e)
  rwa [show (b+k*s)-(b+l*s)=(k-l)*s by rw [Int.sub_mul];lia] at this
 have d3:m ∣ (k-l)*(s*t):=by rw [<- Int.mul_assoc];exact Int.dvd_mul_of_dvd_left d1
 have d4:m ∣ s*t-1:=⟨s*t / m,by have:=Int.emod_add_mul_ediv (s*t) m;lia⟩
 have d5:m ∣ (k-l)*(s*t-1):=Int.dvd_mul_of_dvd_right d4;have d6:=Int.dvd_sub d3 d5;rw [show (k-l)*(s*t)-(k-l)*(s*t-1)=k-l by rw [Int.mul_sub,Int.mul_one];lia] at d6;have d7:=Int.emod_eq_emod_iff_emod_sub_eq_zero.mpr (Int.emod_eq_zero_of_dvd d6)
 rwa [Int.emod_eq_of_lt h0 h1,Int.emod_eq_of_lt h2 h3] at d7
end L2
namespace L2
open PySem PySem.Spec PyProof.Rows
open AutoSeq1 (wpAny_loadPart' idx_int)
noncomputable abbrev bareL (ys:Array Value) (k:Nat):Obj:=⟨.type "list",none,.seq ys k,#[]⟩
noncomputable abbrev anyT (dd:Option Addr) (ys:Array Value) (k:Nat) (ss:Array (Option Value)):Obj:=⟨.type "tuple",dd,.seq ys k,ss⟩
theorem aeE{l:Addr}{ys zs:Array Value}{k2:Nat}{dd:Option Addr}(short:¬ (!ys.isEmpty&&Builtin.List.listTooLong (ys.size+zs.size))=true)(h1:ys.size<=sizeLine)(h2:ys.size+zs.size<=sizeLine+1) :
  Meets (Builtin.«list.extend» ⟨[.ref l,.ref b],[]⟩) (fun _ R s=>s.heap.get? l=some (bareL ys k)/\s.heap.get? b=some (anyT dd zs k2 ss)/\R (.ok (.ret .none)) { s with heap:=s.heap.update l (Obj.mapSeq (·++zs)),toks:=s.toks }):=by
 refine .of_wp fun _ _ _ R s ⟨gl,gb,fin⟩=>?_
 rcases s with ⟨hp,gens,dr,tk,sys⟩
 have c1:=idx_int;have c2:=AutoSeq1.sub_tuple_tuple;have c3:=AutoSeq1.sub_list_list;have c4:=AutoSeq1.sub_tuple_list;have c5:=AutoSeq1.sub_list_tuple;have room:(ys++zs).size<=sizeLine+1:=Array.size_append ▸ h2
 wp_walk using (wpAny_updateSeq gl rfl (hz:=h1) (_hz':=room)),wpAny_loadPart' gl,wpAny_loadPart' gb
 exact ⟨_,rfl,fin⟩
section
variable {X:Cx}
noncomputable def ah0 (K:PySem.W.Frag):V->List V->Hp->VK->Prop:=fun x vs H Q=>∃ l b xs zs,x=.ref l/\vs=[.ref b]/\H l=some (.lst xs)/\B1 K H b zs/\xs.length+zs.length<=sizeLine/\Q .non (A0 H l (.lst (xs++zs)))
theorem aiR:nP X "list.extend" (ah0 X.K):=by
 intro pins s Y H x vs v us Q I rx rv h;obtain ⟨l,b,xs,zs,rfl,rfl,hH,hB,hz,q⟩:=h
 cases rx
 obtain ⟨u,rfl,ru⟩:=rv.one
 cases ru
 obtain ⟨z,its,n,r,hl,e⟩:=I.lstM hH;obtain ⟨its2,r2,⟨⟨c,dct,dt,sl⟩,e2,hc,n2,hd⟩,V8⟩:=I.tuple hB
 replace hc:c=.type "tuple":=hc
 replace hd:dt=.seq its2.toArray n2:=hd
 subst hc hd;have q1:=r2.length;have hsz:its.toArray.size+its2.toArray.size<=sizeLine:=by rw [K9,K9];lia
 have z9:¬ (!its.toArray.isEmpty&&Builtin.List.listTooLong (its.toArray.size+its2.toArray.size))=true:=by
  rw [ahL hsz,Bool.and_false];exact L8
 refine call_meets F.slot_list_extend ⟨_,e,rfl⟩ F.entry_list_extend (F.args_list_extend_2 _ _)
  (aeE (k:=n) (k2:=n2) (dd:=dct) (ss:=sl) z9 (by rw [K9];lia) 'a') ⟨e,e2,?_⟩
 refine ⟨.non,_,I.lset (its':=its++its2) hH e 'c' (r.append r2) ?_,rfl,q⟩;rw [D6];lia
theorem akj(hK:X.K=K:=by rfl):QMt X "list.extend" (ah0 K):=by subst hK;exact ⟨fun pins s Y H x xs v us Q I rx rv h=>aiR pins s Y H x xs v us Q I rx rv h⟩
noncomputable def rMulS:V->V->Hp->VK->Prop:=fun x y H Q=>∃ z n,x=.str z/\y=.int n/\MulOk z n/\Q (.str (Txt.mul z n)) H
theorem arm:G7 X (binaryOp .Mult) rMulS:=by
 sleep 0;obtain ⟨z,n,rfl,rfl,h1,q⟩:=h;obtain ⟨t,rfl⟩:=rx;obtain ⟨t2,rfl⟩:=ry;exact SB.mul h1 fun t' k=>⟨.str _,H,I.tok k,⟨_,rfl⟩,q⟩
theorem arn:QOp X (binaryOp .Mult) rMulS:=⟨arm⟩
end
noncomputable def Itv (l : Addr) (n : Nat) : It :=
  ⟨fun i H => ∃ xs x, H l = some (.lst xs) /\ i<n /\ xs[n-1-i]? = some x,
   fun i H v H' => H' = H /\ ∀ xs, H l = some (.lst xs) -> xs[n-1-i]? = some v,
   fun i H => ∃ xs, H l = some (.lst xs) /\ n <= i⟩
theorem afE:bootBuiltins "reversed"=some (.type "reversed"):=by decide +kernel
section
variable {X:Cx}
noncomputable def iRev (ta:TA):TI:=fun Y H R=>ta Y H fun vs H1=>∃ (l:Addr) (xs:List V),vs=[.ref l]/\H1 l=some (.lst xs)/\R (Itv l xs.length) H1
end
theorem aoC{R:It->Hp->Prop} : iRev ta Y H R=ta Y H fun vs H1=>∃ (l:Addr) (xs:List V),vs=[.ref l]/\H1 l=some (.lst xs)/\R (Itv l xs.length) H1:=rfl
noncomputable abbrev eV (l:Addr):Obj:={ cls:=.type "list_iterator",data:=.fields #[.ref l,.int 0 0] }
noncomputable abbrev kU (it:Addr) (i:Int):Obj:={ cls:=.type "enumerate",data:=.fields #[.none,.bool false,.ref it,rawInt i,.none,.none] }
noncomputable abbrev anyL (dd:Option Addr) (ys:Array Value) (k:Nat) (ss:Array (Option Value)):Obj:=⟨.type "list",dd,.seq ys k,ss⟩
set_option maxHeartbeats 4000000 in
theorem aeR{l:Addr}{ys:Array Value}{dd:Option Addr}{i:Int}{t:Tok}(fits:Builtin.SmallTypes.fitsIndex i=true) :
  Meets (Builtin.«enumerate.__new__» ⟨[.type "enumerate",.ref l],[("start",.int i t)]⟩) (fun _ R s=>s.heap.get? l=some (anyL dd ys k ss)/\
   R (.ok (.ret (.ref (s.heap.push (eV l)).objs.size))) { s with heap:=(s.heap.push (eV l)).push (kU s.heap.objs.size i) }):=by
 refine .of_wp fun _ _ _ R s ⟨gl,fin⟩=>?_
 rcases s with ⟨hp,gens,dr,tk,sys⟩
 have c1:=sub_enumerate;have isl:Heap.IsList (Shared.heap ⟨hp,gens,dr,tk,sys⟩) l ys:=⟨_,gl,rfl,k,rfl⟩
 wp_walk using wpAny_loadPart' gl
 refine wpAny_stack_any fun _=>wpAny_pure ?_
 split
 case h_1 c _ _ _ _ _=>
  generalize (c==Value.type "enumerate")=truth
  cases truth <;> (wp_walk using wpAny_loadPart' gl,wpAny_pyIter_list isl;exact ⟨_,rfl,fin⟩)
 case h_2=>(wp_walk using wpAny_loadPart' gl,wpAny_pyIter_list isl;exact ⟨_,rfl,fin⟩)
theorem aiS(a b:Value):checkTypeCall "enumerate" ⟨[a],[("start",b)]⟩=pure ():=by kernel_rfl
theorem akk(a b:Value):checkBuiltinCall "enumerate.__new__" ⟨[.type "enumerate",a],[("start",b)]⟩=pure ():=by kernel_rfl
theorem aiT(a b c:Value):argsOk "object.__init__" ⟨[a,b],[("start",c)]⟩:=by
 unfold argsOk;rw [signature?_of (id:="object.__init__") (n:="__init__".toList.reverse) (o:="object".toList.reverse) (by kernel_rfl) F.owner_object]
 kernel_rfl
theorem akl{self b c:Value} : Meets (Builtin.«object.__init__» ⟨[self,b],[("start",c)]⟩) (fun _ R s=>s.TypeIs self "enumerate"/\R (.ok (.ret .none)) s):=by
 have c1:=F.called_enumerate.init.lookup;have c2:=F.called_enumerate.made;refine .of_wp fun _ _ _ R s ⟨isT,fin⟩=>?_
 repeat (any_goals (first | assumption | wp_step))
 exact ⟨_,rfl,fin⟩
section
variable {prog:Program} {w:World} {A:Around} {E:Value->Shared->Prop} {s:Shared}
theorem aeF{l:Addr}{ys:Array Value}{i:Int}{t:Tok}{Q:Value->Shared->Prop}(isl:s.heap.IsList l ys)(fits:Builtin.SmallTypes.fitsIndex i=true)(fin:∀ h',IsEnum h' (s.heap.objs.size+1) s.heap.objs.size i .none->h'.IsListIter s.heap.objs.size l 0->(∀ b o,s.heap.get? b=some o->h'.get? b=some o)->Q (.ref (s.heap.objs.size+1)) { s with heap:=h' }) :
  wpAny (model prog w) A (call (.type "enumerate") [.ref l] [("start",.int i t)]) Q E s:=by
 obtain ⟨⟨c,dd,dt,ss⟩,gl,hc,k,hd⟩:=isl;obtain rfl:c=.type "list":=hc;obtain rfl:dt=.seq ys k:=hd;obtain ⟨hd0,tl,c1⟩:=F.called_enumerate.mro;have c2:=F.called_enumerate.made;have c3:=F.called_enumerate.sub;have c4:=F.called_enumerate.notType;have c5:=F.called_enumerate.canCreate;have c6:=F.called_enumerate.init.lookup;have c7:=aiS (.ref l) (.int i t);refine wpAny_call (codeAny_of_tree (show wpAny _ _ (callAny (.type "enumerate") _) _ _ _ from wpAny_pure ⟨Code.quiet_builtin _ 'd',codeAny_builtin F.entry_type_call ?_⟩));rw [Around.under_plain (weight_type_call_type "enumerate" [.ref l] [("start",.int i t)]) (units_type_call_type "enumerate" [.ref l] [("start",.int i t)])]
 repeat (any_goals (first | assumption | wp_step))
 have z:(s.heap.push (eV l)).objs.size=s.heap.objs.size+1:=Heap.size_push ..;have made:IsEnum ((s.heap.push (eV l)).push (kU s.heap.objs.size i)) (s.heap.objs.size+1) s.heap.objs.size i .none:=by
  have g:=Heap.get?_push_size (s.heap.push (eV l)) (o:=kU s.heap.objs.size i) rfl;rw [z] at g;exact g
 have done:=fin _ made ⟨_,Heap.get?_push_of_some _ (Heap.get?_push_size _ rfl),rfl,rfl⟩ fun b o g=>Heap.get?_push_of_some _ (Heap.get?_push_of_some _ g)
 refine codeAny_mono (codeAny_call_builtin F.called_enumerate.plain F.entry_enumerate_new (wpAny_of_eq (akk _ _) (aeR (dd:=dd) (k:=k) (ss:=ss) fits prog w A.in1 (wants (fun v s2=>v=.ref (s.heap.objs.size+1)/\s2={ s with heap:=(s.heap.push (eV l)).push (kU s.heap.objs.size i) }) E) s ⟨gl,?_,?_⟩))) ?_
 .rw [z]
 .rfl
 .intro r s1 hr
  rcases r with e | fl
  .exact hr
  .cases fl with
   | ret v=>
    obtain ⟨rfl,rfl⟩:=hr;have isT:Shared.TypeIs { s with heap:=(s.heap.push (eV l)).push (kU s.heap.objs.size i) } (.ref (s.heap.objs.size+1)) "enumerate":=⟨_,made,rfl⟩
    have c8:=F.called_enumerate.init.bind (.ref (s.heap.objs.size+1))
    repeat (any_goals (first | assumption | wp_step))
    have ran:=akl (self:=.ref (s.heap.objs.size+1)) (b:=.ref l) (c:=.int i t) prog w A.in1 (wants (fun v s2=>v=.none/\s2={ s with heap:=(s.heap.push (eV l)).push (kU s.heap.objs.size i) }) E) _ ⟨isT,rfl,rfl⟩;refine codeAny_mono (codeAny_call_builtin F.called_enumerate.init.plain F.entry_object_init (F.called_enumerate.init.check _ _ _ _ _ _ _ _ isT (aiT _ _ _) ran)) fun r s2 hr=>?_
    rcases r with e | fl
    .exact hr
    .cases fl with
     | ret v=>
      obtain ⟨rfl,rfl⟩:=hr
      repeat (any_goals (first | assumption | wp_step))
     | next=>exact hr.elim
     | brk=>exact hr.elim
     | cont=>exact hr.elim
   | next=>exact hr.elim
   | brk=>exact hr.elim
   | cont=>exact hr.elim
end
theorem aro{w:World}(calm:A.handled=none){l:Addr}(apart:l≠it)(ys:Array Value) :
  Draws prog w A it [it,l] (ys.size+1) (fun i v=>1<=i/\ys[i-1]?=some v) (fun i h=>1<=i/\h.IsListIter it l (i-1)/\h.IsList l ys):=by
 have D:=Draws.list (prog:=prog) (w:=w) calm it l apart ys;refine ⟨fun i h st=>D.live (i-1) h st.2,fun i h h' st same=>⟨st.1,D.frame (i-1) h h' st.2 same⟩,fun i s Q E hi st fin=>?_,fun s Q E st fin=>D.done s Q E st.2 fin⟩;refine D.item (i-1) s Q E (by have:=st.1;lia) st.2 fun x h' tk px st' sb=>fin x h' tk ⟨st.1,px⟩ ⟨by lia,?_⟩ sb
 rw [show i+1-1=i-1+1 by have:=st.1;lia];exact st'
theorem arp{w : World}(calm : A.handled = none){l: Addr}{ys : Array Value}(none : ys[i]? = none) :
    Draws prog w A it [it, l] (i+1) (fun _ _ => True) (fun k h => k = i+1 /\ h.IsListIter it l i /\ h.IsList l ys) :=
  ⟨fun _ _ st => let ⟨o, ho, _⟩ := st.2.1; ⟨o, ho⟩, fun _ _ _ st same => ⟨st.1, st.2.1.at fun o g => same it 'c' o g, st.2.2.at fun o g => same l 'c' o g⟩,
   fun k s Q E hk st => absurd st.1 'a', fun s Q E st fin => wpAny_nextOf_list_end calm st.2.1 st.2.2 none fin⟩
noncomputable def Ite1 (l : Addr) : It :=
  ⟨fun i H => ∃ xs x, H l = some (.lst xs) /\ xs[i]? = some x,
   fun i H v H' => ∃ t xs x, H l = some (.lst xs) /\ xs[i]? = some x /\ H t = none /\ v = .ref t /\ H' = A0 H t (.tup [.int (i+1 : Nat), x]),
   fun i H => ∃ xs, H l = some (.lst xs) /\ xs.length <= i⟩
theorem aiU{P:Program}{w:World}{pos:Pos}(e it l:Addr)(G8:e≠it) :
  Turn P w K (.Tuple elts x1 pos) (Ite1 l) [e,it] e (fun i h=>(∃ old,IsEnum h e it ((i+1:Nat):Int) old)/\h.IsListIter it l i) where
 mem:=by simp
 obj:=fun i h ⟨⟨old,he⟩,hi⟩ c hc=>by
  have q:c=e\/c=it:=by simpa using hc
  rcases q with rfl | rfl
  .exact ⟨_,he,fun v q=>by cases q⟩
  .obtain ⟨o,e,c,d⟩:=hi;exact ⟨o,e,fun v z=>by rw [d] at z;cases z⟩
 keep:=fun i h h' ⟨⟨old,he⟩,hi⟩ k=>⟨⟨old,k e 'c' _ he⟩,hi.at fun o q=>k it 'c' o q⟩
 item:=by
  intro X hP hw hK hc i pins s Y H E I hf ⟨⟨old,he⟩,hi⟩ hg;subst hP hw hK;obtain ⟨xs,x,e1,hx⟩:=hg;obtain ⟨its1,Y1,p1,_⟩:=I.list (D8.of (K:=X.K) e1);obtain ⟨u1,B5,r1⟩:=Y1.get hx;have C5:i<its1.length:=(E6.mp B5).1;obtain ⟨ol,gl,cl,_⟩:=p1.isList;have nli:l≠it:=fun q=>by
   obtain ⟨oi,gi,ci,_⟩:=hi;rw [q,gi] at gl
   cases gl
   rw [ci] at cl;exact absurd cl (by decide)
  have nle:e≠l:=fun q=>by
   rw [<- q,he] at gl
   cases gl
   exact absurd (show Value.type "enumerate"=Value.type "list" from cl) (by decide)
  refine wpAny_pyNext_enum_itemD (i:=i+1) (aro (A:=X.A.in1) (show X.A.in1.handled=none from I.ok.hd hc) nli its1.toArray) he ⟨by lia,by simpa using hi,p1.isList⟩ (by simp;lia) G8 (by simp [G8,nle]) fun y h' tk py b1 b2 b3 b4 b5=>?_
  obtain rfl:u1=y:=by
   have:=py.2
   simp [B5] at this;exact this
  refine ⟨_,rfl,wpAny_letOwnedTupleGo_enum b1 fun h2' c1 c2=>?_⟩;have o4:e<s.heap.objs.size:=Heap.lt_size he;have up:∀ c o,c≠e->h'.get? c=some o->h2'.get? c=some o:=fun c o hc q=>(c2.2 c hc).trans q
  have hT:=up _ _ (Nat.ne_of_gt o4) b3;have nT:∀ c∈[e,it],c≠s.heap.objs.size:=fun c hc=>by
   have q:c=e\/c=it:=by simpa using hc
   refine M4 ?_
   rcases q with rfl | rfl
   .exact o4
   .obtain ⟨o,q,_⟩:=hi;exact Heap.lt_size q
  refine ⟨.ref s.heap.objs.size,A0 H s.heap.objs.size (.tup [.int (i+1:Nat),x]),I.turnNew (t':=tk+1) (ch:=[e,it]) hf (fun c u hc q=>?_) (C3 _) ⟨by show 2<=sizeLine;decide,[.int (i+1:Nat) tk,u1],.cons ⟨_,rfl⟩ (.cons r1 .nil),?_⟩,rfl,⟨_,xs,x,e1,hx,I.fresh,rfl,rfl⟩,
   ⟨⟨_,c1⟩,(show h'.IsListIter it l (i+1) by simpa using b2.2.1).at fun o q=>up _ o G8.symm q⟩,fun c hc=>by rw [A7 (nT c hc)];exact (hf c hc).1⟩
  .have q1:c≠e/\c≠it:=⟨fun q=>hc (by simp [q]),fun q=>hc (by simp [q])⟩
   exact up c u q1.1 (b5 c u q1.1 q1.2 q)
  .exact ⟨_,hT,rfl,_,rfl⟩
 done:=by
  intro X hP hw hK hc i pins s Y H E I hf ⟨⟨old,he⟩,hi⟩ hg;subst hP hw hK;obtain ⟨xs,e1,iY⟩:=hg;obtain ⟨its1,Y1,p1,_⟩:=I.list (D8.of (K:=X.K) e1);have q1:=Y1.length;obtain ⟨f0,f1,f2,f3,f4,f5⟩:=hf it 'c';exact wpAny_pyNext_enum_endD (arp (A:=X.A.in1) (show X.A.in1.handled=none from I.ok.hd hc) (ys:=its1.toArray) (i:=i) (by simp;lia)) he ⟨rfl,hi,p1.isList⟩ fun h' eb=>⟨rfl,I.turned (t':=s.toks) (fun b o hb q=>eb b o hb q) f0 f1 f3 f4 f5⟩
 self:=fun _ _ _ _ _ st h=>by
  obtain ⟨⟨old,he⟩,_⟩:=st;exact wpAny_pyIter_enum he h
theorem akm:bootBuiltins "enumerate"=some (.type "enumerate"):=by decide +kernel
section
variable {X:Cx}
noncomputable def wY (ta:TA):TI:=fun Y H R=>ta Y H fun vs H1=>∃ (l:Addr) (xs:List V),vs=[.ref l]/\H1 l=some (.lst xs)/\R (Ite1 l) H1
theorem ami{a:Expr}{p pos:Pos}(hg:Gl X "enumerate")(hm:X.mg "enumerate"=none)(ha:PA X [a] ta)(h1:L5 a=false:=by rfl) :
  PI X (.Tuple elts x1 tpos) (.Call (.Name "enumerate" p) [a] [⟨some "start",.Constant (.int 1) ck cpos,kpos⟩] pos) (wY ta):=by
 intro pins s Y H R I h;refine wpAny_Call_Name_kw (cH I hg hm akm (PySem.W.callWith_of (P:=fun _=>True) ?_ (fun _ _=>⟨_,.inr (.inl rfl),PySem.W.Looks.of_pure rfl⟩) (PyProof.Rows.evalArgs_kw2 rfl (A8 (ha pos pins s Y H _ I h) fun us s1 ⟨vs,H1,I1,r1,q1⟩=>?_) (O7 h1))))
 .rw [O7 h1];rfl
 have kw:PK X [⟨some "start",.Constant (.int 1) ck cpos,kpos⟩] (tCons (tC (.int 1)) tNil):=anI amM aqA;refine A8 (kw pos pins s1 Y H1 (fun zs H2=>zs=[.int 1]/\H2=H1) I1 ⟨rfl,rfl⟩) fun ws s2 ⟨zs,H2,I2,rz,e1,e2⟩=>⟨trivial,?_⟩
 subst e1 e2;obtain ⟨l,xs,rfl,e1,q⟩:=q1;obtain ⟨u1,rfl,iZ⟩:=vals1 r1
 cases iZ
 obtain ⟨u2,rfl,ru2⟩:=vals1 rz;obtain ⟨t,rfl⟩:=ru2;obtain ⟨its1,Y1,p1,_⟩:=I2.list (D8.of (K:=X.K) e1);refine aeF p1.isList (by decide) fun h' z1 z2 z4=>wpAny_pyIter_enum z1 ?_
 refine ⟨s2.heap.objs.size+1,[s2.heap.objs.size+1,s2.heap.objs.size],_,_,H2,rfl,I2.kept (t':=s2.toks) z4,aiU _ s2.heap.objs.size l (r8 'a'),⟨⟨_,z1⟩,z2⟩,fun b hb=>?_,q⟩;have c0:s2.heap.objs.size<=b:=by
  have e:b=s2.heap.objs.size+1\/b=s2.heap.objs.size:=by simpa using hb
  rcases e with rfl | rfl
  .exact eI _ _
  .exact C3 _
 exact I2.fpOk c0 (I2.hok.fresh c0)
theorem amj{a:Expr}{p pos:Pos}(hm:X.mg "enumerate"=none)(ha:QA X [a] ta)(hg:Gl X "enumerate":=by rfl)(h1:L5 a=false:=by rfl) :
  QI X (.Tuple elts x1 tpos) (.Call (.Name "enumerate" p) [a] [⟨some "start",.Constant (.int 1) ck cpos,kpos⟩] pos) (wY ta):=⟨ami hg hm ha.out h1⟩
end
theorem ako{R:It->Hp->Prop} : wY ta Y H R=ta Y H fun vs H1=>∃ (l:Addr) (xs:List V),vs=[.ref l]/\H1 l=some (.lst xs)/\R (Ite1 l) H1:=rfl
theorem forE1{l:Addr}(Pv:Nat->St->Hp->Prop)(h0:Pv 0 Y H)(hl:∀ i Y H,Pv i Y H->H l=some (.lst xs))(hs:∀ i x t Y H,xs[i]?=some x->Pv i Y H->H t=none->g (.ref t) Y (A0 H t (.tup [.int (i+1:Nat),x])) fun σ2 H2=>tb { D with nx:=Pv (i+1),ct:=Pv (i+1),bk:=D.nx } σ2 H2)(hd:∀ Y H,Pv xs.length Y H->D.nx Y H):ForIt (Ite1 l) g tb D Y H:=by
 refine ⟨fun i m Y H=>m=xs.length-i/\i<=xs.length/\Pv i Y H,⟨xs.length,by simp,G4 _,h0⟩,?_⟩;rintro i m Y H ⟨rfl,hi,p⟩;have e1:=hl i Y H p
 by_cases C5:i<xs.length
 .refine .inr ⟨⟨xs,xs[i],e1,by simp⟩,Pv (i+1),fun σ' H' p'=>⟨_,by lia,rfl,C5,p'⟩,fun v H' y=>?_⟩;obtain ⟨t,xs',x,f1,hx,ht,rfl,rfl⟩:=y;rw [e1] at f1;cases f1;exact hs i x t Y H hx p ht
 .have e:i=xs.length:=by lia
  subst e;exact .inl ⟨⟨xs,e1,by lia⟩,hd Y H p⟩
end L2
namespace L2
open PySem PySem.Spec PyProof.Rows
noncomputable def akp:V->List V->Hp->VK->Prop:=fun x vs H Q=>∃ (l:Addr) (zs:List Str) (z:Str),x=.ref l/\vs=[.str z]/\H l=some (.lst (zs.map V.str))/\z∈zs/\Q (.int (zs.idxOf z:Nat)) H
theorem akq : nP X "list.index" akp:=by
 intro pins s Y H x vs v us Q I rx rv h;obtain ⟨l,zs,zz,rfl,rfl,hH,hm,q⟩:=h
 cases rx
 obtain ⟨u,rfl,ru⟩:=rv.one;obtain ⟨t,rfl⟩:=ru;obtain ⟨z,its,n,r,hl,e⟩:=I.lstM hH;have sa:=ad6 r;have hj:zs.idxOf zz<zs.length:=eC.mpr hm;rw [A6] at hl z;have V9:∀ (j:Nat) (hj:j<its.toArray.size),∃ y t',zs[j]?=some y/\its.toArray[j]=.str y t':=fun j mD=>by
  have hj2:j<zs.length:=by rw [hl];simpa using mD
  obtain ⟨t',ht⟩:=afa sa (j:=j) (z:=zs[j]) 'c';refine ⟨zs[j],t',by simp,?_⟩
  have:=(E6.mp ht).2
  simpa using this
 have hsz:zs.idxOf zz<its.toArray.size:=by rw [K9,<- hl];exact hj
 rw [sizeLine_eq] at z;refine call_meets F.slot_list_index ⟨_,e,rfl⟩ F.entry_list_index (F.args_list_index_2 _ _)
  (MeetsSeq.list_index l its.toArray n (.str zz t) (isStrOf zz) (fun y hy=>eq_isStrOf zz t sa y (by simpa using hy)) (zs.idxOf zz) hsz 'a' ?_ (fun m dL C5=>?_)) ⟨e,?_⟩
 .obtain ⟨y,t',h1,h2⟩:=V9 _ hsz;rw [h2]
  have:y=zz:=by
   have:=gI hj
   rw [J5 hj,this] at h1;exact (Option.some.inj h1).symm
  subst this;simp [isStrOf]
 .obtain ⟨y,t',h1,h2⟩:=V9 _ dL;rw [h2]
  have:y≠zz:=fun q=>by
   obtain ⟨h3,h4⟩:=E6.mp h1
   have:=List.not_of_lt_findIdx (show m<zs.findIdx (· == zz) from C5)
   rw [h4] at this;simp [q] at this
  simp [isStrOf,this]
 .exact ⟨.int (zs.idxOf zz:Nat),H,I.tok _,⟨_,rfl⟩,q⟩
theorem amk : QMt X "list.index" akp:=⟨fun pins s Y H x xs v us Q I rx rv h=>akq pins s Y H x xs v us Q I rx rv h⟩
noncomputable def wZ:V->List V->Hp->VK->Prop:=fun x vs H Q=>∃ (l:Addr) (zs:List Int) (z:Int),x=.ref l/\vs=[.int z]/\H l=some (.lst (zs.map V.int))/\z∈zs/\Q .non (A0 H l (.lst ((zs.erase z).map V.int)))
theorem sA:∀ {vs:List Value} {zs:List Int},IntsAre vs zs->∀ {j:Nat} {z:Int},zs[j]?=some z->∃ t,vs[j]?=some (.int z t)
 | _,_,.nil,_,_,h=>by simp at h
 | _,_,.cons _ _ _,0,_,h=>by simp at h;subst h;exact ⟨_,rfl⟩
 | _,_,.cons _ _ r,j+1,z,h=>by
  obtain ⟨t,q⟩:=sA r (j:=j) (z:=z) (by simpa using h);exact ⟨t,by simpa using q⟩
theorem aiV : nP X "list.remove" wZ:=by
 intro pins s Y H x vs v us Q I rx rv h;obtain ⟨l,zs,zz,rfl,rfl,hH,hm,q⟩:=h
 cases rx
 obtain ⟨u,rfl,ru⟩:=rv.one;obtain ⟨t,rfl⟩:=ru;obtain ⟨z,its,n,r,hl,e⟩:=I.lstM hH;have sa:=rD r;have hj:zs.idxOf zz<zs.length:=eC.mpr hm;rw [A6] at hl;have V9:∀ (j:Nat) (hj:j<its.toArray.size),∃ y t',zs[j]?=some y/\its.toArray[j]=.int y t':=fun j mD=>by
  have hj2:j<zs.length:=by rw [hl];simpa using mD
  obtain ⟨t',ht⟩:=sA sa (j:=j) (z:=zs[j]) 'c';refine ⟨zs[j],t',by simp,?_⟩
  have:=(E6.mp ht).2
  simpa using this
 have hsz:zs.idxOf zz<its.toArray.size:=by rw [K9,<- hl];exact hj
 refine call_meets F.slot_list_remove ⟨_,e,rfl⟩ F.entry_list_remove (F.args_list_remove_2 _ _)
  (MeetsSeq.list_remove l its.toArray n (.int zz t) (isInt zz) (fun y hy=>eq_isInt zz t sa y (by simpa using hy)) (zs.idxOf zz) hsz ?_ (fun m dL C5=>?_) (by rw [K9,<- hl];rw [A6] at z;exact z)) ⟨e,?_⟩
 .obtain ⟨y,t',h1,h2⟩:=V9 _ hsz;rw [h2]
  have:y=zz:=by
   have:=gI hj
   rw [J5 hj,this] at h1;exact (Option.some.inj h1).symm
  subst this;simp [isInt]
 .obtain ⟨y,t',h1,h2⟩:=V9 _ dL;rw [h2]
  have:y≠zz:=fun q=>by
   obtain ⟨h3,h4⟩:=E6.mp h1
   have:=List.not_of_lt_findIdx (show m<zs.findIdx (· == zz) from C5)
   rw [h4] at this;simp [q] at this
  simp [isInt,this]
 .refine ⟨.non,_,I.lset (its':=its.eraseIdx (zs.idxOf zz)) hH e ?_ ?_ ?_,rfl,q⟩
  .show its.toArray.eraseIdxIfInBounds (zs.idxOf zz)=_;rw [List.eraseIdxIfInBounds_toArray]
  .rw [List.erase_eq_eraseIdx_of_idxOf (l:=zs) (a:=zz) (w:=rfl),agk];exact r.eraseIdx _
  .rw [A6,qW hm];rw [A6] at z;lia
theorem akr : QMt X "list.remove" wZ:=⟨fun pins s Y H x xs v us Q I rx rv h=>aiV pins s Y H x xs v us Q I rx rv h⟩
theorem arq{l:Addr}{zs:List Int}{z:Int}(h:H l=some (.lst (zs.map V.int)))(hm:z∈zs)(q:Q .non (A0 H l (.lst ((zs.erase z).map V.int)))):wZ (.ref l) [.int z] H Q:=⟨l,zs,z,rfl,rfl,h,hm,q⟩
noncomputable def rMinL:List V->Hp->VK->Prop:=fun xs H Q=>∃ (p:Addr) (ns:List Int),xs=[.ref p]/\H p=some (.lst (ns.map V.int))/\ns≠[]/\∀ M:Int,M∈ns->(∀ a∈ns,M<=a)->Q (.int M) H
theorem aks(hc:X.calm=true):CallR X (.builtin "min") rMinL:=by
 intro pins s Y H xs us Q I r h;obtain ⟨p,ns,rfl,hH,G8,q⟩:=h;obtain ⟨u,rfl,ru⟩:=vals1 r
 cases ru
 obtain ⟨z,its,n,rr,hl,e⟩:=I.lstM hH;have hi:=rD rr;have hL:s.heap.IsList p its.toArray:=⟨_,e,rfl,n,rfl⟩
 obtain ⟨ys,e2⟩:=hi.allInts.items;have fN:ns=ys.toList.map (·.1):=by rw [<- hi.numsOf,<- nums_intItems,<- e2]
 have hsz:0<ys.size:=by
  have h3:=List.length_pos_iff.mpr G8;rw [fN,A6,eL] at h3;exact h3
 rw [e2] at hL;refine min_intList (I.ok.hd hc) hL hsz fun v h' tk hv hk=>?_
 obtain ⟨t,rfl⟩:=intItems_at hv;obtain ⟨h1,h2⟩:=argBest_lt (numAt ys) (ys.size-1);refine ⟨.int _,H,I.kept hk,⟨t,rfl⟩,q _ ?_ fun a ha=>?_⟩
 .rw [fN,numAt_eq];exact getD_mem (by rw [A6,eL];lia)
 .rw [fN] at ha;obtain ⟨j,hj,rfl⟩:=mem_getD ha;rw [A6,eL] at hj;rw [<- numAt_eq];exact h2 j 'a'
theorem arr(hc:X.calm=calm:=by rfl):QCall X (.builtin "min") (rCalm calm rMinL):=⟨fun pins s Y H xs us Q I r h=>aks (hc.trans h.1) pins s Y H xs us Q I r h.2⟩
theorem ars : rMinL [.ref p] H Q=∃ ns:List Int,H p=some (.lst (ns.map V.int))/\ns≠[]/\∀ M:Int,M∈ns->(∀ a∈ns,M<=a)->Q (.int M) H:=
 propext ⟨fun ⟨_,ns,e,h⟩=>(by cases e;exact ⟨ns,h⟩),fun ⟨ns,h⟩=>⟨p,ns,rfl,h⟩⟩
noncomputable def kW (n:Nat) (fr:St) (Pv:Nat->List V->Hp->Prop) (i:Nat) (ys:List V) (σ2:St) (H2:Hp):Prop:=i<=n/\ys.length<=i/\(∃ v w,σ2=v::w::fr)/\Pv i ys H2
theorem kW.put{fr:St}{Pv:Nat->List V->Hp->Prop}{o o2:Option V}(hi:i<n)(hy:ys.length<=i)(p:Pv (i+1) (ys++[y]) H):kW n fr Pv (i+1) (ys++[y]) (o::o2::fr) H:=
 ⟨hi,by rw [D6,X2];lia,⟨_,_,rfl⟩,p⟩
theorem compE{l:Addr}{c:TT}(fr:St)(o3:compStart 2 ixs Y=none::none::fr)(Pv:Addr->Nat->List V->Hp->Prop)(h0:∀ D,H1 D=none->Pv D 0 [] (A0 H1 D (.lst [])))(hl:∀ D i ys H,H1 D=none->i<=xs.length->Pv D i ys H->H l=some (.lst xs))(hs:∀ D i x t ys H,H1 D=none->i<xs.length->xs[i]?=some x->Pv D i ys H->H D=some (.lst ys)->ys.length<=i->H t=none->c (some (.int i)::some x::fr) (A0 H t (.tup [.int i,x])) fun b H4=>
   if b=true then te (some (.int i)::some x::fr) H4 fun y H5=>H5 D=some (.lst ys)/\ys.length<sizeLine/\kW xs.length fr (Pv D) (i+1) (ys++[y]) (some (.int i)::some x::fr) (A0 H5 D (.lst (ys++[y])))
   else H4 D=some (.lst ys)/\kW xs.length fr (Pv D) (i+1) ys (some (.int i)::some x::fr) H4)(hd:∀ D ys H,H1 D=none->Pv D xs.length ys H->H D=some (.lst ys)->ys.length<=xs.length->Q (.ref D) H):eR (oC l) 2 ixs (gTup K 2 (gCons (gName 0) (gCons (gName 1) gNil))) c te Y Q H1:=by
 intro D hD;refine ⟨xs.length,kW xs.length fr (Pv D),⟨G4 _,G4 _,⟨none,none,o3⟩,h0 D hD⟩,?_⟩;rintro i ys σ2 H2 ⟨hi,hy,⟨v,w,rfl⟩,p⟩ hDy;have q:=hl D i ys H2 hD hi p
 by_cases C5:i<xs.length
 .refine .inr ⟨C5,⟨xs,xs[i],q,by simp [C5]⟩,fun x H' y=>?_⟩;obtain ⟨t,xs',x',f1,hx,ht,rfl,rfl⟩:=y;rw [q] at f1;cases f1;exact ⟨t,_,rfl,B1.of A3,rfl,_,_,rfl,_,_,rfl,rfl,hs D i x' t ys H2 hD C5 hx p hDy hy ht⟩
 .have e:i=xs.length:=by lia
  subst e;exact .inl ⟨⟨xs,q,C3 _⟩,hd D ys H2 hD p hDy hy⟩
theorem sB{o i:Expr}{pos:Pos}(ho:QE X o to)(hi:QE X i ti)(ha:∀ v,assign (.Subscript o i pos) X.env v=(do
   let ov <- holding [v] (eval o X.env)
   let iv <- holding [v,ov] (eval i X.env)
   standAt pos
   holding [v,ov,iv] (setItem ov iv v)
   release [v,ov,iv] []):=by intro _;rfl):QG X (.Subscript o i pos) (gSub to ti rSetL):=⟨aqf ho.out hi.out aly ha⟩
theorem art{k:Int}{Q:Hp->Prop} : rSetL (.ref p) (.int k) v H Q=∃ xs j,H p=some (.lst xs)/\X4 xs.length k=some j/\Q (A0 H p (.lst (xs.set j v))):=
 propext ⟨fun ⟨_,xs,_,j,e1,e2,h⟩=>(by cases e1;cases e2;exact ⟨xs,j,h⟩),fun ⟨xs,j,h⟩=>⟨p,xs,k,j,rfl,rfl,h⟩⟩
noncomputable def FS (ts bad:List Str) (z:Str->Prop) (fr:List Int):Prop:=fr.Nodup/\∀ n:Int,n∈fr↔∃ (m:Nat) (q:Str),n=(m:Int)/\ts[m]?=some q/\q∉bad/\z q
theorem FS.nil(z:Str->Prop):FS [] [] z []:=⟨by simp,fun n=>by simp⟩
theorem FS.snoc{z:Str->Prop}(h:FS ts bad z fr)(hi:i=ts.length)(hb:q∉bad):(z q->FS (ts++[q]) bad z (fr++[(i:Int)]))/\(¬ z q->FS (ts++[q]) bad z fr):=by
 have F6:∀ (m:Nat) (x:Str),(ts++[q])[m]?=some x↔(ts[m]?=some x\/(m=i/\x=q)):=fun m x=>by
  rcases mZ m ts.length with hm | hm | hm
  .rw [eB hm]
   constructor
   .exact .inl
   .rintro (h | ⟨h,_⟩)
    .exact h
    .lia
  .subst hm;rw [gF (C3 _),Nat.sub_self]
   have:ts[ts.length]?=none:=by simp
   rw [this];simp [hi,eq_comm]
  .have h1:ts[m]?=none:=by simp;lia
   have h2:(ts++[q])[m]?=none:=by simp;lia
   rw [h1,h2]
   simp
   lia
 have iT:(i:Int)∉fr:=fun hm=>by
  obtain ⟨m,x,e,h1,_⟩:=(h.2 _).mp hm
  have:=(E6.mp h1).1
  lia
 refine ⟨fun hz=>⟨?_,fun n=>?_⟩,fun hz=>⟨h.1,fun n=>?_⟩⟩
 .rw [Z5];refine ⟨h.1,by simp,fun x hx y hy e=>iT ?_⟩;rw [<- E5.mp hy,<- e];exact hx
 .rw [E8,h.2,E5]
  constructor
  .rintro (⟨m,x,e,h1,h2,h3⟩ | rfl)
   .exact ⟨m,x,e,(F6 m x).mpr (.inl h1),h2,h3⟩
   .exact ⟨i,q,rfl,(F6 i q).mpr (.inr ⟨rfl,rfl⟩),hb,hz⟩
  .rintro ⟨m,x,e,h1,h2,h3⟩
   rcases (F6 m x).mp h1 with h1 | ⟨rfl,rfl⟩
   .exact .inl ⟨m,x,e,h1,h2,h3⟩
   .exact .inr e
 .rw [h.2]
  constructor
  .rintro ⟨m,x,e,h1,h2,h3⟩;exact ⟨m,x,e,(F6 m x).mpr (.inl h1),h2,h3⟩
  .rintro ⟨m,x,e,h1,h2,h3⟩
   rcases (F6 m x).mp h1 with h1 | ⟨rfl,rfl⟩
   .exact ⟨m,x,e,h1,h2,h3⟩
   .exact absurd h3 hz
theorem ah1(nd:ts.Nodup)(h1:ts[i]?=some q)(h2:ts[j]?=some q):i=j:=by
 obtain ⟨a1,b1⟩:=E6.mp h1;obtain ⟨a2,b2⟩:=E6.mp h2
 have:=eA.mp nd
 rw [gG] at this
 rcases mZ i j with hl | hl | hl
 .exact absurd (b1.trans b2.symm) (this i j a1 a2 hl)
 .exact hl
 .exact absurd (b2.trans b1.symm) (this j i a2 a1 hl)
theorem FS.take{z:Str->Prop}(nd:ts.Nodup)(h:FS ts bad z fr){M:Nat}{p:Str}(hp:ts[M]?=some p):FS ts (bad++[p]) z (fr.erase (M:Int)):=by
 refine ⟨h.1.erase _,fun n=>?_⟩;rw [h.1.mem_erase_iff,h.2]
 constructor
 .rintro ⟨G8,m,x,e,h1,h2,h3⟩;refine ⟨m,x,e,h1,fun hm=>?_,h3⟩
  rcases E8.mp hm with hm | hm
  .exact h2 hm
  .rw [E5.mp hm] at h1;exact G8 (by rw [e,ah1 nd h1 hp])
 .rintro ⟨m,x,e,h1,h2,h3⟩;refine ⟨fun e2=>h2 ?_,m,x,e,h1,fun hm=>h2 (Q2 _ hm),h3⟩
  have:m=M:=by lia
  subst this;rw [hp] at h1;cases h1
  simp
theorem FS.turn{z z':Str->Prop}(nd:ts.Nodup)(h:FS ts bad z fr){y:Str}(G8:∀ q,q≠y->(z' q↔z q))(hy:¬ z y)(hm:ts[m]?=some y)(hb:y∉bad):(z' y->FS ts bad z' (fr++[(m:Int)]))/\(¬ z' y->FS ts bad z' fr):=by
 have iT:(m:Int)∉fr:=fun h1=>by
  obtain ⟨k,x,e,h2,_,h3⟩:=(h.2 _).mp h1
  have:k=m:=by lia
  subst this;rw [hm] at h2;cases h2;exact hy h3
 have j7:∀ (k:Nat) (x:Str),ts[k]?=some x->x≠y\/(k=m/\x=y):=fun k x hk=>by
  by_cases e:x=y
  .subst e;exact .inr ⟨ah1 nd hk hm,rfl⟩
  .exact .inl e
 refine ⟨fun hz=>⟨?_,fun n=>?_⟩,fun hz=>⟨h.1,fun n=>?_⟩⟩
 .rw [Z5];refine ⟨h.1,by simp,fun x hx w hw e=>iT ?_⟩;rw [<- E5.mp hw,<- e];exact hx
 .rw [E8,h.2,E5]
  constructor
  .rintro (⟨k,x,e,h1,h2,h3⟩ | rfl)
   .rcases j7 k x h1 with c | ⟨_,rfl⟩
    .exact ⟨k,x,e,h1,h2,(G8 x c).mpr h3⟩
    .exact absurd h3 hy
   .exact ⟨m,y,rfl,hm,hb,hz⟩
  .rintro ⟨k,x,e,h1,h2,h3⟩
   rcases j7 k x h1 with c | ⟨rfl,rfl⟩
   .exact .inl ⟨k,x,e,h1,h2,(G8 x c).mp h3⟩
   .exact .inr e
 .rw [h.2]
  constructor
  .rintro ⟨k,x,e,h1,h2,h3⟩
   rcases j7 k x h1 with c | ⟨_,rfl⟩
   .exact ⟨k,x,e,h1,h2,(G8 x c).mpr h3⟩
   .exact absurd h3 hy
  .rintro ⟨k,x,e,h1,h2,h3⟩
   rcases j7 k x h1 with c | ⟨_,rfl⟩
   .exact ⟨k,x,e,h1,h2,(G8 x c).mp h3⟩
   .exact absurd h3 hz
theorem FS.congr{z z':Str->Prop}(h:FS ts bad z fr)(e:∀ q,z' q↔z q):FS ts bad z' fr:=⟨h.1,fun n=>by rw [h.2];exact ⟨fun ⟨m,x,a,b,c,d⟩=>⟨m,x,a,b,c,(e x).mpr d⟩,fun ⟨m,x,a,b,c,d⟩=>⟨m,x,a,b,c,(e x).mp d⟩⟩⟩
theorem ag8{E:List (Str×Str)}(h:FS ts line (fun q=>cnt E line q=0) fr){M:Int}(hM:M∈fr)(jB:∀ a∈fr,M<=a):∃ (m:Nat) (p:Str),M=(m:Int)/\ts[m]?=some p/\nextP E ts line=some p:=by
 obtain ⟨m,p,e,h1,h2,h3⟩:=(h.2 M).mp hM;refine ⟨m,p,e,h1,?_⟩;rw [afb];obtain ⟨hm,rfl⟩:=E6.mp h1;have e1:ts=ts.take m++ts[m]::ts.drop (m+1):=by rw [<- bX hm,e8]
 generalize hP:(fun p=>!decide (p∈line)&&decide (∀ e∈E,e.2=p->e.1∈line))=P;have hp:P ts[m]=true:=by
  rw [<- hP];simp only [f8,nC,decide_eq_false_iff_not,decide_eq_true_eq];exact ⟨h2,cnt_zero.mp h3⟩
 have qD:(ts.take m).find? P=none:=by
  rw [aM];intro x hx hxP;obtain ⟨k,hk,rfl⟩:=k0.mp hx;rw [F7] at hk;rw [List.getElem_take,<- hP] at hxP;simp only [f8,nC,decide_eq_false_iff_not,decide_eq_true_eq] at hxP
  have:=jB (k:Int) ((h.2 _).mpr ⟨k,ts[k],rfl,by simp,hxP.1,cnt_zero.mpr hxP.2⟩)
  lia
 conv=>lhs;rw [e1]
 rw [List.find?_append,qD,Y7,hp];rfl
theorem aml{E:List (Str×Str)}(r:V3 E ts line)(h:q∈line):cnt E line q=0:=by
 obtain ⟨pre,post,rfl⟩:=List.append_of_mem h
 have:=(kR (r pre q post rfl)).2.2
 rw [cnt_zero] at this ⊢
 intro e he h2;exact Q2 _ (this e he h2)
theorem agt{f:Str->V} : ∀ {ts pre:List Str},(pre++ts).Nodup->Z0 (C2 pre f) (C2 ts f)=C2 (pre++ts) f
 | [],pre,_=>by rw [M8];rfl
 | t::ts,pre,h=>by
  have ht:t∉pre:=fun hm=>(Z5.mp h).2.2 t hm t M7 rfl
  show Z0 (putK (C2 pre f) (Sum.inr t) (f t)) (C2 ts f)=_;rw [eU _ ht,show C2 (pre++[t]) (fun x=>if x=t then f t else f x)=C2 (pre++[t]) f from V4 fun x _=>by
   by_cases e:x=t
   .rw [if_pos e,e]
   .rw [if_neg e]]
  rw [agt (pre:=pre++[t]) (by simpa using h)]
  simp
theorem afe:∀ {l m:List Int},l.Nodup->(∀ x∈l,x∈m)->l.length<=m.length
 | [],_,_,_=>G4 _
 | x::l,m,nd,h=>by
  obtain ⟨n1,n2⟩:=W1.mp nd;have hx:=h x M7
  have:=afe (l:=l) (m:=m.erase x) n2 fun y hy=>(List.mem_erase_of_ne (fun e=>n1 (by rw [<- e];exact hy))).mpr (h y (O5 _ hy))
  rw [qW hx] at this;have dJ:=qX hx;rw [L0];lia
theorem ah2{f:Str->V} : ∀ {qs:List Addr} {ts:List Str},Paired (fun q t=>H q=some (.tup [.str t,f t])) qs ts->Paired (fun q (kx:B3×V)=>B1 K H q [kV kx.1,kx.2]) qs (C2 ts f)
 | _,_,.nil=>.nil
 | _,_,.cons h t=>.cons (.of h) (ah2 t)
theorem forRs(Pv:Nat->St->Hp->Prop)(h0:Pv 0 Y H)(hs:∀ (P':Nat->St->Hp->Prop) (B':St->Hp->Prop),(∀ i Y H,Pv i Y H->P' i Y H)->∀ i Y H,i<n->Pv i Y H->g (.int (lo+i)) Y H fun σ2 H2=>tb { D with nx:=P' (i+1),ct:=P' (i+1),bk:=B' } σ2 H2)(hd:∀ Y H,Pv n Y H->D.nx Y H):ForIt (q9 lo n) g tb D Y H:=forR Pv h0 (hs Pv _ fun _ _ _ h=>h) hd
theorem forLs(Pv:Nat->St->Hp->Prop)(h0:Pv 0 Y H)(hl:∀ i Y H,i<=xs.length->Pv i Y H->D8 K H a xs)(hs:∀ (P':Nat->St->Hp->Prop) (B':St->Hp->Prop),(∀ i Y H,Pv i Y H->P' i Y H)->∀ i x Y H,xs[i]?=some x->Pv i Y H->g x Y H fun σ2 H2=>tb { D with nx:=P' (i+1),ct:=P' (i+1),bk:=B' } σ2 H2)(hd:∀ Y H,Pv xs.length Y H->D.nx Y H):ForIt (aU K a) g tb D Y H:=forL Pv h0 hl (hs Pv _ fun _ _ _ h=>h) hd
theorem midS{t u:TS}(M:St->Hp->Prop)(h:∀ M':St->Hp->Prop,(∀ Y H,M Y H->M' Y H)->t { D with nx:=M' } Y H)(h2:∀ σ' H',M σ' H'->u D σ' H'):tSeqM t u D Y H:=⟨M,h M fun _ _ h=>h,h2⟩
noncomputable def am1:Sp:=fun vs H Q _=>∃ (a:Addr) (rs:List Addr) (zss:List (List Str)),vs=[.ref a]/\IsRows H a rs zss/\zss.flatten.length<=100000/\
 ∀ l H',H l=none->Same H H'->H' l=some (.lst ((toldL zss).map V.str))->Q (.ref l) H'
noncomputable def kX:Sp:=fun vs H Q _=>∃ c,vs=[.str ⟨#[c]⟩]/\Q (.bl (figO c)) H
noncomputable def K8 (R:List Rl):List (Str×List Str):=R.filterMap fun z=>if z.1=("great" : Str) then z.2.head?.map fun y=>(y,z.2.drop 1) else none
noncomputable def E4 (R:List Rl):List Str:=J7 [] ((K8 R).map (·.1))
noncomputable def D9 (R:List Rl) (y:Str):List Str:=((K8 R).filter fun e=>decide (e.1=y)).flatMap (·.2)
theorem cP(A B:List Rl):K8 (A++B)=K8 A++K8 B:=by
 unfold K8;rw [List.filterMap_append]
theorem xA{R:List Rl}{z:Rl}(h:R[i]?=some z):K8 (R.take (i+1))=K8 (R.take i)++K8 [z]:=by
 rw [M6 h,cP]
theorem eW{z:Rl}(h:z.1≠("great" : Str)):K8 [z]=[]:=by
 unfold K8;rw [bZ,if_neg h];rfl
theorem xB{y:Str}{fs:List Str} : K8 [(("great" : Str),y::fs)]=[(y,fs)]:=by
 unfold K8;rw [bZ,if_pos rfl];rfl
theorem xC{A:List Rl}{y:Str}{fs:List Str}(x:Str):D9 (A++[(("great" : Str),y::fs)]) x=if x=y then D9 A x++fs else D9 A x:=by
 unfold D9;rw [cP,xB,cA,e9]
 by_cases h:x=y
 .subst h;simp
 .have:¬ (y=x):=fun e=>h e.symm
  simp [this,h]
theorem sC{A:List Rl}{y:Str}{fs:List Str} : E4 (A++[(("great" : Str),y::fs)])=dd (E4 A) y:=by
 unfold E4 J7;rw [cP,xB,D0,aN];rfl
noncomputable def ah3 (K:PySem.W.Frag):Sp:=fun vs H Q _=>∃ (a:Addr) (ts:List Addr) (R:List Rl),vs=[.ref a]/\IsRules H a ts R/\(∀ z∈R,z.1=("great" : Str)->z.2≠[])/\R.length<=1000/\(∀ i y,(D9 (R.take i) y).length<=10000)/\
 ∀ d ad H',H d=none->Same H H'->H' d=some (.dK (C2 (E4 R) fun y=>.ref (ad y)))->DL H H' (E4 R) ad (D9 R)->Q (.ref d) H'
theorem sD(xs:List V)(h:i<=j):cutV xs (some (i:Int)) (some (j:Int))=(xs.drop i).take (j-i):=by
 unfold cutV;rw [HT.sIx_nat,HT.sIx_nat]
 by_cases hi:i<=xs.length
 .rw [cE hi]
  by_cases hj:j<=xs.length
  .rw [cE hj]
  .rw [Nat.min_eq_right 'a',v4 (by rw [k5];exact C3 _),v4 (by rw [k5];lia)]
 .rw [Nat.min_eq_right (by lia:xs.length<=i),mW (C3 _),mW 'a',List.take_nil,List.take_nil]
structure Used(ks:List Str)(g:Str->V)(z:Rl):Prop where
 gr:z.1=("great" : Str)->∀ p∈z.2.take 1,p∈ks/\g p=.str "letter"
 a1:z.1=("as" : Str)->∀ p∈(z.2.drop 1).take 1,p∈ks/\g p=.str "letter"
 a2:z.1=("as" : Str)->∀ p∈z.2.drop 2,p∈ks/\(g p=.str "letter"\/g p=.str "mark")
noncomputable def am2 (K:PySem.W.Frag):Sp:=fun vs H Q _=>∃ (t d:Addr) (z:Rl) (ks:List Str) (g:Str->V),vs=[.ref t,.ref d]/\H t=some (tupR z)/\H d=some (.dK (C2 ks g))/\Used ks g z/\z.2.length<=1000/\∀ p H',H p=none->Same H H'->H' p=some (.lst [])->Q (.ref p) H'
noncomputable def ah4 (K:PySem.W.Frag):Sp:=fun vs H Q _=>∃ (a d:Addr) (ts:List Addr) (R:List Rl) (ks:List Str) (g:Str->V),vs=[.ref a,.ref d]/\IsRules H a ts R/\H d=some (.dK (C2 ks g))/\(∀ z∈R,Used ks g z/\z.2.length<=1000)/\∀ H',Same H H'->Q .non H'
noncomputable abbrev Tr:=Int×Int×Int
noncomputable def tupT (s:Tr):HO:=.tup [.int s.1,.int s.2.1,.int s.2.2]
structure StepAt(H:Hp)(r:Addr)(ss:List Tr):Prop where
 ex:∃ ts:List Addr,H r=some (.tup (ts.map V.ref))/\Paired (fun t s=>H t=some (tupT s)) ts ss
theorem StepAt.same{ss:List Tr}(h:StepAt H r ss)(S:Same H H'):StepAt H' r ss:=
 let ⟨ts,h1,h2⟩:=h.ex
 ⟨ts,S _ _ h1,O6 h2 fun _ _ e=>S _ _ e⟩
theorem StepAt.put{d:Addr}{ss:List Tr}{o o':HO}(h:StepAt H r ss)(hd:H d=some o')(hn:∀ xs,o'≠.tup xs):StepAt (A0 H d o) r ss:=by
 obtain ⟨ts,h1,h2⟩:=h.ex;refine ⟨ts,?_,O6 h2 fun t s e=>?_⟩
 .rw [A7 (fun e=>by rw [e,hd] at h1;exact hn _ (Option.some.inj h1))];exact h1
 .rw [A7 (fun q=>by rw [q,hd] at e;exact hn _ (Option.some.inj e))];exact e
theorem StepAt.one{t:Addr}{s:Tr}(h1:H r=some (.tup [.ref t]))(h2:H t=some (tupT s)):StepAt H r [s]:=⟨[t],h1,.cons h2 .nil⟩
noncomputable def IsMade (H:Hp) (d:Addr) (ks:List Str) (F:Str->List Tr):Prop:=∃ ad:Str->Addr,H d=some (.dK (C2 ks fun y=>.ref (ad y)))/\∀ y∈ks,StepAt H (ad y) (F y)
theorem IsMade.same{d:Addr}{F:Str->List Tr}(h:IsMade H d ks F)(S:Same H H'):IsMade H' d ks F:=
 let ⟨ad,h1,h2⟩:=h
 ⟨ad,S _ _ h1,fun y hy=>(h2 y hy).same S⟩
theorem IsMade.put{d:Addr}{F:Str->List Tr}{ad:Str->Addr}(h1:H d=some (.dK (C2 ks fun y=>.ref (ad y))))(h2:∀ y∈ks,StepAt H (ad y) (F y)){l:Str}(hp:StepAt H p (F l)) :
  IsMade (A0 H d (.dK (putK (C2 ks fun y=>.ref (ad y)) (Sum.inr l) (.ref p)))) d (dd ks l) F:=by
 refine ⟨fun y=>if y=l then p else ad y,?_,fun y hy=>?_⟩
 .rw [A3];have e:∀ t,(if t=l then V.ref p else V.ref (ad t))=V.ref (if t=l then p else ad t):=fun t=>by
   by_cases h:t=l
   .rw [if_pos h,if_pos h]
   .rw [if_neg h,if_neg h]
  unfold dd
  by_cases hl:l∈ks
  .rw [if_pos hl,oB _ hl];exact congrArg (fun x=>some (HO.dK x)) (V4 fun t _=>e t)
  .rw [if_neg hl,eU _ hl];exact congrArg (fun x=>some (HO.dK x)) (V4 fun t _=>e t)
 .by_cases h:y=l
  .subst h;show StepAt _ (if y=y then p else ad y) _;rw [if_pos rfl];exact hp.put h1 (by intro xs e;cases e)
  .show StepAt _ (if y=l then p else ad y) _;rw [if_neg h];refine (h2 y ?_).put h1 (by intro xs e;cases e);unfold dd at hy
   by_cases hl:l∈ks
   .rw [if_pos hl] at hy;exact hy
   .rw [if_neg hl] at hy
    rcases E8.mp hy with q | q
    .exact q
    .exact absurd (E5.mp q) h
structure StI(H H2:Hp)(d:Addr)(P:List Str)(F:Str->List Tr):Prop where
 same:Same H H2
 made:IsMade H2 d (J7 [] P) F
theorem amm(P:List Str)(x:Str):J7 [] (P++[x])=dd (J7 [] P) x:=by
 unfold J7;rw [aN];rfl
theorem StI.putX{d:Addr}{P:List Str}{F:Str->List Tr}(nd:H d=none)(h:StI H H2 d P F)(hP:P.length<100000){l:Str}(hp:StepAt H2 p (F l)) :
  ∃ kvs o,H2 d=some (.dK kvs)/\DPut H2 d (V.str l) (V.ref p) (A0 H2 d o)/\StI H (A0 H2 d o) d (P++[l]) F:=by
 obtain ⟨ad,h1,h2⟩:=h.made;have hl:=nU P [];rw [Z6,Nat.zero_add] at hl;refine ⟨_,_,h1,cM (k:=Sum.inr l) h1 (by rw [l6];exact L6 'a'),h.same.put nd,?_⟩;rw [amm];exact IsMade.put h1 h2 hp
theorem StI.put{d:Addr}{P:List Str}{F:Str->List Tr}(nd:H d=none)(h:StI H H2 d P F)(hP:P.length<100000){l:Str}(hp:StepAt H2 p (F l)) :
  ∃ x,DPut H2 d (V.str l) (V.ref p) x/\StI H x d (P++[l]) F:=
 let ⟨_,_,_,h1,h2⟩:=h.putX nd hP hp
 ⟨_,h1,h2⟩
theorem StI.more{d:Addr}{P:List Str}{F:Str->List Tr}(h:StI H H2 d P F)(S:Same H2 H3):StI H H3 d P F:=⟨h.same.trans S,h.made.same S⟩
theorem StI.frz{d:Addr}{P:List Str}{F:Str->List Tr}{o:HO}(h:StI H H2 d P F)(hf:H2 f=some (.dK kvs))(n:H f=none)(nf:f≠d):StI H (A0 H2 f o) d P F:=
 let ⟨ad,h1,h2⟩:=h.made
 ⟨h.same.put n,ad,by rw [A7 nf.symm];exact h1,fun y hy=>(h2 y hy).put hf (by intro xs e;cases e)⟩
theorem StI.thaw{d:Addr}{P:List Str}{F:Str->List Tr}{q:Obj}{o o':HO}(h:StI H H2 d P F)(hf:H2 f=some (.frz q o'))(n:H f=none)(nf:f≠d):StI H (A0 H2 f o) d P F:=
 let ⟨ad,h1,h2⟩:=h.made
 ⟨h.same.put n,ad,by rw [A7 nf.symm];exact h1,fun y hy=>(h2 y hy).put hf (by intro xs e;cases e)⟩
structure FoI(H H2:Hp)(d f:Addr)(o:Obj)(ts:List Str)(af:Str->Addr)(G:Str->List Str)(P:List Str)(F:Str->List Tr):Prop where
 frz:H2 f=some (.frz o (.dK (C2 ts fun y=>.ref (af y))))
 rows:∀ y∈ts,H2 (af y)=some (.lst ((G y).map V.str))
 st:StI H H2 d P F
theorem FoI.more{d:Addr}{af:Str->Addr}{G:Str->List Str}{P:List Str}{F:Str->List Tr}(h:FoI H H2 d f o ts af G P F)(S:Same H2 H3):FoI H H3 d f o ts af G P F:=⟨S _ _ h.frz,fun y hy=>S _ _ (h.rows y hy),h.st.more S⟩
theorem FoI.put{d:Addr}{af:Str->Addr}{G:Str->List Str}{P:List Str}{F:Str->List Tr}(nd:H d=none)(h:FoI H H2 d f o ts af G P F)(hP:P.length<100000){l:Str}(hp:StepAt H2 p (F l)) :
  ∃ x,DPut H2 d (V.str l) (V.ref p) x/\FoI H x d f o ts af G (P++[l]) F:=by
 obtain ⟨kvs,o',h0,h1,h2⟩:=h.st.putX nd hP hp;refine ⟨_,h1,?_,fun y hy=>?_,h2⟩
 .rw [A7 (fun e=>by have:=h.frz;rw [e,h0] at this;cases this)];exact h.frz
 .rw [A7 (fun e=>by have:=h.rows y hy;rw [e,h0] at this;cases this)];exact h.rows y hy
theorem StI.putL{d:Addr}{P:List Str}{F:Str->List Tr}{o:HO}(h:StI H H2 d P F)(hf:H2 f=some (.lst xs))(n:H f=none):StI H (A0 H2 f o) d P F:=
 let ⟨ad,h1,h2⟩:=h.made
 ⟨h.same.put n,ad,by rw [A7 (fun e=>by rw [e,hf] at h1;cases h1)];exact h1,fun y hy=>(h2 y hy).put hf (by intro xs e;cases e)⟩
structure AsI(H H7 H2:Hp)(d:Addr)(P:List Str)(F:Str->List Tr)(ts:List Addr)(ss:List Tr):Prop where
 st:StI H H2 d P F
 pr:Paired (fun t s=>H2 t=some (tupT s)) ts ss
 sm:Same H7 H2
theorem AsI.putL{H7:Hp}{d:Addr}{P:List Str}{F:Str->List Tr}{ts:List Addr}{ss:List Tr}{o:HO}(h:AsI H H7 H2 d P F ts ss)(hf:H2 f=some (.lst xs))(n:H f=none)(n7:H7 f=none):AsI H H7 (A0 H2 f o) d P F ts ss:=
 ⟨h.st.putL hf n,O6 h.pr fun t s e=>by rw [A7 (fun q=>by rw [q,hf] at e;cases e)];exact e,h.sm.put n7⟩
noncomputable def asKs (R:List Rl):List Str:=R.filterMap fun z=>if z.1=("as" : Str) then z.2.head? else none
theorem agu{R:List Rl}{z:Rl}(h:R[i]?=some z):asKs (R.take (i+1))=asKs (R.take i)++asKs [z]:=by
 rw [M6 h];unfold asKs;rw [List.filterMap_append]
theorem akt{z:Rl}(h:z.1≠("as" : Str)):asKs [z]=[]:=by
 unfold asKs;rw [bZ,if_neg h];rfl
theorem ah5{y:Str}{fs:List Str} : asKs [(("as" : Str),y::fs)]=[y]:=by
 unfold asKs;rw [bZ,if_pos rfl];rfl
theorem amn(R:List Rl):(asKs R).length<=R.length:=List.length_filterMap_le _ _
structure Made(R:List Rl)(L M:List Str)(F:Str->List Tr):Prop where
 lt:∀ (i:Nat) y,L[i]?=some y->F y=[(2,(i:Int),0)]
 mr:∀ (i:Nat) y,M[i]?=some y->F y=[(0,(i:Int),0)]
 gl:∀ y∈E4 R,y∈L
 gr:∀ y∈E4 R,∀ (c:Nat) f,(D9 R y)[c]?=some f->F f=[(2,(L.idxOf y:Int),((c+1:Nat):Int))]
 ne:∀ z∈R,z.1=("as" : Str)\/z.1=("great" : Str)->z.2≠[]
 pt:∀ z∈R,z.1=("as" : Str)->∀ q∈z.2.drop 1,q∈L\/q∈M
 as:∀ z∈R,z.1=("as" : Str)->∀ p qs,z.2=p::qs->F p=qs.map fun q=>(F q).headD (0,0,0)
noncomputable def allKs (R:List Rl) (L M:List Str):List Str:=L++M++(E4 R).flatMap (D9 R)++asKs R
theorem Made.base{R:List Rl}{F:Str->List Tr}(m:Made R L M F)(h:q∈L\/q∈M):∃ s,F q=[s]:=by
 rcases h with h | h
 .obtain ⟨i,hi,e⟩:=k0.mp h;exact ⟨_,m.lt i q (by rw [J5 hi,e])⟩
 .obtain ⟨i,hi,e⟩:=k0.mp h;exact ⟨_,m.mr i q (by rw [J5 hi,e])⟩
theorem Made.letter{R:List Rl}{F:Str->List Tr}(m:Made R L M F)(h:q∈L):F q=[(2,(L.idxOf q:Int),0)]:=by
 have hi:=eC.mpr h;exact m.lt (L.idxOf q) q (by rw [J5 hi,gI])
noncomputable def ah6 (K:PySem.W.Frag):Sp:=fun vs H Q _=>∃ (a b c:Addr) (ts:List Addr) (R:List Rl) (L M:List Str) (F:Str->List Tr),vs=[.ref a,.ref b,.ref c]/\IsRules H a ts R/\Made R L M F/\H b=some (.lst (L.map V.str))/\H c=some (.lst (M.map V.str))/\(∀ z∈R,z.2.length<=1000)/\R.length<=1000/\(∀ i y,(D9 (R.take i) y).length<=10000)/\(allKs R L M).length<=50000/\
 ∀ d H',H d=none->Same H H'->IsMade H' d (J7 [] (allKs R L M)) F->Q (.ref d) H'
noncomputable def baseT (L M:List Str) (q:Str):Tr:=if q∈L then (2,(L.idxOf q:Int),0) else (0,(M.idxOf q:Int),0)
noncomputable def sE (L M:List Str) (R:List Rl):List (Str×List Tr):=R.filterMap fun z=>if z.1=("as" : Str) then z.2.head?.map fun p=>(p,(z.2.drop 1).map (baseT L M)) else none
noncomputable def putsL (R:List Rl) (L M:List Str):List (Str×List Tr):=
 (L.zipIdx.map fun e=>(e.1,[((2:Int),(e.2:Int),(0:Int))]))++(M.zipIdx.map fun e=>(e.1,[((0:Int),(e.2:Int),(0:Int))]))++((E4 R).flatMap fun y=>(D9 R y).zipIdx.map fun e=>(e.1,[((2:Int),(L.idxOf y:Int),((e.2+1:Nat):Int))]))++sE L M R
noncomputable def stepF (R:List Rl) (L M:List Str) (p:Str):List Tr:=((putsL R L M).lookup p).getD []
theorem aku{p:Str}{s:List Tr} : ∀ {l:List (Str×List Tr)},(l.map (·.1)).Nodup->(p,s)∈l->l.lookup p=some s
 | [],_,h=>by cases h
 | (y,t)::l,nd,h=>by
  rw [G0,W1] at nd;rw [List.lookup_cons]
  rcases L4.mp h with h | h
  .obtain ⟨rfl,rfl⟩:=Prod.mk.inj h
   simp
  .have:p≠y:=fun e=>nd.1 (D7.mpr ⟨_,h,e⟩)
   have e:(p==y)=false:=by simpa using this
   rw [e];exact aku nd.2 h
theorem agv(R:List Rl)(L M:List Str):(putsL R L M).map (·.1)=allKs R L M:=by
 have z:∀ (l:List Str) (f:Nat->List Tr),(l.zipIdx.map fun e=>(e.1,f e.2)).map (·.1)=l:=fun l f=>by
  rw [R3];exact List.zipIdx_map_fst 0 l
 have a:(sE L M R).map (·.1)=asKs R:=by
  unfold sE asKs;rw [List.map_filterMap]
  congr 1
  funext z
  by_cases h:z.1=("as" : Str)
  .rw [if_pos h,if_pos h]
   cases z.2 <;> rfl
  .rw [if_neg h,if_neg h];rfl
 unfold putsL allKs;rw [D0,D0,D0,z L fun i=>[(2,(i:Int),0)],z M fun i=>[(0,(i:Int),0)],a,List.map_flatMap]
 congr 2
 congr 1
 funext y
 exact z (D9 R y) fun i=>[(2,(L.idxOf y:Int),((i+1:Nat):Int))]
theorem kY{R:List Rl}(nd:(allKs R L M).Nodup){p:Str}{s:List Tr}(h:(p,s)∈putsL R L M):stepF R L M p=s:=by
 unfold stepF;rw [aku (by rw [agv];exact nd) h];rfl
theorem aoD{R:List Rl}(nd:(allKs R L M).Nodup)(gl:∀ y∈E4 R,y∈L)(ne:∀ z∈R,z.1=("as" : Str)\/z.1=("great" : Str)->z.2≠[])(pt:∀ z∈R,z.1=("as" : Str)->∀ q∈z.2.drop 1,q∈L\/q∈M):Made R L M (stepF R L M):=by
 have m1:∀ (i:Nat) y,L[i]?=some y->(y,[((2:Int),(i:Int),(0:Int))])∈putsL R L M:=fun i y h=>by
  refine Q2 _ (Q2 _ (Q2 _ (D7.mpr ⟨(y,i),?_,rfl⟩)));rw [List.mem_zipIdx_iff_getElem?];exact h
 have m2:∀ (i:Nat) y,M[i]?=some y->(y,[((0:Int),(i:Int),(0:Int))])∈putsL R L M:=fun i y h=>by
  refine Q2 _ (Q2 _ (O4 _ (D7.mpr ⟨(y,i),?_,rfl⟩)));rw [List.mem_zipIdx_iff_getElem?];exact h
 have hb:∀ q,q∈L\/q∈M->stepF R L M q=[baseT L M q]:=fun q hq=>by
  unfold baseT
  by_cases h:q∈L
  .rw [if_pos h];have hi:=eC.mpr h;exact kY nd (m1 (L.idxOf q) q (by rw [J5 hi,gI]))
  .rw [if_neg h];have hm:=hq.resolve_left h;have hi:=eC.mpr hm;exact kY nd (m2 (M.idxOf q) q (by rw [J5 hi,gI]))
 refine ⟨fun i y h=>kY nd (m1 i y h),fun i y h=>kY nd (m2 i y h),gl,fun y hy c f h=>kY nd ?_,ne,pt,fun z hz e p qs ez=>?_⟩
 .refine Q2 _ (O4 _ (W0.mpr ⟨y,hy,D7.mpr ⟨(f,c),?_,rfl⟩⟩));rw [List.mem_zipIdx_iff_getElem?];exact h
 .have:(p,qs.map (baseT L M))∈putsL R L M:=O4 _ (jV.mpr ⟨z,hz,by rw [if_pos e,ez];rfl⟩)
  rw [kY nd this];refine jU fun q hq=>?_
  rw [hb q (pt z hz e q (by rw [ez];exact hq))];rfl
theorem aoE{g:Str->Str}{PL:List (Str×Str)}(nc:NC fg g PL):PL.Pairwise fun a b=>a.1=b.1->b.2∈oE:=by
 rw [gG];intro i j hi hj hij e;refine (nc j PL[j].1 PL[j].2 (by rw [J5 hj])).2.1 ?_;rw [<- e];refine D7.mpr ⟨PL[i],?_,rfl⟩;rw [jQ];exact ⟨i,by lia,rfl⟩
theorem oH{g:Str->Str}{PL:List (Str×Str)}(nc:NC fg g PL){p j:Str}(h:(p,j)∈PL):g p=j:=by
 obtain ⟨i,hi,e⟩:=k0.mp h;exact (nc i p j (by rw [J5 hi,e])).1.symm
theorem akv{g:Str->Str}{PL:List (Str×Str)}(nc:NC fg g PL){j:Str}(hj:j∉oE):((PL.filter fun e=>decide (e.2=j)).map (·.1)).Nodup:=by
 rw [eA,List.pairwise_map];refine List.Pairwise.imp_of_mem ?_ ((aoE nc).filter _);intro a b _ hb h e
 have:=h e
 have hb2:b.2=j:=by simpa using (Y6.mp hb).2
 rw [hb2] at this;exact hj this
theorem sF{w:Str}(h:gZ w):(jobD w=("great" : Str)↔w="great")/\(jobD w=("as" : Str)↔w="as")/\(jobD w=("letter" : Str)↔w="row")/\(jobD w=("mark" : Str)↔w="marks")/\(jobD w=("over" : Str)↔w="over"):=by
 rcases h with rfl | rfl | rfl | rfl | rfl <;> decide +kernel
theorem agx{R:List Rl}{p j:Str} : (p,j)∈C6 R↔∃ z∈R,p∈P3 z/\jobD z.1=j:=by
 unfold C6;rw [W0]
 constructor
 .rintro ⟨z,hz,h⟩;obtain ⟨q,hq,e⟩:=D7.mp h;obtain ⟨rfl,rfl⟩:=Prod.mk.inj e;exact ⟨z,hz,hq,rfl⟩
 .rintro ⟨z,hz,hp,rfl⟩;exact ⟨z,hz,D7.mpr ⟨p,hp,rfl⟩⟩
theorem oI(z:Rl)(R:List Rl):C6 (z::R)=((P3 z).map fun p=>(p,jobD z.1))++C6 R:=by
 unfold C6;rw [o9]
theorem bA{z:Rl} : (z.1=("great" : Str)->P3 z=z.2.drop 1)/\(z.1=("as" : Str)->P3 z=z.2.take 1)/\(z.1=("row" : Str)\/z.1=("marks" : Str)\/z.1=("over" : Str)->P3 z=z.2):=by
 unfold P3;refine ⟨fun h=>by rw [if_pos h],fun h=>?_,fun h=>?_⟩
 .rw [if_neg (by rw [h];decide +kernel),if_pos h]
 .rw [if_neg,if_neg,if_pos h]
  .rcases h with h | h | h <;> rw [h] <;> decide +kernel
  .rcases h with h | h | h <;> rw [h] <;> decide +kernel
theorem oJ:∀ R:List Rl,((C6 R).filter fun e=>decide (e.2=("great" : Str))).map (·.1)=(K8 R).flatMap (·.2)
 | []=>rfl
 | z::R=>by
  rw [oI,cA,D0,oJ R];have e:K8 (z::R)=K8 [z]++K8 R:=cP [z] R;rw [e,e9]
  congr 1
  by_cases h:z.1=("great" : Str)
  .obtain ⟨w,ps⟩:=z;obtain rfl:w=("great" : Str):=h;rw [bA.1 rfl,List.filter_eq_self.mpr,R3]
   .cases ps with
    | nil=>simp [K8]
    | cons y fs=>
     rw [xB];show List.map _ fs=_;simp [Function.comp_def]
   .intro a ha;obtain ⟨q,_,rfl⟩:=D7.mp ha;exact decide_eq_true (show jobD "great"=("great" : Str) by decide +kernel)
  .rw [eW h,mV.mpr]
   .rfl
   .intro a ha;obtain ⟨q,hq,rfl⟩:=D7.mp ha
    have:=(sF (oF hq)).1
    simp only [decide_eq_true_eq];exact fun e=>h (this.mp e)
theorem sG:∀ R:List Rl,((C6 R).filter fun e=>decide (e.2=("as" : Str))).map (·.1)=asKs R
 | []=>rfl
 | z::R=>by
  rw [oI,cA,D0,sG R];have e:asKs (z::R)=asKs [z]++asKs R:=by unfold asKs;rw [<- List.filterMap_append];rfl
  rw [e]
  congr 1
  by_cases h:z.1=("as" : Str)
  .obtain ⟨w,ps⟩:=z;obtain rfl:w=("as" : Str):=h;rw [bA.2.1 rfl,List.filter_eq_self.mpr,R3]
   .cases ps with
    | nil=>simp [asKs]
    | cons y fs=>
     rw [ah5];rfl
   .intro a ha;obtain ⟨q,_,rfl⟩:=D7.mp ha;exact decide_eq_true (show jobD "as"=("as" : Str) by decide +kernel)
  .rw [akt h,mV.mpr]
   .rfl
   .intro a ha;obtain ⟨q,hq,rfl⟩:=D7.mp ha
    have:=(sF (oF hq)).2.1
    simp only [decide_eq_true_eq];exact fun e=>h (this.mp e)
theorem agy{R:List Rl}{w p:Str} : p∈(rowsW R w).flatten↔∃ z∈R,z.1=w/\p∈z.2:=by
 unfold rowsW;rw [List.mem_flatten]
 constructor
 .rintro ⟨l,hl,hp⟩;obtain ⟨z,hz,rfl⟩:=D7.mp hl;obtain ⟨h1,h2⟩:=Y6.mp hz;exact ⟨z,h1,by simpa using h2,hp⟩
 .rintro ⟨z,hz,e,hp⟩;exact ⟨z.2,D7.mpr ⟨z,Y6.mpr ⟨hz,by simpa using e⟩,rfl⟩,hp⟩
theorem mem_letter{R:List Rl}{p:Str} : (p,("letter" : Str))∈C6 R↔p∈(rowsW R "row").flatten:=by
 rw [agx,agy]
 constructor
 .rintro ⟨z,hz,hp,e⟩
  have:=(sF (oF hp)).2.2.1.mp e
  exact ⟨z,hz,this,by rw [bA.2.2 (.inl this)] at hp;exact hp⟩
 .rintro ⟨z,hz,e,hp⟩;exact ⟨z,hz,by rw [bA.2.2 (.inl e)];exact hp,by rw [e];decide +kernel⟩
theorem mem_mark{R:List Rl}{p:Str} : (p,("mark" : Str))∈C6 R↔p∈(rowsW R "marks").flatten:=by
 rw [agx,agy]
 constructor
 .rintro ⟨z,hz,hp,e⟩
  have:=(sF (oF hp)).2.2.2.1.mp e
  exact ⟨z,hz,this,by rw [bA.2.2 (.inr (.inl this))] at hp;exact hp⟩
 .rintro ⟨z,hz,e,hp⟩;exact ⟨z,hz,by rw [bA.2.2 (.inr (.inl e))];exact hp,by rw [e];decide +kernel⟩
theorem xD{zss:List (List Str)}{p:Str} : p∈toldL zss↔p∈zss.flatten:=by
 unfold toldL;rw [rO,aY]
 simp
theorem eY{R:List Rl}{w:Str}(h:Q5 R w L){p:Str} : p∈L↔p∈(rowsW R w).flatten:=by
 rw [<- xD];exact ⟨h.1.sub,h.2 p⟩
structure GoodR(g:Str->Str)(r1 r2:Str->Nat)(R:List Rl):Prop where
 len:R.length<=1000
 plen:(C6 R).length<=10000
 nc:NC (hasW R "figures") g (C6 R)
 nb:(" " : Str)∉(C6 R).map (·.1)
 zl:∀ z∈R,z.2.length<=1000
 ne:∀ z∈R,z.1=("as" : Str)\/z.1=("great" : Str)->z.2≠[]
 gl:∀ z∈R,z.1=("great" : Str)->∀ p∈z.2.take 1,(p,("letter" : Str))∈C6 R
 al:∀ z∈R,z.1=("as" : Str)->∀ p∈(z.2.drop 1).take 1,(p,("letter" : Str))∈C6 R
 am:∀ z∈R,z.1=("as" : Str)->∀ p∈z.2.drop 2,(p,("letter" : Str))∈C6 R\/(p,("mark" : Str))∈C6 R
 f1:(rowsW R "row").flatten.length<=10000
 f2:(rowsW R "marks").flatten.length<=10000
 a1:∀ e∈edges (rowsW R "row"),r1 e.1<r1 e.2
 a2:∀ e∈edges (rowsW R "marks"),r2 e.1<r2 e.2
theorem GoodR.job{g:Str->Str}{r1 r2:Str->Nat}{R:List Rl}(h:GoodR g r1 r2 R){p j:Str}(hp:(p,j)∈C6 R):p∈keysP (C6 R)++W9 R/\jobG g p=.str j:=by
 have hm:p∈(C6 R).map (·.1):=D7.mpr ⟨_,hp,rfl⟩;refine ⟨Q2 _ ((rZ _ _).mpr hm),?_⟩;unfold jobG;rw [if_neg (fun e=>h.nb (by rw [<- e];exact hm)),oH h.nc hp]
theorem GoodR.used{g:Str->Str}{r1 r2:Str->Nat}{R:List Rl}(h:GoodR g r1 r2 R){z:Rl}(hz:z∈R):Used (keysP (C6 R)++W9 R) (jobG g) z:=
 ⟨fun e p hp=>h.job (h.gl z hz e p hp),fun e p hp=>h.job (h.al z hz e p hp),fun e p hp=>(h.am z hz e p hp).elim (fun q=>⟨(h.job q).1,.inl (h.job q).2⟩) fun q=>⟨(h.job q).1,.inr (h.job q).2⟩⟩
theorem forms_mem{R:List Rl}{y f:Str} : f∈D9 R y↔∃ e∈K8 R,e.1=y/\f∈e.2:=by
 unfold D9;rw [W0]
 constructor
 .rintro ⟨e,he,hf⟩;obtain ⟨h1,h2⟩:=Y6.mp he;exact ⟨e,h1,by simpa using h2,hf⟩
 .rintro ⟨e,he,h,hf⟩;exact ⟨e,Y6.mpr ⟨he,by simpa using h⟩,hf⟩
theorem mem_formKs{R:List Rl}{y:Str} : y∈E4 R↔∃ e∈K8 R,e.1=y:=by
 unfold E4;rw [aY,D7]
 simp
theorem am3{g:Str->Str}{r1 r2:Str->Nat}{R:List Rl}(h:GoodR g r1 r2 R)(hL:Q5 R "row" L)(hM:Q5 R "marks" M):(allKs R L M).Nodup:=by
 have Z:((K8 R).flatMap (·.2)).Nodup:=by rw [<- oJ];exact akv h.nc 'd'
 have jl:∀ p∈L,g p="letter":=fun p hp=>oH h.nc (mem_letter.mpr ((eY hL).mp hp))
 have jm:∀ p∈M,g p="mark":=fun p hp=>oH h.nc (mem_mark.mpr ((eY hM).mp hp))
 have jf:∀ p∈(E4 R).flatMap (D9 R),g p="great":=fun p hp=>by
  obtain ⟨y,_,hp⟩:=W0.mp hp;obtain ⟨e,he,_,hf⟩:=forms_mem.mp hp
  have:p∈(K8 R).flatMap (·.2):=W0.mpr ⟨e,he,hf⟩
  rw [<- oJ] at this;obtain ⟨⟨q,j⟩,hq,rfl⟩:=D7.mp this;obtain ⟨h1,h2⟩:=Y6.mp hq;have h2:j=("great" : Str):=by simpa using h2
  subst h2;exact oH h.nc h1
 have ja:∀ p∈asKs R,g p="as":=fun p hp=>by
  rw [<- sG] at hp;obtain ⟨⟨q,j⟩,hq,rfl⟩:=D7.mp hp;obtain ⟨h1,h2⟩:=Y6.mp hq;have h2:j=("as" : Str):=by simpa using h2
  subst h2;exact oH h.nc h1
 have nf:((E4 R).flatMap (D9 R)).Nodup:=by
  rw [eA,List.pairwise_flatMap] at Z ⊢
  obtain ⟨z1,z2⟩:=Z;refine ⟨fun y _=>?_,?_⟩
  .unfold D9;rw [List.pairwise_flatMap];exact ⟨fun e he=>z1 e (Y6.mp he).1,z2.filter _⟩
  .have nk:(E4 R).Nodup:=by unfold E4;exact wQ 'c'
   refine List.Pairwise.imp ?_ (eA.mp nk);intro y y' hyy f hf f' hf' e;subst e;obtain ⟨e1,h1,r1,f1⟩:=forms_mem.mp hf;obtain ⟨e2,h2,r2,f2⟩:=forms_mem.mp hf';obtain ⟨i,hi,q1⟩:=k0.mp h1;obtain ⟨j,hj,q2⟩:=k0.mp h2;rw [gG] at z2
   rcases mZ i j with c | c | c
   .exact z2 i j hi hj c f (by rw [q1];exact f1) f (by rw [q2];exact f2) rfl
   .subst c;exact hyy (by rw [<- r1,<- r2,<- q1,<- q2])
   .exact z2 j i hj hi c f (by rw [q2];exact f2) f (by rw [q1];exact f1) rfl
 have na:(asKs R).Nodup:=by rw [<- sG];exact akv h.nc 'd'
 have n1:("letter" : Str)≠"mark"/\("letter" : Str)≠"great"/\("letter" : Str)≠"as"/\("mark" : Str)≠"great"/\("mark" : Str)≠"as"/\("great" : Str)≠"as":=by decide +kernel
 unfold allKs;rw [Z5,Z5,Z5];refine ⟨⟨⟨hL.1.nodup,hM.1.nodup,fun a ha b hb e=>?_⟩,nf,fun a ha b hb e=>?_⟩,na,fun a ha b hb e=>?_⟩
 .subst e;exact n1.1 ((jl a ha).symm.trans (jm a hb))
 .subst e
  rcases E8.mp ha with ha | ha
  .exact n1.2.1 ((jl a ha).symm.trans (jf a hb))
  .exact n1.2.2.2.1 ((jm a ha).symm.trans (jf a hb))
 .subst e
  rcases E8.mp ha with ha | ha
  .rcases E8.mp ha with ha | ha
   .exact n1.2.2.1 ((jl a ha).symm.trans (ja a hb))
   .exact n1.2.2.2.2.1 ((jm a ha).symm.trans (ja a hb))
  .exact n1.2.2.2.2.2 ((jf a ha).symm.trans (ja a hb))
theorem oK{g:Str->Str}{r1 r2:Str->Nat}{R:List Rl}(h:GoodR g r1 r2 R)(hL:Q5 R "row" L)(hM:Q5 R "marks" M):Made R L M (stepF R L M):=by
 refine aoD (am3 h hL hM) (fun y hy=>?_) h.ne fun z hz e q hq=>?_
 .obtain ⟨e,he,rfl⟩:=mem_formKs.mp hy;unfold K8 at he;obtain ⟨z,hz,hh⟩:=jV.mp he
  by_cases hg:z.1=("great" : Str)
  .rw [if_pos hg] at hh;obtain ⟨w,ps⟩:=z
   cases ps with
   | nil=>cases hh
   | cons y fs=>
    have hh:=Option.some.inj hh;rw [<- hh];exact (eY hL).mpr (mem_letter.mp (h.gl _ hz hg y 'c'))
  .rw [if_neg hg] at hh;cases hh
 .rw [<- e8 1 (z.2.drop 1)] at hq
  rcases E8.mp hq with hq | hq
  .exact .inl ((eY hL).mpr (mem_letter.mp (h.al z hz e q hq)))
  .rw [List.drop_drop] at hq
   rcases h.am z hz e q hq with h1 | h1
   .exact .inl ((eY hL).mpr (mem_letter.mp h1))
   .exact .inr ((eY hM).mpr (mem_mark.mp h1))
theorem aoF{g:Str->Str}{r1 r2:Str->Nat}{R:List Rl}(h:GoodR g r1 r2 R)(hL:Q5 R "row" L)(hM:Q5 R "marks" M):(allKs R L M).length<=10000:=by
 refine N5 ?_ h.plen
 have:=List.Nodup.length_le_of_subset (l₂:=(C6 R).map (·.1)) (am3 h hL hM) fun p hp=>by
  unfold allKs at hp
  rcases E8.mp hp with hp | hp
  .rcases E8.mp hp with hp | hp
   .rcases E8.mp hp with hp | hp
    .exact D7.mpr ⟨_,mem_letter.mpr ((eY hL).mp hp),rfl⟩
    .exact D7.mpr ⟨_,mem_mark.mpr ((eY hM).mp hp),rfl⟩
   .obtain ⟨y,_,hp⟩:=W0.mp hp;obtain ⟨e,he,_,hf⟩:=forms_mem.mp hp
    have:p∈(K8 R).flatMap (·.2):=W0.mpr ⟨e,he,hf⟩
    rw [<- oJ] at this;obtain ⟨q,hq,rfl⟩:=D7.mp this;exact D7.mpr ⟨q,(Y6.mp hq).1,rfl⟩
  .rw [<- sG] at hp;obtain ⟨q,hq,rfl⟩:=D7.mp hp;exact D7.mpr ⟨q,(Y6.mp hq).1,rfl⟩
 rw [A6] at this;exact this
theorem akw{g:Str->Str}{r1 r2:Str->Nat}{R:List Rl}(h:GoodR g r1 r2 R)(i:Nat)(y:Str):(D9 (R.take i) y).length<=10000:=by
 refine N5 ?_ h.plen;have h1:(D9 (R.take i) y).length<=((K8 (R.take i)).flatMap (·.2)).length:=by
  unfold D9;generalize K8 (R.take i)=E
  induction E with
  | nil=>exact C3 _
  | cons e E ih=>
   rw [List.filter_cons]
   split
   .rw [o9,o9,D6,D6];lia
   .rw [o9,D6];lia
 have h2:((K8 (R.take i)).flatMap (·.2)).length<=(C6 (R.take i)).length:=by
  rw [<- oJ,A6];exact List.length_filter_le _ _
 obtain ⟨more,e⟩:=agr R i;rw [e,D6];lia
theorem IsMade.mod{d:Addr}{F:Str->List Tr}{o o':HO}(h:IsMade H d ks F)(ha:H a=some o')(hn:∀ xs,o'≠.tup xs)(nd:d≠a):IsMade (A0 H a o) d ks F:=
 let ⟨ad,h1,h2⟩:=h
 ⟨ad,by rw [A7 nd];exact h1,fun y hy=>(h2 y hy).put ha hn⟩
structure IsOrd(C:Addr)(H:Hp)(x j ll ml md:Addr)(g:Str->Str)(R:List Rl)(L M:List Str):Prop where
 ob:∃ dx,H x=some (.ins C dx (ordF (hasW R "figures") (hasW R "behind") j ll ml md))
 jobs:H j=some (.dK (C2 (keysP (C6 R)++W9 R) (jobG g)))
 lets:H ll=some (.lst (L.map V.str))
 mrks:H ml=some (.lst (M.map V.str))
 made:IsMade H md (J7 [] (allKs R L M)) (stepF R L M)
 l1:Q5 R "row" L
 l2:Q5 R "marks" M
theorem IsOrd.same{x j:Addr}{g:Str->Str}{R:List Rl}(h:IsOrd C H x j ll ml md g R L M)(s:Same H H'):IsOrd C H' x j ll ml md g R L M:=
 ⟨let ⟨dx,e⟩:=h.ob;⟨dx,s _ _ e⟩,s _ _ h.jobs,s _ _ h.lets,s _ _ h.mrks,h.made.same s,h.l1,h.l2⟩
noncomputable def sH (C:Addr):Sp:=fun vs H Q _=>∃ (x dx a:Addr) (ts:List Addr) (R:List Rl) (g:Str->Str) (r1 r2:Str->Nat),vs=[.ref x,.ref a]/\H x=some (.ins C dx [])/\IsRules H a ts R/\GoodR g r1 r2 R/\
 ∀ j ll ml md L M H',H j=none->H ll=none->H ml=none->H md=none->SameBut x H H'->IsOrd C H' x j ll ml md g R L M->Q .non H'
noncomputable def xE (C:Addr):Sp:=fun vs H Q _=>∃ (x j ll ml md:Addr) (p:Str) (g:Str->Str) (R:List Rl) (L M:List Str),vs=[.ref x,.str p]/\IsOrd C H x j ll ml md g R L M/\Q (if p∈keysP (C6 R)++W9 R then jobG g p else .non) H
structure RulesAt(H0 H:Hp)(a:Addr)(ts:List Addr)(R:List Rl):Prop where
 rows:IsRules H a ts R
 nd:(a::ts).Nodup
 new:∀ r∈a::ts,H0 r=none
 same:Same H0 H
theorem aiW{E:List (Str×Str)}(r:V3 E ts line){e:Str×Str}(he:e∈E)(h2:e.2∈line):line.idxOf e.1<line.idxOf e.2:=by
 obtain ⟨pre,post,el⟩:=List.append_of_mem h2;obtain ⟨h3,h4,h5⟩:=kR (r pre e.2 post el);have h6:=cnt_zero.mp h5 e he rfl;rw [el,List.idxOf_append,if_pos h6,List.idxOf_append,if_neg h4]
 have:=eC.mpr h6
 lia
theorem aky{E:List (Str×Str)}(nd:ps.Nodup)(tnd:ts.Nodup)(r:V3 E ts line)(cov:∀ p∈ts,p∈line)(hm:∀ p,p∈ts↔p∈ps)(hE:∀ e∈W8 ps,e∈E):line=ps:=by
 have hl:line.length=ps.length:=by
  rw [rW tnd r cov];exact ((List.perm_ext_iff_of_nodup tnd nd).mpr fun a=>hm a).length_eq
 have F6:∀ p∈ps,p∈line:=fun p hp=>cov p ((hm p).mpr hp)
 have C5:∀ i (h:i<ps.length),line.idxOf ps[i]<ps.length:=fun i h=>by
  rw [<- hl];exact eC.mpr (F6 _ (cC h))
 have step:∀ i (h:i+1<ps.length),line.idxOf ps[i]<line.idxOf ps[i+1]:=fun i h=>by
  have he:(ps[i],ps[i+1])∈W8 ps:=by
   have:=agn (zs:=ps) (j:=i) (x:=ps[i]) (y:=ps[i+1]) (J5 'a') (by rw [List.getElem?_tail];exact J5 h)
   exact L3 this
  exact aiW r (hE _ he) (F6 _ (cC h))
 have up:∀ i (h:i<ps.length),i<=line.idxOf ps[i]:=by
  intro i
  induction i with
  | zero=>intro h;exact G4 _
  | succ i ih=>
   intro h
   have:=ih 'a'
   have:=step i h
   lia
 have down:∀ d i (h:i<ps.length),ps.length-1-i=d->line.idxOf ps[i]<=i:=by
  intro d
  induction d with
  | zero=>
   intro i h e
   have:=C5 i h
   lia
  | succ d ih=>
   intro i h e;have h1:=ih (i+1) 'a' 'a';have h2:=step i 'a';lia
 refine List.ext_getElem hl fun i h1 h2=>?_
 have e:line.idxOf ps[i]=i:=Nat.le_antisymm (down _ i h2 rfl) (up i h2)
 have:=gI (x:=ps[i]) (xs:=line) (by rw [e];exact h1)
 simp only [e] at this;exact this
noncomputable def xF (ns:List Int) (k:Int) (p:Str):Prop:=∃ rest:List Nat,p.cps.toList=kT ns k::rest/\rest.length<=1/\∀ c∈rest,∃ m:Int,c=kT ns m
noncomputable def PcS (ns:List Int) (S:Int->Prop) (p:Str):Prop:=∃ k,S k/\xF ns k p
structure Dis(ns:List Int)(S:Int->Prop)(ps:List Str):Prop where
 nd:ps.Nodup
 pc:∀ p∈ps,PcS ns S p
 uq:∀ p∈ps,∀ q∈ps,∀ k:Int,20<=k->k<83->xF ns k p->xF ns k q->p=q
noncomputable def LetS (k:Int):Prop:=0<=k/\k<16
structure LetW(ns:List Int)(n:Int)(ps:List Str):Prop where
 n0:2<=n
 n1:n<=16
 all:∀ k:Int,0<=k->k<n->one (kT ns k)∈ps
 each:∀ p∈ps,∃ k:Int,0<=k/\k<n/\(p=one (kT ns k)\/∃ m:Int,0<=m/\m<n/\p=one (kT ns k)++one (kT ns m))
noncomputable def OthZ (ls ms:List Str) (z:Rl):Prop:=(z.1=("great" : Str)/\∃ l fs,z.2=l::fs/\l∈ls/\1<=fs.length/\fs.length<=2)\/(z.1=("as" : Str)/\∃ p q qs,z.2=p::q::qs/\q∈ls/\(∀ r∈qs,r∈ls\/r∈ms)/\qs.length<=2)\/(z.1=("over" : Str)/\z.2.length<=2)
structure OthI(ns:List Int)(ls ms:List Str)(S:Int->Prop)(n:Nat)(R:List Rl):Prop where
 dis:Dis ns S ((C6 R).map (·.1))
 each:∀ z∈R,OthZ ls ms z
 len:R.length<=n
noncomputable def GS (i:Nat) (k:Int):Prop:=(30<=k/\k<30+(i:Int))\/(34<=k/\k<34+(i:Int))
noncomputable def AS (i:Nat) (k:Int):Prop:=GS 3 k\/(40<=k/\k<40+(i:Int))
noncomputable def OS (k:Int):Prop:=AS 3 k\/(50<=k/\k<52)
structure AsR(ls ms:List Str)(H0 H:Hp)(t:Addr)(p:Str)(qs:List Str)(j:Nat):Prop where
 same:Same H0 H
 tup:H t=some (tupR ("as",p::qs))
 new:H0 t=none
 len:qs.length=j
 ok:∀ i q,qs[i]?=some q->q∈ls\/(0<i/\q∈ms)
noncomputable def MarkS (k:Int):Prop:=20<=k/\k<25
noncomputable def flagW (w:Str):Prop:=w=("figures" : Str)\/w=("behind" : Str)\/w=("blanks" : Str)
theorem flagW.no{w:Str}(h:flagW w):w≠"row"/\w≠"marks"/\w≠"great"/\w≠"as"/\w≠"over":=by
 rcases h with rfl | rfl | rfl <;> decide +kernel
theorem aiX{w:Str}(h:flagW w):P3 (w,[])=[]:=by
 obtain ⟨n1,n2,n3,n4,n5⟩:=h.no;unfold P3;rw [if_neg n3,if_neg n4]
 split <;> rfl
structure RulP(ns:List Int)(ls ms:List Str)(b:Bool)(n:Nat)(R:List Rl):Prop where
 dis:Dis ns (fun k=>LetS k\/OS k\/(b=true/\MarkS k)) ((C6 R).map (·.1))
 row:rowsW R "row"=[ls]
 mrk:rowsW R "marks"=if b=true then [ms] else []
 each:∀ z∈R,z=(("row" : Str),ls)\/(z=(("marks" : Str),ms)/\b=true)\/OthZ ls ms z\/(z.2=[]/\flagW z.1)
 len:R.length<=n
 fig:hasW R "figures"=true->wX ns=false
 oi:∀ z∈R,OthZ ls ms z->∀ p∈P3 z,PcS ns OS p
noncomputable def oM (R:List Rl) (p:Str):Str:=((C6 R).lookup p).getD ""
theorem agz(nd:ps.Nodup){e:Str×Str}(he:e∈W8 ps):ps.idxOf e.1<ps.idxOf e.2:=by
 unfold W8 at he;obtain ⟨i,hi,e1⟩:=k0.mp he;rw [List.getElem_zip] at e1;have bQ:i+1<ps.length:=by rw [List.length_zip,List.length_tail] at hi;lia
 have mE:i<ps.tail.length:=by rw [List.length_tail];lia
 have e3:ps.tail[i]'mE=ps[i+1]:=List.getElem_tail mE;have f1:ps[i]=e.1:=congrArg Prod.fst e1;have f2:ps[i+1]=e.2:=e3.symm.trans (congrArg Prod.snd e1);have a1:ps.idxOf ps[i]=i:=List.Nodup.idxOf_getElem nd i 'a';have a2:ps.idxOf ps[i+1]=i+1:=List.Nodup.idxOf_getElem nd (i+1) bQ;rw [<- f1,<- f2,a1,a2];lia
structure RulG(ns:List Int)(ls ms:List Str)(R:List Rl):Prop where
 p:∃ b,RulP ns ls ms b 12 R/\(b=false->ms=[])
 l0:2<=ls.length
 l1:ls.length<=19
 ld:Dis ns LetS ls
 lw:∃ n,LetW ns n ls
 m1:ms.length<=4
 md:Dis ns MarkS ms
noncomputable def spLaw (K:PySem.W.Frag):Sp:=fun vs H Q _=>∃ (a:Addr) (ns:List Int),vs=[.ref a]/\D8 K H a (ns.map V.int)/\ns.length<=63/\∀ H',Q (.bl true) H'
noncomputable def rIntU:List V->Hp->VK->Prop
 | [.bl b],H,Q=>Q (.int (if b then 1 else 0)) H
 | [.str x],H,Q=>PySem.NumText.AllDigits x.cps.toList/\1<=x.length/\x.length<=640/\Q (.int ((nF x.cps.toList:Nat):Int)) H
 | _,_,_=>False
theorem am4 : QCall X (.type "int") rIntU:=⟨by
 intro pins s Y H xs us Q I r h
 match xs,h with
 | [.bl b],h=>exact ajw pins s Y H _ us Q I r (.inr ⟨b,rfl,h⟩)
 | [.str x],h=>
  obtain ⟨h1,h2,h3,q⟩:=h;obtain ⟨u,rfl,r1⟩:=vals1 r;obtain ⟨t,rfl⟩:=r1;have G8:x.cps.toList≠[]:=fun e=>by
   have:x.cps.toList.length=x.length:=by simp [Str.length]
   rw [e] at this;simp at this;lia
  exact PySem.W.KIN.call_text (PySem.intText_digits h1 G8 'a') h3 ⟨V.int ((nF x.cps.toList:Nat):Int),H,I.tok _,⟨_,rfl⟩,q⟩⟩
theorem aru{b:Bool} : rIntU [.bl b] H Q=Q (.int (if b then 1 else 0)) H:=rfl
theorem arv{x:Str} : rIntU [.str x] H Q=(PySem.NumText.AllDigits x.cps.toList/\1<=x.length/\x.length<=640/\Q (.int ((nF x.cps.toList:Nat):Int)) H):=rfl
noncomputable def rInD (K:PySem.W.Frag) (x y:V) (H:Hp) (Q:VK):Prop:=∃ (d:PyData) (ds:List PyData),Dn K H x d/\Dn K H y (.list ds)/\min (aQ ds) d.depth<=60/\Q (.bl (ds.any fun e=>V0 e d)) H
theorem arw : rInD K x y H Q=∃ (d:PyData) (ds:List PyData),Dn K H x d/\Dn K H y (.list ds)/\min (aQ ds) d.depth<=60/\Q (.bl (ds.any fun e=>V0 e d)) H:=rfl
end L2
namespace L2
open PySem PySem.Spec PyProof.Rows
open PySem.Builtin PySem.Builtin.Str PySem.StrLaws
noncomputable def rTupA (K:PySem.W.Frag):R2:=fun x y H Q=>∃ a b xs ys,x=.ref a/\y=.ref b/\B1 K H a xs/\B1 K H b ys/\ys≠[]/\xs.length+ys.length<=sizeLine/\∀ p H',Same H H'->B1 K H' p (xs++ys)->(H' p=some (.tup (xs++ys))\/xs=[]/\p=b)->Q (.ref p) H'
theorem arx : rTupA K (.ref a) (.ref b) H Q=∃ xs ys,B1 K H a xs/\B1 K H b ys/\ys≠[]/\xs.length+ys.length<=sizeLine/\∀ p H',Same H H'->B1 K H' p (xs++ys)->(H' p=some (.tup (xs++ys))\/xs=[]/\p=b)->Q (.ref p) H':=
 propext ⟨fun ⟨_,_,xs,ys,e1,e2,h⟩=>(by cases e1;cases e2;exact ⟨xs,ys,h⟩),fun ⟨xs,ys,h⟩=>⟨a,b,xs,ys,rfl,rfl,h⟩⟩
end L2
namespace L2
open PySem PySem.Spec PyProof.Rows
theorem ary{d:Value}(h:(us++[d]).length=3):∃ u1 u2,us=[u1,u2]:=by
 match us,h with
 | [a,b],_=>exact ⟨a,b,rfl⟩
 | [],h=>simp at h
 | [_],h=>simp at h
 | _::_::_::r,h=>simp at h
theorem kZ(g:List Str)(z:Str):(valV (kvOf g) (Sum.inr z)).isSome=decide (z∈g):=by
 rw [<- wE];unfold valV;rw [kC,List.isSome_find?]
theorem sI{y rest:List Nat}(h:z.cps.toList=pre++(y++rest)):cutS z (some (pre.length:Int)) (some ((pre.length:Int)+(y.length:Int)))=⟨y.toArray⟩:=by
 have hl:z.length=pre.length+(y.length+rest.length):=by
  have:=congrArg f6 h
  simp [Str.length] at this ⊢
  lia
 apply Str.ext'
 apply Array.toList_inj.mp
 rw [age,h];have e1:HT.sIx z.length 0 (some (pre.length:Int))=pre.length:=by rw [HT.sIx_nat];lia
 have e2:HT.sIx z.length z.length (some ((pre.length:Int)+(y.length:Int)))=pre.length+y.length:=by
  rw [show (pre.length:Int)+(y.length:Int)=((pre.length+y.length:Nat):Int) by lia,HT.sIx_nat];lia
 rw [e1,e2,List.drop_left,show pre.length+y.length-pre.length=y.length by lia,List.take_left]
theorem agA(h:z.cps.toList=pre++[c]):cutS z (some (pre.length:Int)) (some ((pre.length:Int)+2))=one c:=by
 have hl:z.length=pre.length+1:=by
  have:=congrArg f6 h
  simp [Str.length] at this ⊢
  lia
 apply Str.ext'
 apply Array.toList_inj.mp
 rw [age,h];have e1:HT.sIx z.length 0 (some (pre.length:Int))=pre.length:=by rw [HT.sIx_nat];lia
 have e2:HT.sIx z.length z.length (some ((pre.length:Int)+2))=pre.length+1:=by
  rw [show (pre.length:Int)+2=((pre.length+2:Nat):Int) by lia,HT.sIx_nat];lia
 rw [e1,e2,List.drop_left,show pre.length+1-pre.length=1 by lia];rfl
theorem akz{r:List Nat} : F8 (pre++c::r) (pre.length:Int)=some c:=J9 (by rw [gF (C3 _),Nat.sub_self];rfl)
theorem afg:∀ (zs acc:List Str),Z0 (kvOf acc) (kvOf zs)=kvOf (J7 acc zs)
 | [],acc=>rfl
 | z::zs,acc=>by
  show Z0 (putK (kvOf acc) (Sum.inr z) (.bl true)) (kvOf zs)=kvOf (J7 (dd acc z) zs);rw [agd,afg zs]
noncomputable def akA:Sp:=fun vs H Q _=>∃ (z:Str) (pre rest:List Nat),vs=[.str z,.int pre.length]/\z.length<=1000/\z.cps.toList=pre++rest/\Q (.str ⟨(rest.takeWhile figO).toArray⟩) H
theorem amo(h:(us++[]).length=3):∃ u1 u2 u3,us=[u1,u2,u3]:=by
 match us,h with
 | [a,b,c],_=>exact ⟨a,b,c,rfl⟩
 | [],h=>simp at h
 | [_],h=>simp at h
 | [_,_],h=>simp at h
 | _::_::_::_::r,h=>simp at h
theorem lenL(z:Str):z.cps.toList.length=z.length:=by simp [Str.length]
noncomputable def partG (g:List Str):List Nat->Option Str
 | []=>none
 | [c]=>if one c∈g then some (one c) else none
 | c::d::_=>if two c d∈g then some (two c d) else if one c∈g then some (one c) else none
theorem lA(g:List Str)(c:Nat):partG g [c]=if one c∈g then some (one c) else none:=rfl
theorem lB(g:List Str)(c d:Nat)(r:List Nat):partG g (c::d::r)=if two c d∈g then some (two c d) else if one c∈g then some (one c) else none:=rfl
noncomputable def partF (w:Bool) (g:List Str):List Nat->Option Str
 | []=>none
 | c::r=>if (w&&figO c)=true then some ⟨((c::r).takeWhile figO).toArray⟩ else partG g (c::r)
theorem lC(w:Bool)(g:List Str)(c:Nat)(r:List Nat):partF w g (c::r)=if (w&&figO c)=true then some ⟨((c::r).takeWhile figO).toArray⟩ else partG g (c::r):=rfl
theorem afh{g:List Str}{y:Str} : ∀ {l:List Nat},partG g l=some y->∃ rest,l=y.cps.toList++rest/\1<=y.length
 | [],h=>by cases h
 | [c],h=>by
  rw [lA] at h
  by_cases hc:one c∈g
  .rw [if_pos hc] at h;cases h;exact ⟨[],rfl,by show 1<=1;decide⟩
  .rw [if_neg hc] at h;cases h
 | c::d::r,h=>by
  rw [lB] at h
  by_cases h2:two c d∈g
  .rw [if_pos h2] at h;cases h;exact ⟨r,rfl,by show 1<=2;decide⟩
  .rw [if_neg h2] at h
   by_cases hc:one c∈g
   .rw [if_pos hc] at h;cases h;exact ⟨d::r,rfl,by show 1<=1;decide⟩
   .rw [if_neg hc] at h;cases h
theorem ag9{g:List Str}(h:∀ x,x∈g↔x∈g'):∀ l,partG g l=partG g' l
 | []=>rfl
 | [c]=>by
  rw [lA,lA]
  by_cases hc:one c∈g
  .rw [if_pos hc,if_pos ((h _).mp hc)]
  .rw [if_neg hc,if_neg (fun z=>hc ((h _).mpr z))]
 | c::d::r=>by
  rw [lB,lB]
  by_cases h2:two c d∈g
  .rw [if_pos h2,if_pos ((h _).mp h2)]
  .rw [if_neg h2,if_neg (fun z=>h2 ((h _).mpr z))]
   by_cases hc:one c∈g
   .rw [if_pos hc,if_pos ((h _).mp hc)]
   .rw [if_neg hc,if_neg (fun z=>hc ((h _).mpr z))]
theorem aha{w:Bool}{g:List Str}(h:∀ x,x∈g↔x∈g')(l:List Nat):partF w g l=partF w g' l:=by
 cases l with
 | nil=>rfl
 | cons c r=>rw [lC,lC,ag9 h]
theorem afi{w:Bool}{g:List Str}{y:Str}{l:List Nat}(h:partF w g l=some y):∃ rest,l=y.cps.toList++rest/\1<=y.length:=by
 cases l with
 | nil=>cases h
 | cons c r=>
  rw [lC] at h
  by_cases hw:(w&&figO c)=true
  .rw [if_pos hw] at h;cases h;rw [f8] at hw;refine ⟨(c::r).dropWhile figO,(List.takeWhile_append_dropWhile).symm,?_⟩;show 1<=((c::r).takeWhile figO).length;rw [List.takeWhile_cons_of_pos hw.2]
   simp
  .rw [if_neg hw] at h;exact afh h
noncomputable def cutFn (w:Bool) (g:List Str):Nat->List Nat->Nat×List Str
 | 0,_=>(0,[])
 | n+1,l=>match partF w g l with
  | none=>(0,[])
  | some y=>((cutFn w g n (l.drop y.length)).1+y.length,y::(cutFn w g n (l.drop y.length)).2)
noncomputable def cutF (w:Bool) (g:List Str) (l:List Nat):Nat×List Str:=cutFn w g l.length l
theorem afj(w:Bool)(g:List Str):∀ (n m:Nat) (l:List Nat),l.length<=n->l.length<=m->cutFn w g n l=cutFn w g m l
 | 0,0,_,_,_=>rfl
 | 0,m+1,l,h,_=>by
  have:l=[]:=aL.mp 'a'
  subst this;rfl
 | n+1,0,l,_,h=>by
  have:l=[]:=aL.mp 'a'
  subst this;rfl
 | n+1,m+1,l,h1,h2=>by
  cases e:partF w g l with
  | none=>show (match partF w g l with | none=>_ | some y=>_)=(match partF w g l with | none=>_ | some y=>_);rw [e]
  | some y=>
   obtain ⟨rest,e1,e2⟩:=afi e;have hd:(l.drop y.length).length=l.length-y.length:=k5
   have:=afj w g n m (l.drop y.length) 'a' 'a'
   show (match partF w g l with | none=>_ | some y=>_)=(match partF w g l with | none=>_ | some y=>_);rw [e]
   dsimp only
   rw [this]
theorem oN{w:Bool}{g:List Str}{l:List Nat}(h:partF w g l=none):cutF w g l=(0,[]):=by
 unfold cutF;cases hl:l.length with
 | zero=>rfl
 | succ n=>
  show (match partF w g l with | none=>_ | some y=>_)=_;rw [h]
theorem oO(w:Bool)(g:List Str):cutF w g []=(0,[]):=rfl
theorem lD{w:Bool}{g:List Str}{y:Str}{l:List Nat}(h:partF w g l=some y):∃ rest,l=y.cps.toList++rest/\cutF w g l=((cutF w g rest).1+y.length,y::(cutF w g rest).2)/\1<=y.length:=by
 obtain ⟨rest,e1,e2⟩:=afi h;refine ⟨rest,e1,?_,e2⟩;have el:l.length=y.length+rest.length:=by rw [e1,D6,lenL]
 have ed:l.drop y.length=rest:=by rw [e1,<- lenL,List.drop_left]
 unfold cutF;cases hl:l.length with
 | zero=>lia
 | succ k=>
  show (match partF w g l with | none=>_ | some y=>_)=_;rw [h]
  dsimp only
  rw [ed,afj w g k rest.length rest 'a' (C3 _)]
theorem aiY{w:Bool}{g:List Str}(h:∀ x,x∈g↔x∈g')(l:List Nat):cutF w g l=cutF w g' l:=by
 have:∀ n l,cutFn w g n l=cutFn w g' n l:=by
  intro n
  induction n with
  | zero=>intro l;rfl
  | succ n ih=>
   intro l;show (match partF w g l with | none=>_ | some y=>_)=(match partF w g' l with | none=>_ | some y=>_);rw [aha h]
   cases partF w g' l with
   | none=>rfl
   | some y=>dsimp only;rw [ih]
 exact this _ _
theorem xG{w:Bool}{g:List Str} : ∀ (n:Nat) (l:List Nat),l.length<=n->(cutF w g l).1<=l.length/\(cutF w g l).2.length<=l.length/\∀ y∈(cutF w g l).2,∀ c∈y.cps.toList,c∈l
 | 0,l,h=>by
  have:l=[]:=aL.mp 'a'
  subst this;rw [oO];exact ⟨C3 _,C3 _,by simp⟩
 | n+1,l,h=>by
  cases e:partF w g l with
  | none=>rw [oN e];exact ⟨G4 _,G4 _,by simp⟩
  | some y=>
   obtain ⟨rest,e1,e2,e3⟩:=lD e;have hl:l.length=y.length+rest.length:=by rw [e1,D6,lenL]
   obtain ⟨a,b,c⟩:=xG (w:=w) (g:=g) n rest 'a';rw [e2];refine ⟨by dsimp only;lia,by dsimp only;rw [L0];lia,fun z hz x hx=>?_⟩;rw [e1]
   rcases L4.mp hz with r | r
   .rw [r] at hx;exact E8.mpr (.inl hx)
   .exact E8.mpr (.inr (c z r x hx))
noncomputable def bB (w:Bool) (g:List Str) (z:Str):Prop:=(cutF w g z.cps.toList).1=z.length
noncomputable def akB:Sp:=fun vs H Q _=>∃ (d:Addr) (z:Str) (g:List Str) (pre:List Nat) (c:Nat) (r:List Nat) (w:Bool) (y:Str),vs=[.ref d,.str z,.int pre.length,.bl w]/\H d=some (.dK (kvOf g))/\z.length<=1000/\z.cps.toList=pre++c::r/\partF w g (c::r)=some y/\Q (.str y) H
noncomputable def sJ (K:PySem.W.Frag):Sp:=fun vs H Q _=>∃ (a:Addr) (z:Str) (ks:List Str) (w:Bool),vs=[.ref a,.str z,.bl w]/\D8 K H a (ks.map V.str)/\ks.length<=1000/\z.length<=1000/\bB w ks z/\
 ∀ l H',H l=none->Same H H'->H' l=some (.lst ((cutF w ks z.cps.toList).2.map V.str))->Q (.ref l) H'
noncomputable abbrev G9:=Int×Int×List Int×Int
noncomputable def addM (U:List G9) (p:Int):List G9:=match U.getLast? with
 | none=>[(0,0,[p],0)]
 | some u=>U.dropLast++[(u.1,u.2.1,u.2.2.1++[p],u.2.2.2)]
noncomputable def addS (U:List G9) (s:Tr):List G9:=if s.1=0 then addM U s.2.1 else U++[(s.1,s.2.1,[],s.2.2)]
noncomputable def UnAt (H:Hp) (e:Addr×Addr) (u:G9):Prop:=H e.1=some (.tup [.int u.1,.int u.2.1,.ref e.2,.int u.2.2.2])/\H e.2=some (.lst (u.2.2.1.map V.int))
structure UnI(H0 H:Hp)(l:Addr)(es:List (Addr×Addr))(U:List G9):Prop where
 top:H l=some (.lst (es.map fun e=>V.ref e.1))
 row:Paired (UnAt H) es U
 nd:(l::es.map (·.2)).Nodup
 new:∀ a∈l::es.map (·.2),H0 a=none
 same:Same H0 H
theorem UnI.more{l:Addr}{es:List (Addr×Addr)}{U:List G9}(h:UnI H0 H l es U)(S:Same H H'):UnI H0 H' l es U:=⟨S _ _ h.top,O6 h.row fun _ _ e=>⟨S _ _ e.1,S _ _ e.2⟩,h.nd,h.new,h.same.trans S⟩
theorem UnI.live{l:Addr}{es:List (Addr×Addr)}{U:List G9}(h:UnI H0 H l es U)(ha:a∈es.map (·.2)):∃ xs,H a=some (.lst xs):=by
 obtain ⟨e,he,rfl⟩:=D7.mp ha;obtain ⟨i,hi,q⟩:=k0.mp he;obtain ⟨u,_,hu⟩:=Paired.at h.row (i:=i) (a:=e) (by rw [J5 hi,q]);exact ⟨_,hu.2⟩
theorem UnI.push{l m t:Addr}{es:List (Addr×Addr)}{U:List G9}(h:UnI H0 H l es U)(nm:H m=none){k w c:Int}(nt:A0 H m (.lst []) t=none) :
  UnI H0 (A0 (A0 (A0 H m (.lst [])) t (.tup [.int k,.int w,.ref m,.int c])) l (.lst ((es.map fun e=>V.ref e.1)++[V.ref t]))) l (es++[(t,m)]) (U++[(k,w,[],c)]):=by
 have nlm:l≠m:=fun e=>by have:=h.top;rw [e,nm] at this;cases this
 have nmt:m≠t:=fun e=>by rw [<- e,A3] at nt;cases nt
 have S:Same H (A0 (A0 H m (.lst [])) t (.tup [.int k,.int w,.ref m,.int c])):=(Same.new nm).trans (Same.new nt);have hl:=S _ _ h.top;have nlt:l≠t:=fun e=>by rw [<- e,(Same.new nm) _ _ h.top] at nt;cases nt
 have uC:=W1.mp h.nd;refine ⟨by rw [A3,D0];rfl,Paired.snoc (rP h.row fun e he u hu=>⟨?_,?_⟩) ⟨?_,?_⟩,?_,fun a ha=>?_,(h.same.trans S).put (h.new l M7)⟩
 .rw [A7 (fun q=>by have:=S _ _ hu.1;rw [q,hl] at this;cases this)];exact S _ _ hu.1
 .rw [A7 (fun q=>uC.1 (by rw [<- q];exact D7.mpr ⟨e,he,rfl⟩))];exact S _ _ hu.2
 .rw [A7 nlt.symm,A3]
 .rw [A7 nlm.symm,A7 nmt,A3];rfl
 .rw [D0];exact vX h.nd fun q=>by
   rcases L4.mp q with q | q
   .exact nlm q.symm
   .obtain ⟨xs,hx⟩:=h.live q;rw [nm] at hx;cases hx
 .rw [D0] at ha
  rcases L4.mp ha with q | q
  .rw [q];exact h.new l M7
  .rcases E8.mp q with q | q
   .exact h.new a (O5 _ q)
   .rw [E5.mp q];exact h.same.free nm
theorem UnI.mark{l:Addr}{es:List (Addr×Addr)}{e:Addr×Addr}{U:List G9}{u:G9}(h:UnI H0 H l (es++[e]) (U++[u]))(p:Int) :
  UnI H0 (A0 H e.2 (.lst (u.2.2.1.map V.int++[V.int p]))) l (es++[e]) (U++[(u.1,u.2.1,u.2.2.1++[p],u.2.2.2)]):=by
 obtain ⟨hr,he⟩:=wF h.row;have uC:=h.nd;have nl:l≠e.2:=fun q=>(W1.mp uC).1 (by rw [q];simp)
 have nn:∀ x∈es,x.2≠e.2:=fun x hx q=>by
  have:=(W1.mp uC).2
  rw [D0,Z5] at this;exact this.2.2 x.2 (D7.mpr ⟨x,hx,rfl⟩) e.2 'c' q
 have nt:∀ {x:Addr×Addr} {v:G9},UnAt H x v->x.1≠e.2:=fun {x v} hx q=>by
  have:=hx.1;rw [q,he.2] at this;cases this
 refine ⟨by rw [A7 nl];exact h.top,Paired.snoc (rP hr fun x hx v hv=>⟨?_,?_⟩) ⟨?_,?_⟩,h.nd,h.new,h.same.put (h.new _ (O5 _ 'c'))⟩
 .rw [A7 (nt hv)];exact hv.1
 .rw [A7 (nn x hx)];exact hv.2
 .rw [A7 (nt he)];exact he.1
 .rw [A3,D0];rfl
noncomputable def IsUn (H:Hp) (l:Addr) (U:List G9):Prop:=∃ es:List (Addr×Addr),H l=some (.lst (es.map fun e=>V.ref e.1))/\Paired (fun e (u:G9)=>H e.1=some (.tup [.int u.1,.int u.2.1,.ref e.2,.int u.2.2.2])/\H e.2=some (.tup (u.2.2.1.map V.int))) es U
noncomputable def G6 (R:List Rl):List Str:=keysP (C6 R)++W9 R
noncomputable def Q7 (S:Str->List Tr) (ps:List Str):List G9:=(ps.flatMap S).foldl addS []
noncomputable def xH (C:Addr):Sp:=fun vs H Q _=>∃ (x j ll ml md:Addr) (g:Str->Str) (R:List Rl) (L M:List Str),vs=[.ref x]/\IsOrd C H x j ll ml md g R L M/\∀ l,H l=none->Q (.ref l) (A0 H l (.lst ((G6 R).map V.str)))
noncomputable def oP (C:Addr):Sp:=fun vs H Q _=>∃ (x j ll ml md:Addr) (p:Str) (g:Str->Str) (R:List Rl) (L M:List Str),vs=[.ref x,.str p]/\IsOrd C H x j ll ml md g R L M/\∀ r H',Same H H'->StepAt H' r (stepF R L M p)->Q (.ref r) H'
noncomputable def ah9 (C:Addr):Sp:=fun vs H Q _=>∃ (x j ll ml md:Addr) (z:Str) (g:Str->Str) (R:List Rl) (L M:List Str),vs=[.ref x,.str z]/\IsOrd C H x j ll ml md g R L M/\(G6 R).length<=1000/\z.length<=1000/\bB (hasW R "figures") (G6 R) z/\
 ∀ l H',H l=none->Same H H'->H' l=some (.lst ((cutF (hasW R "figures") (G6 R) z.cps.toList).2.map V.str))->Q (.ref l) H'
theorem aiZ{R:List Rl}{p:Str}(h:p∉allKs R L M):stepF R L M p=[]:=by
 unfold stepF
 have:(putsL R L M).lookup p=none:=by
  rw [List.lookup_eq_none_iff];intro e he
  have:e.1∈allKs R L M:=by rw [<- agv];exact D7.mpr ⟨e,he,rfl⟩
  have ne:p≠e.1:=fun q=>h (by rw [q];exact this)
  simpa using ne
 rw [this];rfl
noncomputable def stepY (R:List Rl) (L M:List Str) (y:Str):List Tr:=if (hasW R "figures" && figO (y.cps.toList.headD 0))=true then [(1,((nF y.cps.toList:Nat):Int),0)] else stepF R L M y
theorem aia{R:List Rl}(h:hasW R "figures"=false)(L M:List Str):stepY R L M=stepF R L M:=by
 funext y
 unfold stepY;rw [h,Bool.false_and,if_neg L8]
noncomputable def FigR (y:Str):Prop:=figO (y.cps.toList.headD 0)=true->PySem.NumText.AllDigits y.cps.toList
noncomputable def agB (C:Addr):Sp:=fun vs H Q _=>∃ (x j ll ml md:Addr) (c:Nat) (r:List Nat) (y:Str) (g:Str->Str) (R:List Rl) (L M:List Str),vs=[.ref x,.str y]/\y.cps.toList=c::r/\y.length<=640/\IsOrd C H x j ll ml md g R L M/\(hasW R "figures"=true->FigR y)/\∀ r H',Same H H'->StepAt H' r (stepY R L M y)->Q (.ref r) H'
noncomputable def agC (K:PySem.W.Frag):Sp:=fun vs H Q _=>∃ (l:Addr) (p:Int) (H0:Hp) (es:List (Addr×Addr)) (U:List G9),vs=[.ref l,.int p]/\UnI H0 H l es U/\U.length<=10000/\(∀ u∈U,u.2.2.1.length<=10000)/\∀ es' H',UnI H0 H' l es' (addM U p)->Q .non H'
noncomputable def agD (C:Addr):Sp:=fun vs H Q _=>∃ (x l j ll ml md:Addr) (c:Nat) (r:List Nat) (y:Str) (g:Str->Str) (R:List Rl) (L M:List Str) (H0:Hp) (es:List (Addr×Addr)) (U:List G9),vs=[.ref x,.ref l,.str y]/\y.cps.toList=c::r/\y.length<=640/\IsOrd C H0 x j ll ml md g R L M/\(hasW R "figures"=true->FigR y)/\UnI H0 H l es U/\(stepY R L M y).length<=1000/\U.length<=9000/\(∀ u∈U,u.2.2.1.length<=9000)/\
 ∀ es' H',UnI H0 H' l es' ((stepY R L M y).foldl addS U)->Q .non H'
theorem amp{U:List G9}{p:Int} : (addM U p).length<=U.length+1:=by
 unfold addM;cases e:U.getLast? with
 | none=>simp
 | some u=>simp only [D6,List.length_dropLast,X2];lia
theorem ai0{U:List G9}{p:Int}(h:∀ u∈U,u.2.2.1.length<=n):∀ u∈addM U p,u.2.2.1.length<=n+1:=by
 unfold addM;cases e:U.getLast? with
 | none=>intro u hu;rw [E5.mp hu];simp
 | some v=>
  intro u hu
  rcases E8.mp hu with q | q
  .have:=h u ((List.dropLast_sublist U).subset q);lia
  .rw [E5.mp q]
   have:=h v (List.mem_of_getLast? e)
   simp only [D6,X2];lia
theorem amq{U:List G9}{s:Tr} : (addS U s).length<=U.length+1:=by
 unfold addS
 split
 .exact amp
 .simp
theorem ai1{U:List G9}{s:Tr}(h:∀ u∈U,u.2.2.1.length<=n):∀ u∈addS U s,u.2.2.1.length<=n+1:=by
 unfold addS
 split
 .exact ai0 h
 .intro u hu
  rcases E8.mp hu with q | q
  .have:=h u q;lia
  .rw [E5.mp q];exact G4 _
theorem xI:∀ (ss:List Tr) (U:List G9),(ss.foldl addS U).length<=U.length+ss.length
 | [],U=>C3 _
 | s::ss,U=>by
  rw [jY,L0];have h1:=xI ss (addS U s);have h2:=amq (U:=U) (s:=s);lia
theorem xJ:∀ (ss:List Tr) (U:List G9) (n:Nat),(∀ u∈U,u.2.2.1.length<=n)->∀ u∈ss.foldl addS U,u.2.2.1.length<=n+ss.length
 | [],U,n,h=>h
 | s::ss,U,n,h=>by
  intro u hu
  have:=xJ ss (addS U s) (n+1) (ai1 h) u hu
  rw [L0];lia
theorem akC(f b:Bool)(j ll ml md:Addr):(ordF f b j ll ml md).lookup ("made" : Str)=some (V.ref md):=by
 unfold ordF;rw [P1,if_pos rfl]
noncomputable def cutH (H:Hp) (as:List Addr):Hp:=fun a=>if a∈as then none else H a
theorem agE(H:Hp)(as:List Addr):Same (cutH H as) H:=fun a o h=>by
 unfold cutH at h
 by_cases q:a∈as
 .rw [if_pos q] at h;cases h
 .rw [if_neg q] at h;exact h
theorem UnI.base{l:Addr}{es:List (Addr×Addr)}{U:List G9}(S:Same H0 H1)(h:UnI H1 H l es U):UnI H0 H l es U:=⟨h.top,h.row,h.nd,fun a ha=>S.free (h.new a ha),S.trans h.same⟩
theorem UnI.cut{l:Addr}{es:List (Addr×Addr)}{U:List G9}(h:UnI H0 H l es U):∃ H1,Same H0 H1/\UnI H1 H l es U/\∀ a xs,H a=some (.tup xs)->H1 a=some (.tup xs):=by
 refine ⟨cutH H (l::es.map (fun e=>e.2)),fun a o ha=>?_,⟨h.top,h.row,h.nd,fun a ha=>by unfold cutH;exact if_pos ha,agE _ _⟩,fun a xs ha=>?_⟩
 .unfold cutH;rw [if_neg (fun q=>by rw [h.new a q] at ha;cases ha)];exact h.same _ _ ha
 .unfold cutH;rw [if_neg fun q=>?_]
  .exact ha
  .rcases L4.mp q with q | q
   .rw [q,h.top] at ha;cases ha
   .obtain ⟨ys,hy⟩:=h.live q;rw [hy] at ha;cases ha
theorem ai2{α β:Type}{F:α->β->Prop}{m:List β}(h:Paired F [] m):m=[]:=by cases h;rfl
theorem xK{α:Type}{l:List α}(h:l≠[]):∃ l' x,l=l'++[x]:=⟨l.dropLast,l.getLast h,(List.dropLast_concat_getLast h).symm⟩
noncomputable def akD (C:Addr):Sp:=fun vs H Q _=>∃ (x j ll ml md:Addr) (z:Str) (g:Str->Str) (R:List Rl) (L M:List Str),vs=[.ref x,.str z]/\IsOrd C H x j ll ml md g R L M/\(G6 R).length<=1000/\z.length<=500/\bB (hasW R "figures") (G6 R) z/\(∀ y,(stepY R L M y).length<=15)/\
 ∀ l H',H l=none->Same H H'->IsUn H' l (Q7 (stepY R L M) (cutF (hasW R "figures") (G6 R) z.cps.toList).2)->Q (.ref l) H'
noncomputable def xL (n:Nat) (fr:St) (Pv:Nat->List V->Hp->Prop) (i:Nat) (ys:List V) (σ2:St) (H2:Hp):Prop:=i<=n/\ys.length<=i/\(∃ v0 v1 v2 v3,σ2=v0::v1::v2::v3::fr)/\Pv i ys H2
theorem arz{c:TT}(fr:St)(o3:compStart 4 ixs Y=none::none::none::none::fr)(Pv:Addr->Nat->List V->Hp->Prop)(h0:∀ D,H1 D=none->Pv D 0 [] (A0 H1 D (.lst [])))(hl:∀ D i ys H,H1 D=none->i<=xs.length->Pv D i ys H->D8 K H a xs)(hs:∀ D i x ys H,H1 D=none->i<xs.length->xs[i]?=some x->Pv D i ys H->H D=some (.lst ys)->ys.length<=i->∃ t v0 v1 v2 v3,x=.ref t/\B1 K H t [v0,v1,v2,v3]/\c (some v0::some v1::some v2::some v3::fr) H fun b H4=>
   if b=true then te (some v0::some v1::some v2::some v3::fr) H4 fun y H5=>H5 D=some (.lst ys)/\ys.length<sizeLine/\xL xs.length fr (Pv D) (i+1) (ys++[y]) (some v0::some v1::some v2::some v3::fr) (A0 H5 D (.lst (ys++[y])))
   else H4 D=some (.lst ys)/\xL xs.length fr (Pv D) (i+1) ys (some v0::some v1::some v2::some v3::fr) H4)(hd:∀ D ys H,H1 D=none->Pv D xs.length ys H->H D=some (.lst ys)->ys.length<=xs.length->Q (.ref D) H):eR (aU K a) 4 ixs (gTup K 4 (gCons (gName 0) (gCons (gName 1) (gCons (gName 2) (gCons (gName 3) gNil))))) c te Y Q H1:=by
 intro D hD;refine ⟨xs.length,xL xs.length fr (Pv D),⟨G4 _,G4 _,⟨none,none,none,none,o3⟩,h0 D hD⟩,?_⟩;rintro i ys σ2 H2 ⟨hi,hy,⟨w0,w1,w2,w3,rfl⟩,p⟩ hDy;have q:=hl D i ys H2 hD hi p
 by_cases C5:i<xs.length
 .refine .inr ⟨C5,⟨xs,xs[i],q,by simp [C5]⟩,fun x H' y=>?_⟩;obtain ⟨e,y⟩:=y;subst e;obtain ⟨t,v0,v1,v2,v3,rfl,ht,z⟩:=hs D i x ys _ hD C5 (y xs q) p hDy hy;exact ⟨t,_,rfl,ht,rfl,_,_,rfl,_,_,rfl,_,_,rfl,_,_,rfl,rfl,z⟩
 .have e:i=xs.length:=by lia
  subst e;exact .inl ⟨⟨xs,q,C3 _⟩,hd D ys H2 hD p hDy hy⟩
theorem akE{w:Bool}{g:List Str} : ∀ (n:Nat) (l:List Nat),l.length<=n->∀ y∈(cutF w g l).2,1<=y.length
 | 0,l,h,y,hy=>by
  have:l=[]:=aL.mp 'a'
  subst this;rw [oO] at hy;cases hy
 | n+1,l,h,y,hy=>by
  cases e:partF w g l with
  | none=>rw [oN e] at hy;cases hy
  | some x=>
   obtain ⟨rest,e1,e2,e3⟩:=lD e;rw [e2] at hy
   rcases L4.mp hy with q | q
   .rw [q];exact e3
   .refine akE n rest ?_ y q
    have:=congrArg f6 e1
    rw [D6,lenL] at this;lia
theorem ahc{S:Str->List Tr}{y:Str}(h:ps[i]?=some y):Q7 S (ps.take (i+1))=(S y).foldl addS (Q7 S (ps.take i)):=by
 unfold Q7;rw [M6 h,e9,aN,o9,List.flatMap_nil,M8]
theorem xM{S:Str->List Tr}(hs:∀ y,(S y).length<=15):∀ (ps:List Str),(Q7 S ps).length<=15*ps.length/\∀ u∈Q7 S ps,u.2.2.1.length<=15*ps.length:=fun ps=>by
 have h0:(ps.flatMap S).length<=15*ps.length:=by
  induction ps with
  | nil=>exact C3 _
  | cons p ps ih=>
   rw [o9,D6,L0]
   have:=hs p
   lia
 have h1:=xI (ps.flatMap S) [];have h2:=xJ (ps.flatMap S) [] 0 'c';unfold Q7;rw [Z6] at h1;exact ⟨by lia,fun u hu=>by have:=h2 u hu;lia⟩
theorem agF{w:Bool}{g:List Str} : ∀ (n:Nat) (l:List Nat),l.length<=n->∀ y∈(cutF w g l).2,y.length<=l.length
 | 0,l,h,y,hy=>by
  have:l=[]:=aL.mp 'a'
  subst this;rw [oO] at hy;cases hy
 | n+1,l,h,y,hy=>by
  cases e:partF w g l with
  | none=>rw [oN e] at hy;cases hy
  | some x=>
   obtain ⟨rest,e1,e2,e3⟩:=lD e;rw [e2] at hy;have hl:=congrArg f6 e1;rw [D6,lenL] at hl
   rcases L4.mp hy with q | q
   .rw [q];lia
   .have:=agF n rest 'a' y q
    lia
theorem am5{p:Nat->Bool}{d:Nat} : ∀ {l:List Nat},d∈l.takeWhile p->p d=true
 | [],h=>by cases h
 | c::r,h=>by
  rw [List.takeWhile_cons] at h
  by_cases hc:p c=true
  .rw [if_pos hc] at h
   rcases L4.mp h with q | q
   .rw [q];exact hc
   .exact am5 q
  .rw [if_neg hc] at h;cases h
theorem akF{w:Bool}{g:List Str}{l:List Nat}{y:Str}(h:partF w g l=some y):w=true->FigR y:=by
 intro hw hf
 cases l with
 | nil=>cases h
 | cons c r=>
  rw [lC,hw,Bool.true_and] at h
  by_cases hc:figO c=true
  .rw [if_pos hc] at h;obtain rfl:=Option.some.inj h;intro d hd;have hd:d∈(c::r).takeWhile figO:=by simpa using hd
   have:=am5 hd
   unfold figO at this;rw [f8,decide_eq_true_eq,decide_eq_true_eq] at this;exact this
  .exfalso
   rw [if_neg hc] at h;obtain ⟨rest,e,hl⟩:=afh h
   have:y.cps.toList.headD 0=c:=by
    cases hy:y.cps.toList with
    | nil=>rw [<- lenL,hy] at hl;simp at hl
    | cons d t=>rw [hy] at e;exact (List.cons.inj e).1.symm
   rw [this] at hf;exact hc hf
theorem aib{w:Bool}{g:List Str} : ∀ (n:Nat) (l:List Nat),l.length<=n->∀ y∈(cutF w g l).2,w=true->FigR y
 | 0,l,h,y,hy=>by
  have:l=[]:=aL.mp 'a'
  subst this;rw [oO] at hy;cases hy
 | n+1,l,h,y,hy=>by
  cases e:partF w g l with
  | none=>rw [oN e] at hy;cases hy
  | some x=>
   obtain ⟨rest,e1,e2,e3⟩:=lD e;rw [e2] at hy;have hl:=congrArg f6 e1;rw [D6,lenL] at hl
   rcases L4.mp hy with q | q
   .rw [q];exact akF e
   .exact aib n rest 'a' y q
end L2
variable {R R':List L2.Rl}
namespace L2
open PySem PySem.Spec PyProof.Rows
structure StepL(H:Hp)(r:Addr)(ss:List Tr):Prop where
 ex:∃ ts:List Addr,H r=some (.lst (ts.map V.ref))/\Paired (fun t s=>H t=some (tupT s)) ts ss
noncomputable def IsMk (H:Hp) (d:Addr) (ks:List Str) (F:Str->List Tr):Prop:=∃ ad:Str->Addr,H d=some (.dK (C2 ks fun y=>.ref (ad y)))/\∀ y∈ks,StepL H (ad y) (F y)
structure MkI(H H2:Hp)(d:Addr)(P:List Str)(F:Str->List Tr):Prop where
 same:Same H H2
 made:IsMk H2 d (J7 [] P) F
theorem g3{t:Addr}(hT:B1 K H t xs)(q:∀ p H',Same H H'->B1 K H' p (xs.take 2)->Q (.ref p) H'):rSlR K t none (some 2) H Q:=by
 by_cases h:xs.length<=2
 .refine rSlR.w hT ⟨rfl,?_⟩ (q t H (cK H) (by rw [v4 h];exact hT));rw [show ((2:Int))=((2:Nat):Int) from rfl,HT.sIx_nat];lia
 .refine rSlR.t hT (fun e=>?_) fun p np=>q p _ (Same.new np) (.of ?_)
  .have:=e.2
   rw [show ((2:Int))=((2:Nat):Int) from rfl,HT.sIx_nat] at this;lia
  .rw [A3,show cutV xs none (some 2)=_ from aX xs 2]
noncomputable def UnT (H:Hp) (e:Addr×Addr) (u:G9):Prop:=H e.1=some (.tup [.int u.1,.int u.2.1,.ref e.2,.int u.2.2.2])/\H e.2=some (.tup (u.2.2.1.map V.int))
structure UnJ(H0 H:Hp)(l:Addr)(es:List (Addr×Addr))(U:List G9):Prop where
 same:Same H0 H
 new:H0 l=none
 top:H l=some (.lst (es.map fun e=>V.ref e.1))
 row:Paired (UnT H) es U
theorem akG{y rest:List Nat}(h:z.cps.toList=y++rest):cutS z none (some (y.length:Int))=⟨y.toArray⟩:=by
 have e:=sI (pre:=[]) (y:=y) (rest:=rest) (z:=z) h;rw [<- e];rw [show ((([]:List Nat).length:Nat):Int)=0 from rfl,aT];unfold cutS;rfl
noncomputable def tRev (K:PySem.W.Frag) (te:TE) (tk:TO):TE:=fun Y H Q=>te Y H fun x H1=>tk Y H1 fun k H2=>k=some (-1)/\∃ a xs,x=.ref a/\D8 K H2 a xs/\∀ p,H2 p=none->Q (.ref p) (A0 H2 p (.lst xs.reverse))
theorem uac(r:Vals xs us):Vals xs.reverse us.reverse:=by
 induction r with
 | nil=>exact .nil
 | cons h t ih=>
  rw [jW,jW];exact ih.append (.cons h .nil)
theorem aoG{tk:TO} : tRev K te tk Y H Q=te Y H fun x H1=>tk Y H1 fun k H2=>k=some (-1)/\∃ a xs,x=.ref a/\D8 K H2 a xs/\∀ p,H2 p=none->Q (.ref p) (A0 H2 p (.lst xs.reverse)):=rfl
end L2
namespace PySem
section
variable {prog:Program} {w:World} {A:Around} {E:Value->Shared->Prop} {s:Shared}
theorem ai3:typeLookup (.type "list_reverseiterator") "__len__"=pure none:=by rw [typeLookup_type,builtinLookup_eq_fast];kernel_rfl
theorem amr:typeLookup (.type "list_reverseiterator") "__length_hint__"=pure (some (.builtin "list_reverseiterator.__length_hint__")):=by rw [typeLookup_type,builtinLookup_eq_fast];kernel_rfl
theorem ams{Q:Bool->Shared->Prop}(hT:s.TypeIs (.ref r) "list_reverseiterator")(h:Q false s):wpAny (model prog w) A (Builtin.List.listLengthHint (.ref r)) Q E s:=by
 unfold Builtin.List.listLengthHint;refine wpAny_bind (wpAny_specialOf hT ai3 ?_);show wpAny _ A (specialOf (Value.ref r) (Str.ofString "__length_hint__") >>= _) _ _ _;refine wpAny_bind (wpAny_specialOf hT amr ?_);generalize hid:("list_reverseiterator.__length_hint__" : String)=id0
 wp_delta
 rw [show splitId id0=some ("list_reverseiterator", "__length_hint__") from by subst hid;decide +kernel];subst hid;refine wpAny_bind (wpAny_isInstance (T:="list_reverseiterator") (b:=true) hT (by rw [isSubtype_type];kernel_rfl) ?_);refine wpAny_ite_split (fun Z3=>absurd Z3 (by decide)) (fun _=>?_);refine wpAny_ite_split (fun _=>?_) (fun Z3=>absurd 'd' Z3);refine wpAny_ite_split (fun Z3=>absurd Z3 'd') (fun _=>?_);exact wpAny_pure h
theorem ai4{R:Result->Shared->Prop}{l:Addr}(hh:A.handled=none)(mF:s.heap.IsRevIter r l ((items.size:Int)-1))(hl:s.heap.IsList l items)(G8:l≠r)(hsz:items.size<=sizeLine)(S:Addr)(res:Value)(zd:Nat)(hSr:S≠r)(hSl:S≠l)(hS:s.heap.get? S=some { cls:=.type "list",data:=.seq #[] zd })(hR:∀ h' tk acc' c',(∀ b o,b≠S->b≠r->s.heap.get? b=some o->h'.get? b=some o)->h'.get? S=some { cls:=.type "list",dict:=none,data:=.seq acc' c',slots:=#[] }->
   ItemsOf (fun i v=>items[items.size-1-i]?=some v) acc' items.size->R (.ok (.ret res)) { s with heap:=h',toks:=tk }) :
  wpAny (model prog w) A.in1 (Builtin.List.listExtendWith (.ref S) (.ref r) res)
   (fun fin s'=>match fin with | .done f=>R (.ok f) s' | .again c'=>c'.quiet=true/\codeAny (model prog w) A c' R s') (fun e s'=>R (.error e) s') s:=by
 have W:=(Walks.listRev (prog:=prog) (w:=w) (A:=A.in1) hh r l G8 items).toS;have hT:=mF.typeIs;unfold Builtin.List.listExtendWith;refine wpAny_bind (wpAny_typeOf hT ?_);have h1:Builtin.List.listSameRef (.ref S) (.ref r)=false:=by simp [Builtin.List.listSameRef,hSr]
 have h2:(Value.type "list_reverseiterator" == Value.type "list")=false:=by decide
 have h3:(Value.type "list_reverseiterator" == Value.type "tuple")=false:=by decide
 simp only [h1,h2,h3,Bool.or_false,nB,if_false];refine wpAny_bind (wpAny_pyIter_revIter mF ?_);refine wpAny_bind (wpAny_holding (ams hT ?_));refine wpAny_ite_split (fun Z3=>absurd Z3 'd') (fun _=>?_);refine wpAny_pure ⟨plainId_quiet F.plain_extend_loop _,?_⟩;refine codeAny_extend_loopS W hsz S (by simp [hSr,hSl]) res items.size 0 _ #[] zd rfl (G4 _) ⟨G4 _,by simpa using mF,hl⟩ hS (ItemsOf.nil _) fun s' acc' c' hm hS' U4=>?_
 rw [Moved.eq_with hm];refine hR s'.heap s'.toks acc' c' (fun b o hb hb2 e=>hm.heap b o (fun jC=>?_) e) hS' U4
 rcases L4.mp jC with e' | jC
 .exact hb e'
 .exact hb2 (E5.mp jC)
theorem amt{Q:Value->Shared->Prop}{l:Addr}(hh:A.handled=none)(mF:s.heap.IsRevIter r l ((items.size:Int)-1))(hl:s.heap.IsList l items)(G8:l≠r)(hsz:items.size<=sizeLine)(hQ:∀ h' tk acc' c',(∀ b o,b≠r->s.heap.get? b=some o->h'.get? b=some o)->
   h'.get? s.heap.objs.size=some { cls:=.type "list",dict:=none,data:=.seq acc' c',slots:=#[] }->ItemsOf (fun i v=>items[items.size-1-i]?=some v) acc' items.size->Q (.ref s.heap.objs.size) { s with heap:=h',toks:=tk }) :
  wpAny (model prog w) A (call (.type "list") [.ref r]) Q E s:=by
 refine callType_codes (Q₁:=fun obj zu=>obj=.ref s.heap.objs.size/\zu={ s with heap:=s.heap.push { cls:=.type "list",data:=.seq #[] } }) F.called_list (F.typeCall_list_1 _) F.entry_list_init
  (code_list_new _ ⟨rfl,rfl⟩) fun obj zu zr=>?_
 obtain ⟨rfl,rfl⟩:=zr;have hS:(s.heap.push { cls:=.type "list",data:=.seq #[] }).get? s.heap.objs.size=some { cls:=.type "list",data:=.seq #[] }:=Heap.get?_push_size _ rfl;obtain ⟨o1,e1,_⟩:=id mF;obtain ⟨o2,e2,_⟩:=id hl;have n1:s.heap.objs.size≠r:=fun e=>f7 _ (e ▸ Heap.lt_size e1)
 have n2:s.heap.objs.size≠l:=fun e=>f7 _ (e ▸ Heap.lt_size e2)
 refine ⟨⟨_,hS,rfl⟩,F.args_list_init_2 _ _,?_⟩;show wpAny _ _ (do let old <- Builtin.List.listItems (.ref s.heap.objs.size);Builtin.List.listUpdate (.ref s.heap.objs.size) (fun _=>#[]);letGo old.toList.reverse;Builtin.List.listExtendWith (.ref s.heap.objs.size) (.ref r) .none) _ _ _;refine wpAny_bind ?_;unfold Builtin.List.listItems;refine wpAny_bind (wpAny_seqItems hS rfl (wpAny_pure ?_));show wpAny _ _ (updateSeq s.heap.objs.size (fun _=>#[]) >>= fun _=>letGo (#[]:Array Value).toList.reverse >>= fun _=>Builtin.List.listExtendWith (.ref s.heap.objs.size) (.ref r) .none) _ _ _;refine wpAny_bind (wpAny_updateSeq hS rfl ?_);have zc:=Heap.get?_update_self (Obj.mapSeq (fun _=>(#[]:Array Value))) hS rfl;have oth:∀ b o,b≠s.heap.objs.size->s.heap.get? b=some o->((s.heap.push { cls:=.type "list",data:=.seq #[] }).update s.heap.objs.size (Obj.mapSeq (fun _=>(#[]:Array Value)))).get? b=some o:=
  fun b o hb e=>(Heap.get?_update_other _ _ (Ne.symm hb)).trans (Heap.get?_push_of_some _ e)
 refine wpAny_bind (wpAny_letGo ?_);refine ai4 (A:=A.in1) hh (mF.at fun o e=>oth r o n1.symm e) (hl.at fun o e=>oth l o n2.symm e) G8 hsz _ .none _ n1 n2 zc fun h' tk acc' c' hk hS' U4=>?_
 exact ⟨rfl,hQ h' tk acc' c' (fun b o hb e=>hk b o (M4 (Heap.lt_size e)) hb (oth b o (M4 (Heap.lt_size e)) e)) hS' U4⟩
end
end PySem
namespace L2
open PySem PySem.Spec PyProof.Rows
noncomputable def tLRev (ta:TA):TE:=fun Y H Q=>ta Y H fun vs H1=>∃ (l:Addr) (xs:List V),vs=[.ref l]/\H1 l=some (.lst xs)/\∀ p,H1 p=none->Q (.ref p) (A0 H1 p (.lst xs.reverse))
theorem aoH{a:Expr}{p pos:Pos}(hc:X.calm=true)(hg:Gl X "reversed")(hm:X.mg "reversed"=none)(dM:Gl X "list")(fQ:X.mg "list"=none)(ha:PA X [a] ta)(h1:L5 a=false:=by rfl) :
  PE X (.Call (.Name "list" p1) [.Call (.Name "reversed" p) [a] [] pos] [] pos1) (tLRev ta):=by
 sleep 1;refine Call_ (cH I dM fQ kM (PyProof.Rows.callWith_type1 ?_ rfl rfl));show wpAny _ _ (spliced ((false,eval (.Call (.Name "reversed" p) [a] [] pos) X.env)::backTo pos1 (starEach [] X.env))) _ _ s;refine Calls.spliced_cons (Call_ (cH I hg hm afE (PyProof.Rows.callWith_type1 (A8 (ha pos pins s Y H _ I h) fun us s1 ⟨vs,H1,I1,r1,q1⟩=>?_) (O7 h1) rfl)));obtain ⟨l,xs,rfl,e1,q⟩:=q1;obtain ⟨u1,rfl,iZ⟩:=vals1 r1
 cases iZ
 obtain ⟨its1,Y1,p1,hz⟩:=I1.list (D8.of (K:=X.K) e1);have q1:=Y1.length;refine call_reversed_list p1.isList ?_;refine Calls.spliced_nil ?_;have C5:l<s1.heap.objs.size:=by obtain ⟨o,e,_⟩:=p1.isList;exact Heap.lt_size e
 have z1:(s1.heap.push (revObj l ((its1.toArray.size:Int)-1))).IsRevIter s1.heap.objs.size l ((its1.toArray.size:Int)-1):=⟨_,Heap.get?_push_size _ rfl,rfl,rfl⟩
 refine amt (I1.ok.hd hc) z1 (p1.isList.at fun o e=>Heap.get?_push_of_some _ e) (M4 C5) (by rw [K9];lia) fun h' tk acc' c' hk hS' U4=>?_
 have ea:acc'.toList=its1.reverse:=by
  refine List.ext_getElem? fun j=>?_
  by_cases hj:j<its1.length
  .have mD:j<acc'.size:=by rw [U4.1,K9];exact hj
   have hv:=U4.2 j acc'[j] (Array.getElem?_eq_getElem mD);rw [List.getElem?_reverse hj,Array.getElem?_toList,Array.getElem?_eq_getElem mD,<- hv,List.getElem?_toArray,K9]
  .rw [List.getElem?_eq_none (by rw [eL,U4.1,K9];lia),List.getElem?_eq_none (by rw [List.length_reverse];lia)]
 refine ⟨.ref _,_,I1.laid (o:=.lst xs.reverse) (t':=tk) (fun b o e=>hk b o (M4 (Heap.lt_size e)) (Heap.get?_push_of_some _ e)) (by show s1.heap.objs.size<=(s1.heap.push _).objs.size;rw [Heap.size_push];lia) ⟨by rw [List.length_reverse];exact hz,acc'.toList,c',ea ▸ uac Y1,by simpa using hS'⟩,rfl,q _ (I1.hok.fresh (by show s1.heap.objs.size<=(s1.heap.push _).objs.size;rw [Heap.size_push];lia))⟩
theorem aoI{a:Expr}{p pos:Pos}(hm:X.mg "reversed"=none)(fQ:X.mg "list"=none)(ha:QA X [a] ta)(hc:X.calm=true:=by rfl)(hg:Gl X "reversed":=by rfl)(dM:Gl X "list":=by rfl)(h1:L5 a=false:=by rfl) :
  QE X (.Call (.Name "list" p1) [.Call (.Name "reversed" p) [a] [] pos] [] pos1) (tLRev ta):=⟨aoH hc hg hm dM fQ ha.out h1⟩
theorem aoJ : tLRev ta Y H Q=ta Y H fun vs H1=>∃ (l:Addr) (xs:List V),vs=[.ref l]/\H1 l=some (.lst xs)/\∀ p,H1 p=none->Q (.ref p) (A0 H1 p (.lst xs.reverse)):=rfl
noncomputable def bC (U:List G9):Nat:=(U.map fun u=>u.2.2.1.length).sum
theorem ahd(U:List G9)(s:Tr):bC (addS U s)<=bC U+1:=by
 unfold addS
 by_cases h:s.1=0
 .rw [if_pos h]
  by_cases hU:U=[]
  .subst hU;unfold addM bC
   simp
  .obtain ⟨U',u,rfl⟩:=xK hU;unfold addM;rw [List.getLast?_append,List.getLast?_singleton];simp [bC];lia
 .rw [if_neg h];simp [bC]
theorem aeI:∀ (ss:List Tr) (U:List G9),bC (ss.foldl addS U)<=bC U+ss.length
 | [],U=>C3 _
 | s::ss,U=>by
  rw [jY,L0];have h1:=aeI ss (addS U s);have h2:=ahd U s;lia
theorem agG{S:Str->List Tr}(hs:∀ y,(S y).length<=15)(ps:List Str):bC (Q7 S ps)<=15*ps.length:=by
 have h0:(ps.flatMap S).length<=15*ps.length:=by
  induction ps with
  | nil=>exact C3 _
  | cons p ps ih=>
   rw [o9,D6,L0]
   have:=hs p
   lia
 have h1:=aeI (ps.flatMap S) [];unfold Q7;have h2:bC []=0:=rfl;lia
theorem xN{α β:Type}{F:α->β->Prop} : ∀ {as:List α} {bs:List β},Paired F as bs->Paired F as.reverse bs.reverse
 | _,_,.nil=>.nil
 | _,_,.cons h t=>by
  rw [jW,jW];exact Paired.snoc (xN t) h
theorem ahe{S:Str->List Tr}(hs:∀ y,(S y).length<=15){w:Bool}{y:Str}(hy:y.length<=500) :
  (Q7 S (cutF w ks y.cps.toList).2).length<=10000/\(∀ u∈Q7 S (cutF w ks y.cps.toList).2,u.2.2.1.length<=10000)/\bC (Q7 S (cutF w ks y.cps.toList).2)<=100000:=by
 have h1:=xM hs (cutF w ks y.cps.toList).2;have h2:=(xG (w:=w) (g:=ks) _ y.cps.toList (C3 _)).2.1;have h3:=agG hs (cutF w ks y.cps.toList).2;rw [lenL] at h2;exact ⟨by lia,fun u hu=>by have:=h1.2 u hu;lia,by lia⟩
end L2
namespace PySem.SeqAt
open AutoSeq1 (wpAny_loadPart')
open MeetsSeq MeetsSeq2 MeetsSeq3 SeqRoads2
noncomputable def RcLt (A:Around) (s:Shared) (y x:Value) (b:Bool):Prop:=
 ∀ (prog:Program) (w:World) (E:Value->Shared->Prop) (Q:Value->Shared->Prop),Q (.bool b) s->wpAny (model prog w) A (richCompare .Lt y x) Q E s
theorem akH{α:Type}[DecidableEq α][LT α][DecidableLT α](Q0:∀ a:α,¬ a<a){xs ys:List α}(h1:i<xs.length)(h2:i<ys.length) :
  decide (xs.drop i<ys.drop i)=if decide (xs[i]=ys[i])=true then decide (xs.drop (i+1)<ys.drop (i+1)) else decide (xs[i]<ys[i]):=by
 rw [bX h1,bX h2]
 by_cases e:xs[i]=ys[i]
 .rw [if_pos (decide_eq_true e)];refine decide_eq_decide.mpr ?_;rw [gH,e];exact ⟨fun h=>h.elim (fun h=>absurd h (Q0 _)) (fun h=>h.2),fun h=>.inr ⟨rfl,h⟩⟩
 .rw [if_neg (by simpa using e)];refine decide_eq_decide.mpr ?_;rw [gH];exact ⟨fun h=>h.elim id fun h=>absurd h.1 e,.inl⟩
theorem am6{α:Type}[LT α][DecidableEq α][DecidableLT α]{ys:List α}{m':Nat}(hx:m=m')(hy:n=ys.length)(hi:i=m):decide ([]<ys.drop i)=decide (m<n):=by
 refine decide_eq_decide.mpr ?_;cases e:ys.drop i with
 | nil=>
  have:=List.drop_eq_nil_iff.mp e
  exact ⟨fun h=>absurd h (List.not_lt_nil _),fun h=>by lia⟩
 | cons a r=>
  have:i<ys.length:=by
   rcases Nat.lt_or_ge i ys.length with h | h
   .exact h
   .rw [mX h] at e;cases e
  exact ⟨fun _=>by lia,fun _=>List.nil_lt_cons _ _⟩
theorem akI{α:Type}[DecidableEq α][LT α][DecidableLT α](Q0:∀ a:α,¬ a<a)(l b:Addr)(items items2:Array Value)(n n2:Nat)(dd n9:Option Addr)(sl g3:Array (Option Value))(xs ys:List α)(hx:items.size=xs.length)(hy:items2.size=ys.length)(k:Nat) :
  ∀ i:Nat,items.size-i=k->i<=items.size->i<=items2.size->Meets (Builtin.«list.__eq__.loop» ⟨[.ref l,.ref b,rawInt i,rawInt 0],[]⟩)
   (fun A R s=>s.heap.get? l=some { cls:=.type "list",dict:=dd,data:=.seq items n,slots:=sl }/\s.heap.get? b=some { cls:=.type "list",dict:=n9,data:=.seq items2 n2,slots:=g3 }/\
    (∀ j (h1:j<items.size) (h2:j<items2.size) (g1:j<xs.length) (g2:j<ys.length),EqAt A.in1 s items[j] items2[j] (decide (xs[j]=ys[j]))/\RcLt A.in1 s items[j] items2[j] (decide (xs[j]<ys[j])))/\
    R (.ok (.ret (.bool (decide (xs.drop i<ys.drop i))))) s):=by
 induction k with
 | zero=>
  intro i hk l1 l2 prog w A R s h;obtain ⟨hp,g,d,tk,os⟩:=s;obtain ⟨hl,hb,he,h⟩:=h
  wp_walk using wpAny_loadPart' hl,wpAny_loadPart' hb
  have dI:items[((i:Nat):Int).toNat]?=none:=by simp;lia
  rw [dI]
  wp_walk using wpAny_loadPart' hl,wpAny_loadPart' hb
  show R (.ok (.ret (.bool (decide (items.size<items2.size))))) _;have e:decide (xs.drop i<ys.drop i)=decide (items.size<items2.size):=by
   rw [mX (as:=xs) 'a'];exact am6 hx hy 'a'
  rw [e] at h;exact h
 | succ k ih=>
  intro i hk l1 l2 prog w A R s h;obtain ⟨hp,g,d,tk,os⟩:=s;obtain ⟨hl,hb,he,h⟩:=h
  wp_walk using wpAny_loadPart' hl,wpAny_loadPart' hb
  have C5:i<items.size:=by lia
  have dI:items[((i:Nat):Int).toNat]?=some items[i]:=by simp [C5]
  by_cases qE:i<items2.size
  .have bQ:items2[((i:Nat):Int).toNat]?=some items2[i]:=by simp [qE]
   have hc:((i:Int)+1)=((i+1:Nat):Int):=by push_cast;rfl
   rw [dI,bQ];obtain ⟨h1,h2⟩:=he i C5 qE 'a' 'a';rw [akH Q0 'a' 'a'] at h;refine wpAny_bind (h1 prog w _ _ ?_);cases c0:decide (xs[i]'(by lia)=ys[i]'(by lia)) with
   | true=>
    rw [c0,if_pos rfl] at h
    wp_walk
    rw [hc];exact ⟨plainId_quiet plain_eq_loop _,codeAny_builtin entry_eq_loop (by
     rw [Around.under_plainId plain_eq_loop _];exact ih (i+1) 'a' 'a' 'a' prog w A R _ ⟨hl,hb,he,h⟩)⟩
   | false=>
    rw [c0,if_neg (by decide)] at h
    wp_walk using wpAny_loadPart' hl,wpAny_loadPart' hb
    rw [dI,bQ];refine wpAny_bind (h2 prog w _ _ ?_)
    wp_walk
    exact h
  .have bQ:items2[((i:Nat):Int).toNat]?=none:=by simp;lia
   rw [dI,bQ]
   wp_walk using wpAny_loadPart' hl,wpAny_loadPart' hb
   show R (.ok (.ret (.bool (decide (items.size<items2.size))))) _;have e:decide (xs.drop i<ys.drop i)=decide (items.size<items2.size):=by
    rw [mX (as:=ys) 'a'];refine decide_eq_decide.mpr ?_;exact ⟨fun h=>absurd h (List.not_lt_nil _),fun h=>by lia⟩
   rw [e] at h;exact h
theorem akJ{α:Type}[DecidableEq α][LT α][DecidableLT α](Q0:∀ a:α,¬ a<a)(l b:Addr)(items items2:Array Value)(n n2:Nat)(dd n9:Option Addr)(sl g3:Array (Option Value))(xs ys:List α)(hx:items.size=xs.length)(hy:items2.size=ys.length) :
  Meets (Builtin.«list.__lt__» ⟨[.ref l,.ref b],[]⟩)
   (fun A R s=>s.heap.get? l=some { cls:=.type "list",dict:=dd,data:=.seq items n,slots:=sl }/\s.heap.get? b=some { cls:=.type "list",dict:=n9,data:=.seq items2 n2,slots:=g3 }/\
    (∀ j (h1:j<items.size) (h2:j<items2.size) (g1:j<xs.length) (g2:j<ys.length),EqAt A.in1 s items[j] items2[j] (decide (xs[j]=ys[j]))/\RcLt A.in1 s items[j] items2[j] (decide (xs[j]<ys[j])))/\
    R (.ok (.ret (.bool (decide (xs<ys))))) s):=by
 intro prog w A R s h;obtain ⟨hp,g,d,tk,os⟩:=s;obtain ⟨hl,hb,he,h⟩:=h;have f3:=AutoSeq1.sub_list_list
 wp_walk using wpAny_loadPart' hl,wpAny_loadPart' hb
 exact ⟨plainId_quiet plain_eq_loop _,codeAny_builtin entry_eq_loop (by
  rw [Around.under_plainId plain_eq_loop _];exact akI Q0 l b items items2 n n2 dd n9 sl g3 xs ys hx hy _ 0 rfl (G4 _) (G4 _) prog w A R _ ⟨hl,hb,he,h⟩)⟩
theorem ai5{α:Type}[DecidableEq α][LT α][DecidableLT α](Q0:∀ a:α,¬ a<a)(l b:Addr)(items items2:Array Value)(n n2:Nat)(dd n9:Option Addr)(sl g3:Array (Option Value))(xs ys:List α)(hx:items.size=xs.length)(hy:items2.size=ys.length) :
  Meets (Builtin.«tuple.__lt__» ⟨[.ref l,.ref b],[]⟩)
   (fun A R s=>s.heap.get? l=some { cls:=.type "tuple",dict:=dd,data:=.seq items n,slots:=sl }/\s.heap.get? b=some { cls:=.type "tuple",dict:=n9,data:=.seq items2 n2,slots:=g3 }/\
    (∀ j (h1:j<items.size) (h2:j<items2.size) (g1:j<xs.length) (g2:j<ys.length),EqAt A.in1 s items[j] items2[j] (decide (xs[j]=ys[j]))/\RcLt A.in1 s items[j] items2[j] (decide (xs[j]<ys[j])))/\
    R (.ok (.ret (.bool (decide (xs<ys))))) s):=
 .of_wp fun prog w A R s h=>by
  obtain ⟨hp,g,d,tk,os⟩:=s;obtain ⟨hl,hb,he,h⟩:=h;have f2:=AutoSeq1.sub_tuple_tuple;have hZ:(items.toList.zip items2.toList).length=min items.size items2.size:=by simp
  wp_walk using wpAny_loadPart' hl,wpAny_loadPart' hb,wpAny_forIn_list _ (fun rest b s'=>b.1=none/\s'=⟨hp,g,d,tk,os⟩/\∃ i,rest=(items.toList.zip items2.toList).drop i/\i<=min items.size items2.size/\
   R (.ok (.ret (.bool (decide (xs.drop i<ys.drop i))))) ⟨hp,g,d,tk,os⟩) _
  case turn=>
   rintro ⟨y,x⟩ rest b s' ⟨c0,rfl,i,hz,hi,hR⟩;have C5:i<(items.toList.zip items2.toList).length:=by
    rcases Nat.lt_or_ge i (items.toList.zip items2.toList).length with h' | h'
    .exact h'
    .rw [mW h'] at hz;cases hz
   have hm:i<min items.size items2.size:=hZ ▸ C5;have h1:i<items.size:=W2 hm (Nat.min_le_left _ _);have h2:i<items2.size:=W2 hm (Nat.min_le_right _ _);rw [bX C5] at hz
   injection hz with hyx j5
   have aD:y=items[i]:=by have:=congrArg Prod.fst hyx;simpa using this
   have hx':x=items2[i]:=by have:=congrArg Prod.snd hyx;simpa using this
   subst aD hx';rw [akH Q0 'a' 'a'] at hR;obtain ⟨q1,q2⟩:=he i h1 h2 'a' 'a';refine wpAny_bind (q1 prog w _ _ ?_);cases aD:decide (xs[i]'(by lia)=ys[i]'(by lia)) with
   | true=>
    rw [aD,if_pos rfl] at hR
    wp_walk
    exact ⟨rfl,rfl,i+1,j5,hm,hR⟩
   | false=>
    rw [aD,if_neg (by decide)] at hR;refine wpAny_ite_split (fun _=>?_) (fun Z3=>absurd rfl Z3);refine wpAny_bind (wpAny_rule ?_);refine wpAny_bind (q2 prog w _ _ ?_)
    wp_walk
    exact ⟨_,rfl,hR⟩
  case fin=>
   rintro ⟨b1,b2⟩ s' ⟨c0,rfl,i,hz,hi,hR⟩;simp only at c0;subst c0;have hge:min items.size items2.size<=i:=by
    rcases Nat.lt_or_ge i (items.toList.zip items2.toList).length with h' | h'
    .rw [bX h'] at hz;cases hz
    .exact hZ ▸ h'
   have e:decide (xs.drop i<ys.drop i)=decide (items.size<items2.size):=by
    by_cases hc:items.size<=i
    .rw [mX (as:=xs) 'a'];exact am6 hx hy 'a'
    .rw [mX (as:=ys) 'a'];refine decide_eq_decide.mpr ?_;exact ⟨fun h=>absurd h (List.not_lt_nil _),fun h=>by lia⟩
   rw [e] at hR
   wp_walk
   exact ⟨_,rfl,by simpa [Builtin.Tuple.tupleCompareSizes] using hR⟩
  case h=>
   exact ⟨rfl,rfl,0,rfl,G4 _,h⟩
section
variable {A:Around} {s:Shared}
theorem RcLt.lists{α:Type}[DecidableEq α][LT α][DecidableLT α](Q0:∀ a:α,¬ a<a){l:Addr}{xs ys:List α}(hl:s.heap.IsList l items)(hb:s.heap.IsList b items2)(hx:items.size=xs.length)(hy:items2.size=ys.length)(hu:A.units<cLine)(he:∀ j (h1:j<items.size) (h2:j<items2.size) (g1:j<xs.length) (g2:j<ys.length),EqAt A.in1 s items[j] items2[j] (decide (xs[j]=ys[j]))/\RcLt A.in1 s items[j] items2[j] (decide (xs[j]<ys[j]))):RcLt A s (.ref l) (.ref b) (decide (xs<ys)):=fun prog w E Q h=>by
 obtain ⟨⟨cls,dd,data,sl⟩,ho,hc,n,hd⟩:=id hl;obtain ⟨⟨cls2,n9,data2,g3⟩,bN,N2,n2,U1⟩:=id hb;simp only at hc hd N2 U1;subst hc hd N2 U1;exact richCompare_meets_room (op:=.Lt) ⟨_,ho,rfl⟩ ⟨_,bN,rfl⟩ F.slot_list_lt F.entry_list_lt (F.args_list_lt_2 _ _) (akJ Q0 l b items items2 n n2 dd n9 sl g3 xs ys hx hy)
  ⟨ho,bN,he,show Value.bool (decide (xs<ys))≠Value.notImplemented/\Q (.bool (decide (xs<ys))) s from ⟨(fun x=>nomatch x),h⟩⟩ hu
theorem RcLt.tuples{α:Type}[DecidableEq α][LT α][DecidableLT α](Q0:∀ a:α,¬ a<a){l:Addr}{xs ys:List α}(hl:s.heap.IsTuple l items)(hb:s.heap.IsTuple b items2)(hx:items.size=xs.length)(hy:items2.size=ys.length)(hu:A.units<cLine)(he:∀ j (h1:j<items.size) (h2:j<items2.size) (g1:j<xs.length) (g2:j<ys.length),EqAt A.in1 s items[j] items2[j] (decide (xs[j]=ys[j]))/\RcLt A.in1 s items[j] items2[j] (decide (xs[j]<ys[j]))):RcLt A s (.ref l) (.ref b) (decide (xs<ys)):=fun prog w E Q h=>by
 obtain ⟨⟨cls,dd,data,sl⟩,ho,hc,n,hd⟩:=id hl;obtain ⟨⟨cls2,n9,data2,g3⟩,bN,N2,n2,U1⟩:=id hb;simp only at hc hd N2 U1;subst hc hd N2 U1;exact richCompare_meets_room (op:=.Lt) ⟨_,ho,rfl⟩ ⟨_,bN,rfl⟩ F.slot_tuple_lt F.entry_tuple_lt (F.args_tuple_lt_2 _ _) (ai5 Q0 l b items items2 n n2 dd n9 sl g3 xs ys hx hy)
  ⟨ho,bN,he,show Value.bool (decide (xs<ys))≠Value.notImplemented/\Q (.bool (decide (xs<ys))) s from ⟨(fun x=>nomatch x),h⟩⟩ hu
theorem RcLt.int_int(a:Int)(t:Tok)(b:Int)(u:Tok):RcLt A s (.int a t) (.int b u) (decide (a<b)):=fun prog w E Q h=>PySem.P.lt_int h
end
end PySem.SeqAt
namespace L2
open PySem PySem.Spec PyProof.Rows
theorem xO{xs ys:List Int}(r1:Vals (xs.map V.int) its)(r2:Vals (ys.map V.int) its2) :
  ∀ j (h1:j<its.toArray.size) (h2:j<its2.toArray.size) (g1:j<xs.length) (g2:j<ys.length),SeqAt.EqAt A s its.toArray[j] its2.toArray[j] (decide (xs[j]=ys[j]))/\SeqAt.RcLt A s its.toArray[j] its2.toArray[j] (decide (xs[j]<ys[j])):=by
 intro j h1 h2 g1 g2;obtain ⟨t,e1⟩:=sA (rD r1) (j:=j) (z:=xs[j]) 'c';obtain ⟨u,e2⟩:=sA (rD r2) (j:=j) (z:=ys[j]) 'c';have q1:its.toArray[j]=.int xs[j] t:=by have:=(E6.mp e1).2;simpa using this
 have q2:its2.toArray[j]=.int ys[j] u:=by have:=(E6.mp e2).2;simpa using this
 rw [q1,q2];refine ⟨?_,SeqAt.RcLt.int_int _ _ _ _⟩
 have:=SeqAt.EqAt.int_int (A:=A) (s:=s) xs[j] t ys[j] u
 rwa [show (xs[j]==ys[j])=decide (xs[j]=ys[j]) by rw [Bool.beq_eq_decide_eq]] at this
noncomputable def rLtR (K:PySem.W.Frag) (a b:Addr) (H:Hp) (Q:VK):Prop:=
 (∃ xs ys:List Int,D8 K H a (xs.map V.int)/\D8 K H b (ys.map V.int)/\Q (.bl (decide (xs<ys))) H)\/
 (∃ xs ys:List Int,B1 K H a (xs.map V.int)/\B1 K H b (ys.map V.int)/\Q (.bl (decide (xs<ys))) H)\/
 ∃ (as bs:List Addr) (xs ys:List (List Int)),D8 K H a (as.map V.ref)/\D8 K H b (bs.map V.ref)/\Paired (fun c x=>B1 K H c (x.map V.int)) as xs/\Paired (fun c x=>B1 K H c (x.map V.int)) bs ys/\Q (.bl (decide (xs<ys))) H
noncomputable def rLtK (K:PySem.W.Frag):V->V->Hp->VK->Prop
 | .int i,.int j,H,Q=>Q (.bl (decide (i<j))) H
 | .str i,.str j,H,Q=>Q (.bl (decide (i.cps.toList<j.cps.toList))) H
 | .ref a,.ref b,H,Q=>rLtR K a b H Q
 | _,_,_,_=>False
theorem q_ltK(hu:X.A.units+64<cLine)(hK:X.K=K:=by rfl):QOp X (compareOp .Lt) (rLtK K):=⟨by
 subst hK;sleep 0;have u0:X.A.units<cLine:=by lia
 have u1:X.A.in1.units<cLine:=by rw [show X.A.in1.units=X.A.units+1 from rfl];lia
 have u2:X.A.in1.in1.units<cLine:=by rw [show X.A.in1.in1.units=X.A.units+2 from rfl];lia
 cases x <;> cases y <;> try exact h.elim
 .exact op_lt pins s Y H _ _ v u Q I rx ry ⟨_,_,rfl,rfl,h⟩
 .exact afW pins s Y H _ _ v u Q I rx ry ⟨_,_,rfl,rfl,h⟩
 cases rx
 cases ry
 rcases h with ⟨xs,ys,h1,h2,q⟩ | ⟨xs,ys,h1,h2,q⟩ | ⟨as,bs,xs,ys,h1,h2,p1,p2,q⟩
 .obtain ⟨its,r1,l1,_⟩:=I.list h1;obtain ⟨its2,r2,l2,_⟩:=I.list h2;have e1:=r1.length;have e2:=r2.length;rw [A6] at e1 e2;exact SeqAt.RcLt.lists eM l1.isList l2.isList (by simpa using e1.symm) (by simpa using e2.symm) u0 (xO r1 r2) _ _ _ _ ⟨.bl _,H,I,rfl,q⟩
 .obtain ⟨its,r1,l1,_⟩:=I.tuple h1;obtain ⟨its2,r2,l2,_⟩:=I.tuple h2;have e1:=r1.length;have e2:=r2.length;rw [A6] at e1 e2;exact SeqAt.RcLt.tuples eM l1 l2 (by simpa using e1.symm) (by simpa using e2.symm) u0 (xO r1 r2) _ _ _ _ ⟨.bl _,H,I,rfl,q⟩
 .obtain ⟨its,r1,l1,_⟩:=I.list h1;obtain ⟨its2,r2,l2,_⟩:=I.list h2;have e1:=r1.length;have e2:=r2.length;rw [A6] at e1 e2;have f1:=Paired.length p1;have f2:=Paired.length p2;refine SeqAt.RcLt.lists (xs:=xs) (ys:=ys) (fun a=>List.lt_irrefl a) l1.isList l2.isList (by simp;lia) (by simp;lia) u0 (fun j h1 h2 g1 g2=>?_) _ _ _ _ ⟨.bl _,H,I,rfl,q⟩;have j1:j<as.length:=by lia
  have j2:j<bs.length:=by lia
  obtain ⟨v1,w1,z1⟩:=Vals.get (i:=j) (x:=.ref as[j]) r1 (by simp [j1]);obtain ⟨v2,w2,z2⟩:=Vals.get (i:=j) (x:=.ref bs[j]) r2 (by simp [j2]);have q1:its.toArray[j]=v1:=by have:=(E6.mp w1).2;simpa using this
  have q2:its2.toArray[j]=v2:=by have:=(E6.mp w2).2;simpa using this
  rw [q1,q2];obtain ⟨x1,y1,t1⟩:=Paired.at p1 (i:=j) (a:=as[j]) (by simp [j1]);obtain ⟨x2,y2,t2⟩:=Paired.at p2 (i:=j) (a:=bs[j]) (by simp [j2]);have o1:xs[j]=x1:=(E6.mp y1).2;have o2:ys[j]=x2:=(E6.mp y2).2;rw [o1,o2]
  constructor
  .obtain ⟨c1,us1,d1⟩:=(Dn.tup t1 gR).reads I rfl z1;obtain ⟨c2,us2,d2⟩:=(Dn.tup t2 gR).reads I rfl z2
   have:=SeqAt.eqAt_reads _ _ X.A.in1 s v1 v2 _ _ d1 d2 c1 c2 (by
    have hd:∀ zs:List Int,(PyData.tuple (zs.map aR)).depth=1:=fun zs=>by rw [eK,nS]
    have ui:X.A.in1.units=X.A.units+1:=rfl;rw [hd,hd];lia)
   rwa [V0,nQ] at this
  .cases z1
   cases z2
   obtain ⟨i1,s1,m1,_⟩:=I.tuple t1;obtain ⟨i2,s2,m2,_⟩:=I.tuple t2;have k1:=s1.length;have k2:=s2.length;rw [A6] at k1 k2;exact SeqAt.RcLt.tuples eM m1 m2 (by simpa using k1.symm) (by simpa using k2.symm) u1 (xO s1 s2)⟩
section
variable {K:PySem.W.Frag} {H:Hp} {Q:VK}
theorem arA{i j:Int} : rLtK K (.int i) (.int j) H Q=Q (.bl (decide (i<j))) H:=rfl
theorem arB{i j:Str} : rLtK K (.str i) (.str j) H Q=Q (.bl (decide (i.cps.toList<j.cps.toList))) H:=rfl
theorem arC : rLtK K (.ref a) (.ref b) H Q=rLtR K a b H Q:=rfl
end
end L2
namespace L2
open PySem PySem.Spec PyProof.Rows
open PySem.Builtin
noncomputable abbrev KX:=List B3×Addr×V
noncomputable abbrev XR:List KX->List (List B3×Addr×Value)->Prop:=Paired fun p q=>p.1=q.1/\p.2.1=q.2.1/\RelV p.2.2 q.2.2
noncomputable def dxIs (P:Program) (w:World) (a:Addr) (kvs:List KX) (h:Heap):Prop:=
 kvs.length<=sizeLine/\(a==sysModules)=false/\∃ xs:List (List B3×Addr×Value),XR kvs xs/\∃ o es ep,h.get? a=some o/\o.ExactDict/\o.data=.dict es ep/\es.toList=xs.map (entryOfKey (tupleKind (N4 P w)))/\(xs.map (·.1)).Nodup
noncomputable def dX (P:Program) (w:World) (a:Addr) (kvs:List KX):HO:=.ext (dxIs P w a kvs)
noncomputable def KeysX (K:PySem.W.Frag) (H:Hp) (kvs:List KX):Prop:=∀ p∈kvs,B1 K H p.2.1 (p.1.map kV)
noncomputable def lookX (kvs:List KX) (k:List B3):Option V:=(kvs.find? fun p=>decide (p.1=k)).map (·.2.2)
theorem XR.val:∀ {kvs:List KX} {xs:List (List B3×Addr×Value)},XR kvs xs->∀ k,RelO (lookX kvs k) ((atKey xs k).map (·.2))
 | _,_,.nil,k=>True.intro
 | p::ps,q::qs,.cons ⟨h1,h2,h3⟩ t,k=>by
  by_cases e:p.1=k
  .have a:lookX (p::ps) k=some p.2.2:=by simp [lookX,Y7,e]
   have b:atKey (q::qs) k=some q.2:=by simp [atKey,Y7,h1.symm.trans e]
   rw [a,b];exact h3
  .have e':¬ q.1=k:=fun z=>e (h1.trans z)
   have a:lookX (p::ps) k=lookX ps k:=by simp [lookX,Y7,e]
   have b:atKey (q::qs) k=atKey qs k:=by simp [atKey,Y7,e']
   rw [a,b];exact XR.val t k
theorem dx_ok{P:Program}{w:World}{kvs:List KX}(x:dxIs P w a kvs h):ObjOk P w H h a (dX P w a kvs):=by
 refine ⟨x,?_,fun h1 h2 y k=>?_⟩
 .obtain ⟨_,_,_,_,o,_,_,e,_⟩:=x;exact ⟨o,e⟩
 .obtain ⟨z,d,xs,r,o,es,ep,e,c⟩:=y;exact ⟨z,d,xs,r,o,es,ep,k _ e,c⟩
section
variable {X:Cx} {pins:List (Addr×Obj)} {Y:St} {H:Hp} {s:Shared} {a b:Addr} {kvs:List KX} {k:List B3}
theorem Inv.keyS(I:Inv X pins Y H s)(e:B1 X.K H b (k.map kV)):(tupleKind (N4 X.prog X.w)).is s.heap k b:=by
 obtain ⟨its,r,⟨o,h1,h2,n,h3⟩,_⟩:=I.tuple e;exact ⟨o,its.toArray,n,h1,h2,h3,by simpa using vQ r⟩
theorem Inv.dx(I:Inv X pins Y H s)(e:H a=some (dX X.prog X.w a kvs))(hk:KeysX X.K H kvs):kvs.length<=sizeLine/\(a==sysModules)=false/\∃ xs,XR kvs xs/\s.heap.DictOfH (tupleKind (N4 X.prog X.w)) a xs:=by
 obtain ⟨⟨z,d,xs,r,o,es,ep,h1,h2,h3,h4,h5⟩,_⟩:=(show ObjOk X.prog X.w H s.heap a (dX X.prog X.w a kvs) from I.hok a _ e)
 refine ⟨z,d,xs,r,o,es,ep,h1,h2,h3,h4,fun x hx=>?_,h5⟩;obtain ⟨i,hi⟩:=mY.mp hx;have hl:=Paired.length r;have Y2:i<kvs.length:=by rw [hl];exact (E6.mp hi).1
 obtain ⟨q,hq,e1,e2,_⟩:=Paired.at r (i:=i) (a:=kvs[i]) (J5 Y2);rw [hi] at hq;cases hq
 have:=hk kvs[i] (cC Y2)
 rw [<- e1,<- e2];exact I.keyS this
end
noncomputable def am7 (P:Program) (w:World) (K:PySem.W.Frag) (td ty:TE):TE:=fun Y H Q=>td Y H fun x H1=>ty Y H1 fun y H2=>∃ a kvs b k v,x=.ref a/\H2 a=some (dX P w a kvs)/\KeysX K H2 kvs/\y=.ref b/\B1 K H2 b (k.map kV)/\lookX kvs k=some v/\Q v H2
noncomputable def rNotX (P:Program) (w:World) (K:PySem.W.Frag):R2:=fun y x H Q=>∃ a kvs b k,x=.ref a/\H a=some (dX P w a kvs)/\KeysX K H kvs/\y=.ref b/\B1 K H b (k.map kV)/\Q (.bl (!(lookX kvs k).isSome)) H
noncomputable def am8 (P:Program) (w:World) (K:PySem.W.Frag) (td ty tv:TE):TS:=fun D Y H=>tv Y H fun v H1=>td Y H1 fun x H2=>ty Y H2 fun y H3=>∃ a kvs b k,x=.ref a/\H3 a=some (dX P w a kvs)/\KeysX K H3 kvs/\y=.ref b/\B1 K H3 b (k.map kV)/\lookX kvs k=none/\kvs.length<sizeLine/\D.nx Y (A0 H3 a (dX P w a (kvs++[(k,b,v)])))
noncomputable def am9 (P:Program) (w:World) (K:PySem.W.Frag) (tk tv:TE):TE:=fun Y H Q=>∀ p,H p=none->tk Y (A0 H p (dX P w p [])) fun x H1=>tv Y H1 fun y H2=>H2 p=some (dX P w p [])/\∃ b k,x=.ref b/\B1 K H2 b (k.map kV)/\Q (.ref p) (A0 H2 p (dX P w p [(k,b,y)]))
section
variable {X:Cx} {o i value:Expr} {to ti tv:TE} {pos pos':Pos} {P:Program} {w:World} {K:PySem.W.Frag}
theorem amu(hu:X.A.units+1<cLine)(ho:QE X o to)(hi:QE X i ti)(hP:X.prog=P:=by rfl)(hw:X.w=w:=by rfl)(hK:X.K=K:=by rfl)(hs:NoSl i:=by exact fun _ _=>rfl):QE X (.Subscript o i pos) (am7 P w K to ti):=⟨by
 subst hP hw hK;sleep 1;refine vS PySem.F.slot_dict_getitem.lookup hs (A8 (ho.out pins s Y H _ I h) fun u s1 ⟨x,H1,I1,rx,q1⟩=>A8 (hi.out pins s1 Y H1 _ I1 q1) fun iv s2 ⟨y,H2,I2,ry,a,kvs,b,k,v,ex,e,hk,ey,eb,l,q2⟩=>?_);subst ex ey;obtain rfl:u=Value.ref a:=rx
 cases (show iv=Value.ref b from ry)
 obtain ⟨z,hd,xs,rel,dd⟩:=I2.dx e hk;obtain ⟨w',hw,rw'⟩:=nM (v:=v) (o:=(atKey xs k).map (·.2)) (by rw [<- l];exact rel.val k);obtain ⟨p,hp,bP⟩:=Option.map_eq_some_iff.mp hw;refine ⟨dd.typeIs,wpAny_getItem_heap (tupleKind_room_in1 hu) (I2.keyS eb) dd hp ?_⟩;rw [bP];exact ⟨v,H2,I2.tok _,rw',q2⟩⟩
theorem arD(hu:X.A.units+1<cLine)(hP:X.prog=P:=by rfl)(hw:X.w=w:=by rfl)(hK:X.K=K:=by rfl):QOp X (compareOp .NotIn) (rNotX P w K):=⟨by
 subst hP hw hK;sleep 0;obtain ⟨a,kvs,b,k,rfl,e,hk,rfl,eb,q⟩:=h;obtain rfl:u=Value.ref a:=ry
 cases (show v=Value.ref b from rx)
 obtain ⟨z,hd,xs,rel,dd⟩:=I.dx e hk;refine wpAny_notIn_heap (tupleKind_room_in1 hu) (I.keyS eb) hd dd ?_;have e2:=(rel.val k).isSome_eq;rw [kC] at e2;rw [<- e2];exact ⟨.bl _,H,I.tok _,rfl,q⟩⟩
theorem ana{kvs:List KX}{k:List B3}{r:Value}{xs:List (List B3×Addr×Value)}(I:Inv X pins Y H s)(e:H a=some (dX X.prog X.w a kvs))(hd:(a==sysModules)=false)(rel:XR kvs xs)(l:lookX kvs k=none)(hl:kvs.length<sizeLine)(rv:RelV v r)(dd:h'.DictOfH (tupleKind (N4 X.prog X.w)) a (storedH xs k b r))(hs:Heap.SameBut a s.heap h'):Inv X pins Y (A0 H a (dX X.prog X.w a (kvs++[(k,b,v)]))) { s with heap:=h',toks:=t' }:=by
 have hn:atKey xs k=none:=by
  have e2:=(rel.val k).isSome_eq;rw [kC,l] at e2;exact Option.not_isSome_iff_eq_none.mp (by rw [<- e2];simp)
 rw [storedH_new hn] at dd;obtain ⟨q,es,ep,hq,h2,h3,h4,_,h5⟩:=dd;refine rJ I (by rw [e];exact True.intro) hs ⟨q,hq⟩ (dx_ok ⟨by rw [D6];exact hl,hd,_,Paired.snoc rel ⟨rfl,rfl,rv⟩,q,es,ep,hq,h2,h3,h4,h5⟩)
theorem amv(hu:X.A.units+1<cLine)(ho:QE X o to)(hi:QE X i ti)(hv:QE X value tv)(hP:X.prog=P:=by rfl)(hw:X.w=w:=by rfl)(hK:X.K=K:=by rfl)(hs:swapsWith value (some (.Subscript o i pos')) pos.line X.env=pure false:=by rfl):QS X (.Assign [.Subscript o i pos'] value pos) (am8 P w K to ti tv):=⟨by
 subst hP hw hK;intro pins s Y H D I h;refine wpAny_Assign_Subscript (A8 (hv.out pins s Y H _ I h) fun r s1 ⟨v,H1,I1,rv,q1⟩=>A8 (ho.out pins s1 Y H1 _ I1 q1) fun u s2 ⟨x,H2,I2,rx,q2⟩=>A8 (hi.out pins s2 Y H2 _ I2 q2) fun iv s3 ⟨y,H3,I3,ry,a,kvs,b,k,ex,e,hk,ey,eb,l,hl,q3⟩=>?_) hs;subst ex ey;obtain rfl:u=Value.ref a:=rx
 cases (show iv=Value.ref b from ry)
 obtain ⟨z,hd,xs,rel,dd⟩:=I3.dx e hk;refine wpAny_setItem_heap (hsz:=by rw [<- Paired.length rel];exact z) (tupleKind_room_in1 hu) (I3.keyS eb) dd fun h' dd' hs=>⟨Y,_,ana I3 e hd rel l hl rv dd' hs,q3⟩⟩
theorem amw(hu:X.A.units+1<cLine)(hk:QE X o to)(hv:QE X value tv)(hP:X.prog=P:=by rfl)(hw:X.w=w:=by rfl)(hK:X.K=K:=by rfl):QE X (.Dict [some o] [value] pos) (am9 P w K to tv):=⟨by
 subst hP hw hK;intro pins s Y H Q I q;have hn:=I.hok.fresh (C3 s.heap.objs.size);have I1:=I.laid (a:=s.heap.objs.size) (o:=dX X.prog X.w s.heap.objs.size []) (h':=s.heap.push { cls:=.type "dict",data:=.dict #[] }) (t':=s.toks) (fun _ _ q=>Heap.get?_push_of_some _ q) (C3 _) (dx_ok ⟨G4 _,beq_eq_false_iff_ne.mpr (Ne.symm (M4 I.big)),[],.nil,_,#[],0,Heap.get?_push_size _ rfl,⟨rfl,rfl,rfl⟩,rfl,rfl,List.nodup_nil⟩);refine wpAny_Dict_any rfl rfl 'c' (by show 1<=15;decide) (pairTrees_cons_walk (A8 (hk.out pins _ Y _ _ I1 (q _ hn)) fun u s1 ⟨x,H1,I1,rx,q1⟩=>A8 (hv.out pins s1 Y H1 _ I1 q1) fun r s2 ⟨y,H2,I2,ry,e,b,k,ex,eb,q2⟩=>pairTrees_nil_walk ?_));subst ex
 cases (show u=Value.ref b from rx)
 obtain ⟨z,hd,xs,rel,dd⟩:=I2.dx e (fun _ h=>nomatch h);unfold storeAll;rw [List.forIn_cons];refine wpAny_bind (wpAny_bind (wpAny_dictSet_heap (hsz:=by rw [<- Paired.length rel];exact z) (knd:=tupleKind (N4 X.prog X.w)) (show X.A.units<cLine by lia) (I2.keyS eb) dd fun h' dd' hs=>wpAny_pure ?_))
 dsimp only
 rw [List.forIn_nil];exact wpAny_pure ⟨.ref s.heap.objs.size,_,ana (kvs:=[]) I2 e hd rel rfl (by decide) ry dd' hs,rfl,q2⟩⟩
end
theorem amx{P:Program}{w:World} : am7 P w K td ty Y H Q=td Y H fun x H1=>ty Y H1 fun y H2=>∃ a kvs b k v,x=.ref a/\H2 a=some (dX P w a kvs)/\KeysX K H2 kvs/\y=.ref b/\B1 K H2 b (k.map kV)/\lookX kvs k=some v/\Q v H2:=rfl
theorem amy{P:Program}{w:World} : am8 P w K td ty tv D Y H=tv Y H fun v H1=>td Y H1 fun x H2=>ty Y H2 fun y H3=>∃ a kvs b k,x=.ref a/\H3 a=some (dX P w a kvs)/\KeysX K H3 kvs/\y=.ref b/\B1 K H3 b (k.map kV)/\lookX kvs k=none/\kvs.length<sizeLine/\D.nx Y (A0 H3 a (dX P w a (kvs++[(k,b,v)]))):=rfl
theorem amz{P:Program}{w:World} : am9 P w K tk tv Y H Q=∀ p,H p=none->tk Y (A0 H p (dX P w p [])) fun x H1=>tv Y H1 fun y H2=>H2 p=some (dX P w p [])/\∃ b k,x=.ref b/\B1 K H2 b (k.map kV)/\Q (.ref p) (A0 H2 p (dX P w p [(k,b,y)])):=rfl
theorem arE{P:Program}{w:World} : rNotX P w K (.ref b) (.ref a) H Q=∃ kvs k,H a=some (dX P w a kvs)/\KeysX K H kvs/\B1 K H b (k.map kV)/\Q (.bl (!(lookX kvs k).isSome)) H:=
 propext ⟨fun ⟨_,kvs,_,k,e,h1,h2,e2,h3,h4⟩=>by cases e;cases e2;exact ⟨kvs,k,h1,h2,h3,h4⟩,fun ⟨kvs,k,h1,h2,h3,h4⟩=>⟨a,kvs,b,k,rfl,h1,h2,rfl,h3,h4⟩⟩
end L2
namespace L2
open PySem PySem.Spec PyProof.Rows
theorem aoK{xs ys:List Str}(r1:Vals (xs.map V.str) its)(r2:Vals (ys.map V.str) its2) :
  ∀ j (h1:j<its.toArray.size) (h2:j<its2.toArray.size) (g1:j<(xs.map fun z:Str=>z.cps.toList).length) (g2:j<(ys.map fun z:Str=>z.cps.toList).length),SeqAt.EqAt A s its.toArray[j] its2.toArray[j] (decide ((xs.map fun z:Str=>z.cps.toList)[j]=(ys.map fun z:Str=>z.cps.toList)[j]))/\SeqAt.RcLt A s its.toArray[j] its2.toArray[j] (decide ((xs.map fun z:Str=>z.cps.toList)[j]<(ys.map fun z:Str=>z.cps.toList)[j])):=by
 intro j h1 h2 g1 g2;rw [A6] at g1 g2;obtain ⟨v1,w1,t,rfl⟩:=Vals.get (i:=j) (x:=.str xs[j]) r1 (by simp [g1]);obtain ⟨v2,w2,u,rfl⟩:=Vals.get (i:=j) (x:=.str ys[j]) r2 (by simp [g2]);have q1:its.toArray[j]=.str xs[j] t:=by have:=(E6.mp w1).2;simpa using this
 have q2:its2.toArray[j]=.str ys[j] u:=by have:=(E6.mp w2).2;simpa using this
 rw [q1,q2,List.getElem_map,List.getElem_map];refine ⟨?_,fun prog w E Q h=>lt_str h⟩
 have:=SeqAt.EqAt.str_str (A:=A) (s:=s) xs[j] t ys[j] u
 rwa [show (xs[j]==ys[j])=decide (xs[j].cps.toList=ys[j].cps.toList) by
  rw [Bool.beq_eq_decide_eq];exact decide_eq_decide.mpr ⟨fun e=>by rw [e],fun e=>by
   have:xs[j].cps=ys[j].cps:=Array.toList_inj.mp e
   cases h1:xs[j];cases h2:ys[j];rw [h1,h2] at this;exact congrArg Str.mk this⟩] at this
noncomputable def rLtL (K:PySem.W.Frag) (x y:V) (H:Hp) (Q:VK):Prop:=rLtK K x y H Q\/∃ (a b:Addr) (xs ys:List Str),x=.ref a/\y=.ref b/\D8 K H a (xs.map V.str)/\D8 K H b (ys.map V.str)/\Q (.bl (decide ((xs.map fun z:Str=>z.cps.toList)<ys.map fun z:Str=>z.cps.toList))) H
theorem q_ltL(hu:X.A.units+64<cLine)(hK:X.K=K:=by rfl):QOp X (compareOp .Lt) (rLtL K):=⟨by
 sleep 0
 rcases h with h | ⟨a,b,xs,ys,rfl,rfl,h1,h2,q⟩
 .exact (q_ltK hu hK).out pins s Y H x y v u Q I rx ry h
 subst hK
 cases rx
 cases ry
 have u0:X.A.units<cLine:=by lia
 obtain ⟨its,r1,l1,_⟩:=I.list h1;obtain ⟨its2,r2,l2,_⟩:=I.list h2;have e1:=r1.length;have e2:=r2.length;rw [A6] at e1 e2;exact SeqAt.RcLt.lists (fun a=>List.lt_irrefl a) l1.isList l2.isList (by simpa using e1.symm) (by simpa using e2.symm) u0 (aoK r1 r2) _ _ _ _ ⟨.bl _,H,I,rfl,q⟩⟩
noncomputable def rNotD (K:PySem.W.Frag) (x y:V) (H:Hp) (Q:VK):Prop:=∃ (d:PyData) (ds:List PyData),Dn K H x d/\Dn K H y (.list ds)/\min (aQ ds) d.depth<=60/\Q (.bl (!(ds.any fun e=>V0 e d))) H
theorem arF(hu:X.A.units+64<cLine)(hK:X.K=K:=by rfl):QOp X (compareOp .NotIn) (rNotD K):=by
 subst hK;refine ⟨?_⟩;sleep 0;obtain ⟨d,ds,h1,h2,h3,q⟩:=h;obtain ⟨c1,as1,r1⟩:=h1.reads I rfl rx;obtain ⟨c2,qF,r2⟩:=h2.reads I rfl ry;exact SeqAt.notIn_list_reads r2 r1 c2 c1 'a' ⟨.bl _,H,I,rfl,q⟩
theorem aoL : rNotD K x y H Q=∃ (d:PyData) (ds:List PyData),Dn K H x d/\Dn K H y (.list ds)/\min (aQ ds) d.depth<=60/\Q (.bl (!(ds.any fun e=>V0 e d))) H:=rfl
end L2
open L2 in
local macro_rules | `(tactic| walk_at "rd")=>`(tactic| simp only [↓amR,↓ap_c,↓an0,↓aqU,↓alM,↓an1,↓an2,↓aqV,↓an3,↓aqW,↓aqX,↓an4,↓ap_op,↓anV,↓ap_tB,↓aqS,↓aqR,↓ap_or,↓anY,↓aqT,↓anZ,↓anX,↓ap_if,↓alL,↓ap_cb,↓an8,↓aq0,↓an9,↓aq1,↓aq2,↓ap_sl,↓ajP,↓aoa,↓aq5,↓aok,↓alQ,↓aoi,↓aoj,↓alR,↓alS,↓ap_bm,↓aq3,↓aqY,↓an6,↓an5,↓alO,↓an7,↓ap_un,↓ap_rU,↓aqZ,↓aq4,↓aob,↓aoc,↓aod,↓aoe,↓alN,↓aof,↓alP,↓aog,↓anW,aoh,aol,alT,alU,alV,↓ad_ii,↓ad_ss,↓ad_rr,↓mu_ii,↓mu_ri,↓eq_ii,↓eq_ss,↓eq_bb,↓eq_rx,↓eq_xr,↓ne_ii,↓ne_ss,↓ne_bb,↓ne_rx,↓ne_xr,↓L2.lt_ii,↓L2.lt_ss,↓le_ii,↓le_ss,↓gt_ii,↓gt_ss,↓ge_ii,↓ge_ss,↓in_xs,↓in_xr,↓sl_s,↓sl_r,↓len_s,↓len_r,↓aq6,↓all_r,↓isi_t,↓ord_s,↓ara,↓al0,amX,↓al1,↓tup_r,↓aor,↓arb,↓arc,↓aos,↓aot,↓al3,↓al4,↓aom,↓aon,↓amx,↓amy,↓amz,↓arE,↓aoL,↓aoG,↓aoJ,↓arA,↓arB,↓arC,↓arx,↓art,↓ars,↓aoC,↓ako,↓aru,↓arv,↓arw,↓any_r,↓ame,↓aoz,↓aoA,↓ari,↓aoB,↓amg,↓aou,↓al9,↓aow,↓al8,alW,agc,cxK,cxKn,cxKb,cxC,cxCn,cxCb,G0,List.map_nil,L0,Z6,Nat.sub_self,Nat.reduceAdd,Nat.reduceSub,Nat.zero_add,Nat.add_one_sub_one,List.replicate_zero,jT,M8,eE,gJ,List.getElem?_cons_zero,List.getElem?_cons_succ,List.set_cons_zero,List.set_cons_succ,Option.some.injEq,Option.join_some,Option.join_none,exists_eq_left',exists_eq_left,exists_eq',exists_eq,reduceCtorEq,false_and,and_false,exists_false,exists_const,false_or,or_false,true_and,and_true,V.str.injEq,V.int.injEq,V.bl.injEq,V.ref.injEq,V.ty.injEq,List.cons.injEq,exists_and_left,exists_and_right,and_assoc,if_true,if_false,nB,Bool.not_true,Bool.not_false,ite_true,ite_false,Int.reduceLT,Int.reduceLE,G4])
namespace K75
open PySem PySem.Spec PyProof.Rows L2
set_option maxHeartbeats 4000000
noncomputable def top (i:Nat):Stmt:=PySem.Challenge.pw_sortlore_k75_whole_never_parted.main.body.getD i (.Pass ⟨0,0,0,0⟩)
noncomputable abbrev bD:Stmt:=top 8
noncomputable abbrev g9:Stmt:=top 9
noncomputable abbrev bE:Stmt:=top 12
noncomputable abbrev R4:Stmt:=top 15
noncomputable abbrev sK:Stmt:=top 17
noncomputable abbrev oQ:Stmt:=top 27
noncomputable abbrev sL:Stmt:=top 28
noncomputable abbrev eZ:Stmt:=top 29
noncomputable abbrev t4:Stmt:=top 30
noncomputable abbrev cQ:Stmt:=top 31
noncomputable abbrev cR:Stmt:=top 32
noncomputable abbrev oR:Stmt:=top 33
noncomputable abbrev fA:Stmt:=top 34
noncomputable abbrev Q8:Stmt:=top 35
noncomputable abbrev fB:Stmt:=rG (top 36) 0
noncomputable abbrev fC:Stmt:=rG (top 36) 3
noncomputable abbrev hG:Stmt:=top 18
noncomputable abbrev cS:Stmt:=top 19
noncomputable abbrev s_cut:Stmt:=top 20
noncomputable abbrev hJ:Stmt:=rG (top 36) 4
noncomputable abbrev fD:Stmt:=rG (top 36) 5
noncomputable abbrev oS:Stmt:=top 38
noncomputable abbrev oT:Stmt:=top 39
noncomputable abbrev oU:Stmt:=top 40
noncomputable abbrev t5:Stmt:=top 41
noncomputable abbrev bF:Stmt:=top 42
noncomputable abbrev t6:Stmt:=top 44
noncomputable abbrev Z2:Stmt:=top 45
noncomputable abbrev i5:Stmt:=top 48
noncomputable abbrev x9:Stmt:=top 49
noncomputable abbrev lE:Stmt:=top 50
noncomputable abbrev hV:Stmt:=top 51
noncomputable abbrev sM:Stmt:=top 52
noncomputable abbrev sN:Stmt:=top 53
noncomputable abbrev lF:Stmt:=top 55
noncomputable abbrev i6:Stmt:=top 56
noncomputable abbrev l9:Stmt:=top 57
noncomputable abbrev lG:Stmt:=top 58
noncomputable abbrev N8:Stmt:=top 59
noncomputable abbrev oV:Stmt:=top 61
noncomputable abbrev cT:Stmt:=top 62
noncomputable abbrev lH:Stmt:=top 63
noncomputable abbrev fE:Stmt:=top 64
noncomputable abbrev m5:Stmt:=top 65
noncomputable abbrev P8:Stmt:=top 66
noncomputable abbrev R5:Stmt:=top 67
noncomputable abbrev m6:Stmt:=top 68
noncomputable abbrev cU:Stmt:=top 69
noncomputable abbrev m7:Stmt:=top 70
noncomputable abbrev X6:Stmt:=top 71
noncomputable abbrev m8:Stmt:=top 72
noncomputable abbrev s_law:Stmt:=top 73
noncomputable def visB (S:Scope) (x:Str):Bool:=decide (S.names.lookup x=some .local) || decide (S.names.lookup x=some .cell) || decide (S.names.lookup x=some .free)
theorem qvd{pos:Pos}{S:Scope}{x:Str}(hN:X.N=N)(hs:X.env.scope=S)(h:(decide (N[n]?=some x)&&visB S x && !(x==("__debug__" : Str)) && !(x==("__classdict__" : Str)))=true):QE X (.Name x pos) (tVar n):=by
 subst hN hs;simp only [visB,f8,Bool.or_eq_true,decide_eq_true_eq,nC] at h;exact qe_v h.1.1.1 (h.1.1.2.elim (fun z=>z.elim .inl fun z=>.inr (.inl z)) fun z=>.inr (.inr z)) h.1.2 h.2
theorem len1{α:Type}{F:List α->Prop}(h:∀ a,F [a]):∀ us:List α,us.length=1->F us
 | [a],_=>h a
theorem len2{α:Type}{F:List α->Prop}(h:∀ a b,F [a,b]):∀ us:List α,us.length=2->F us
 | [a,b],_=>h a b
theorem len3{α:Type}{F:List α->Prop}(h:∀ a b c,F [a,b,c]):∀ us:List α,us.length=3->F us
 | [a,b,c],_=>h a b c
theorem len4{α:Type}{F:List α->Prop}(h:∀ a b c d,F [a,b,c,d]):∀ us:List α,us.length=4->F us
 | [a,b,c,d],_=>h a b c d
theorem len5{α:Type}{F:List α->Prop}(h:∀ a b c d e,F [a,b,c,d,e]):∀ us:List α,us.length=5->F us
 | [a,b,c,d,e],_=>h a b c d e
theorem E7{Q:List Str}{sc:Scope}(h1:sc.kind=.function:=by rfl)(h2:sc.isCoroutine=false:=by rfl)(h3:sc.isGenerator=false:=by rfl)(h4:N.Nodup:=by decide +kernel)(h5:N.take Q.length=Q:=by rfl)(h6:∀ x∈Q,sc.names.lookup x=some .local\/sc.names.lookup x=some .cell:=by decide +kernel)(h7:∀ y∈sc.names,y.2≠.free:=by decide +kernel):FnScope N Q sc:=⟨h1,h2,h3,h4,h5,h6,h7⟩
theorem V5{kn:List (Str×NameKind)}{sc:Scope}(h1:sc.kind=.function:=by rfl)(h2:∀ x∈sc.names,x.2≠.cell:=by decide +kernel)(h3:∀ x∈sc.names,x.2=.local->sc.names.lookup x.1=some .local:=by decide +kernel)(h4:∀ x∈sc.names,x.2=.free->kn.lookup x.1=some .cell\/kn.lookup x.1=some .free:=by decide +kernel)(h5:∀ x∈sc.names,x.2=.free->sc.names.lookup x.1=some .free:=by decide +kernel)(h6:N'.length=k+ixs.length:=by rfl)(h7:ixs.map (fun i=>N[i]?)=(N'.drop k).map some:=by decide +kernel)(h8:∀ x∈N'.drop k,(x,NameKind.free)∈sc.names:=by decide +kernel):CompOk N kn sc N' k ixs:=⟨h1,h2,h3,h4,h5,h6,h7,h8⟩
theorem hm(r:Room k A)(h:j<=k:=by decide):Room j A:=r.mono h
structure DF(K:PySem.W.Frag)(n:Str)(s:Stmt):Prop where
 ex:∃ (f:Addr) (oc:Value) (od:Option Addr) (kV dc pm:Value) (an:Option Addr) (cd ct:Value) (sl:Array (Option Value)),P5 K mainGlobals n=some (some (.ref f))/\K.lookup f=some ⟨oc,od,.func (U6 n n (W5 s) (V1 s) (C1 s) .none kV dc pm an cd ct),sl⟩/\Y9 K cd n=true/\W4 K (.ref f)=true
theorem df_mk{n:Str}{s:Stmt}{kV dc:Value}{sl:Array (Option Value)}(a:P5 K mainGlobals n=some (some (.ref f)))(l:K.lookup f=some ⟨oc,od,.func (U6 n n (W5 s) (V1 s) (C1 s) .none kV dc pm an cd ct),sl⟩)(c:Y9 K cd n=true)(k:W4 K (.ref f)=true):DF K n s:=⟨f,oc,od,kV,dc,pm,an,cd,ct,sl,a,l,c,k⟩
theorem DF.go{P:Program}{w:World}{base:Heap}{n:Str}{s:Stmt}(d:DF K n s)(X:K.In h)(G:h.Ns mainGlobals mg)(_:K.In base)(ok:∀ {f fd},FunD K n n s f fd->FnOk P w K mg base E1 k f fd ps sp)(hl:∀ (kV dc pm:Value) (an:Option Addr) (cd ct:Value) (us:List Value),us.length=ps.length->bindArgs (U6 n n (W5 s) (V1 s) (C1 s) .none kV dc pm an cd ct) ⟨us,[]⟩=pure (ps.zip us):=by first | exact fun _ _ _ _ _ _=>len1 fun _=>rfl | exact fun _ _ _ _ _ _=>len2 fun _ _=>rfl | exact fun _ _ _ _ _ _=>len3 fun _ _ _=>rfl | exact fun _ _ _ _ _ _=>len4 fun _ _ _ _=>rfl | exact fun _ _ _ _ _ _=>len5 fun _ _ _ _ _=>rfl):FO P w K mg base k n ps [] sp:=by
 obtain ⟨f,oc,od,kV,dc,pm,an,cd,ct,sl,a,l,c,kp⟩:=d.ex;exact ⟨_,_,ok (x3 (st:=s) l c),U9 X G a,kp,[],.all (hl kV dc pm an cd ct),.nil⟩
structure Txt(P:Program)(w:World)(K:PySem.W.Frag)(mg:Str->Option Value)(C:Addr):Prop where
 cl:Cls K C
 na_figures:NoAttr K C "figures"
 na_behind:NoAttr K C "behind"
 na_jobs:NoAttr K C "jobs"
 na_letter_line:NoAttr K C "letter_line"
 na_mark_line:NoAttr K C "mark_line"
 na_made:NoAttr K C "made"
 b_any:mg "any"=none
 b_dict:mg "dict"=none
 b_enumerate:mg "enumerate"=none
 b_int:mg "int"=none
 b_len:mg "len"=none
 b_list:mg "list"=none
 b_min:mg "min"=none
 b_range:mg "range"=none
 b_reversed:mg "reversed"=none
 b_tuple:mg "tuple"=none
 b_zip:mg "zip"=none
 g_MARK:∃ t,mg "MARK"=some (.int 0 t)
 g_LETTER:∃ t,mg "LETTER"=some (.int 2 t)
 g_FIGURES:∃ t,mg "FIGURES"=some (.int 1 t)
 x_JOBS:∃ a,mg "JOBS"=some (.ref a)/\ModD P w K a [((Sum.inr ("row" : Str):B3),V.str "letter"),((Sum.inr ("marks" : Str):B3),V.str "mark"),((Sum.inr ("great" : Str):B3),V.str "great"),((Sum.inr ("as" : Str):B3),V.str "as"),((Sum.inr ("over" : Str):B3),V.str "over")]
 x_AGAIN:∃ a,mg "AGAIN"=some (.ref a)/\∀ H:Hp,B1 K H a [V.str "letter",V.str "mark",V.str "over"]
 x_START:∃ a,mg "START"=some (.ref a)/\∀ H:Hp,B1 K H a [V.int 0,V.int 0,V.int 0,V.int 0]
theorem aic{α:Type} : ∀ {l:List (Str×α)} {p:Str} {j:α},(l.map (·.1)).Nodup->(p,j)∈l->l.lookup p=some j
 | [],_,_,_,h=>by cases h
 | (y,t)::l,p,j,nd,h=>by
  rw [G0,W1] at nd;rw [List.lookup_cons]
  rcases L4.mp h with h | h
  .obtain ⟨rfl,rfl⟩:=Prod.mk.inj h
   simp
  .have:p≠y:=fun e=>nd.1 (D7.mpr ⟨_,h,e⟩)
   have e:(p==y)=false:=by simpa using this
   rw [e];exact aic nd.2 h
theorem aoM(ls:List Str)(R:List Rl):C6 ((("row" : Str),ls)::R)=(ls.map fun p=>(p,("letter" : Str)))++C6 R:=by
 rw [oI,bA.2.2 (.inl rfl)];rfl
theorem akK(ls:List Str)(R:List Rl):C6 ((("marks" : Str),ls)::R)=(ls.map fun p=>(p,("mark" : Str)))++C6 R:=by
 rw [oI,bA.2.2 (.inr (.inl rfl))];rfl
theorem SG_nd:SG.Nodup:=by decide +kernel
theorem wD:SG.length=93:=by decide +kernel
theorem rw_ne{w u:Str}(n:u≠w):rowsW ((u,zs)::R) w=rowsW R w:=by
 unfold rowsW;rw [jS (by simpa using n)]
theorem rw_eq{w:Str} : rowsW ((w,zs)::R) w=zs::rowsW R w:=by
 unfold rowsW;rw [jR 'c'];rfl
theorem xP{d:Value}(h:(us++[d]).length=4):∃ u1 u2 u3,us=[u1,u2,u3]:=by
 match us,h with
 | [a,b,c],_=>exact ⟨a,b,c,rfl⟩
 | [],h=>simp at h
 | [_],h=>simp at h
 | [_,_],h=>simp at h
 | _::_::_::_::r,h=>simp at h
theorem xQ(h:(us++[]).length=4):∃ u1 u2 u3 u4,us=[u1,u2,u3,u4]:=by
 match us,h with
 | [a,b,c,d],_=>exact ⟨a,b,c,d,rfl⟩
 | [],h=>simp at h
 | [_],h=>simp at h
 | [_,_],h=>simp at h
 | [_,_,_],h=>simp at h
 | _::_::_::_::_::r,h=>simp at h
inductive LvD where
 | tt (xs:List (List Int))
 | ii (xs:List Int)
 | ss (z:Str)
deriving DecidableEq
noncomputable def LvD.kind:LvD->Nat
 | .tt _=>0
 | .ii _=>1
 | .ss _=>2
noncomputable def LvD.lt:LvD->LvD->Bool
 | .tt xs,.tt ys=>decide (xs<ys)
 | .ii xs,.ii ys=>decide (xs<ys)
 | .ss x,.ss y=>decide (x.cps.toList<y.cps.toList)
 | _,_=>false
noncomputable def LvAt (H:Hp) (v:V):LvD->Prop
 | .tt xs=>∃ (a:Addr) (as:List Addr),v=.ref a/\H a=some (.lst (as.map V.ref))/\Paired (fun c (x:List Int)=>H c=some (.tup (x.map V.int))) as xs
 | .ii xs=>∃ a:Addr,v=.ref a/\H a=some (.lst (xs.map V.int))
 | .ss z=>v=.str z
theorem LvAt.same{d:LvD}(h:LvAt H v d)(S:Same H H'):LvAt H' v d:=by
 cases d with
 | tt xs=>obtain ⟨a,as,e,h1,h2⟩:=h;exact ⟨a,as,e,S _ _ h1,O6 h2 fun _ _ e=>S _ _ e⟩
 | ii xs=>obtain ⟨a,e,h1⟩:=h;exact ⟨a,e,S _ _ h1⟩
 | ss z=>exact h
theorem xR : ∀ {as:List Addr} {xs:List (List Int)},Paired (fun c (x:List Int)=>H c=some (.tup (x.map V.int))) as xs->DnAll K H (as.map V.ref) (xs.map fun x=>PyData.tuple (x.map aR))
 | _,_,.nil=>.nil
 | _,_,.cons h t=>.cons (.tup (.of h) gR) (xR t)
theorem aid:∀ xs ys:List (List Int),Z8 (xs.map fun x=>PyData.tuple (x.map aR)) (ys.map fun x=>PyData.tuple (x.map aR))=decide (xs=ys)
 | [],[]=>by simp [Z8]
 | [],_::_=>by simp [Z8]
 | _::_,[]=>by simp [Z8]
 | x::xs,y::ys=>by
  rw [G0,G0,Z8,V0,nQ,aid xs ys,kA]
  simp
theorem aie:∀ xs:List (List Int),aQ (xs.map fun x=>PyData.tuple (x.map aR))<=1
 | []=>G4 _
 | x::xs=>by
  rw [G0,aQ,eK,nS]
  have:=aie xs
  lia
theorem LvAt.ne{d d':LvD}(h:LvAt H v d)(h':LvAt H v' d')(hk:d.kind=d'.kind)(q:Q (.bl (!decide (d=d'))) H):rNeU K v v' H Q:=by
 cases d with
 | tt xs=>cases d' with
  | tt ys=>
   obtain ⟨a,as,rfl,h1,h2⟩:=h;obtain ⟨b,bs,rfl,h3,h4⟩:=h';refine ⟨_,_,.lst (.of h1) (xR h2),.lst (.of h3) (xR h4),?_,?_⟩
   .have:=aie xs
    rw [eK];lia
   .rw [V0,aid,show decide (xs=ys)=decide (LvD.tt xs=LvD.tt ys) by simp];exact q
  | _=>cases hk
 | ii xs=>cases d' with
  | ii ys=>
   obtain ⟨a,rfl,h1⟩:=h;obtain ⟨b,rfl,h3⟩:=h';refine ⟨_,_,.lst (.of h1) gR,.lst (.of h3) gR,by rw [eK,nS];lia,?_⟩;rw [V0,nQ,show decide (xs=ys)=decide (LvD.ii xs=LvD.ii ys) by simp];exact q
  | _=>cases hk
 | ss x=>cases d' with
  | ss y=>
   cases h;cases h';show Q (.bl (!decide (x=y))) H;rw [show decide (x=y)=decide (LvD.ss x=LvD.ss y) by simp];exact q
  | _=>cases hk
theorem LvAt.lt{d d':LvD}(h:LvAt H v d)(h':LvAt H v' d')(hk:d.kind=d'.kind)(q:Q (.bl (d.lt d')) H):rLtK K v v' H Q:=by
 cases d with
 | tt xs=>cases d' with
  | tt ys=>
   obtain ⟨a,as,rfl,h1,h2⟩:=h;obtain ⟨b,bs,rfl,h3,h4⟩:=h';exact .inr (.inr ⟨as,bs,xs,ys,.of h1,.of h3,O6 h2 fun _ _ e=>.of e,O6 h4 fun _ _ e=>.of e,q⟩)
  | _=>cases hk
 | ii xs=>cases d' with
  | ii ys=>
   obtain ⟨a,rfl,h1⟩:=h;obtain ⟨b,rfl,h3⟩:=h';exact .inl ⟨xs,ys,.of h1,.of h3,q⟩
  | _=>cases hk
 | ss x=>cases d' with
  | ss y=>cases h;cases h';exact q
  | _=>cases hk
theorem ad8 : ∀ {es:List (Addr×Addr)} {U:List G9},Paired (fun e (u:G9)=>H1 e.1=some (.tup [.int u.1,.int u.2.1,.ref e.2,.int u.2.2.2])/\H1 e.2=some (.tup (u.2.2.1.map V.int))) es U->Paired (fun c (x:List Int)=>H1 c=some (.tup (x.map V.int))) (es.map (·.2)) (U.map fun u=>u.2.2.1)
 | _,_,.nil=>.nil
 | _,_,.cons h t=>.cons h.2 (ad8 t)
noncomputable def i7 (b:Bool) (U:List G9) (z:Str):List LvD:=[.tt (U.map fun u=>[u.1,u.2.1]),.tt ((if b=true then U.reverse else U).map fun u=>u.2.2.1),.ii (U.map fun u=>u.2.2.2),.ss z]
noncomputable def IsLooks (H:Hp) (l:Addr) (ds:List LvD):Prop:=∃ vs:List V,H l=some (.lst vs)/\Paired (LvAt H) vs ds
theorem IsLooks.same{l:Addr}{ds:List LvD}(h:IsLooks H l ds)(S:Same H H'):IsLooks H' l ds:=
 let ⟨vs,h1,h2⟩:=h
 ⟨vs,S _ _ h1,O6 h2 fun _ _ e=>e.same S⟩
noncomputable def cmpD (d d':LvD):Int:=if d=d' then 0 else if d.lt d'=true then -1 else 1
noncomputable def cmpF (n:Nat) (ds ds':List LvD):Int:=(((Z7 cmpD ds ds').take n).find? fun v=>v≠0).getD 0
noncomputable def akL (C:Addr):Sp:=fun vs H Q _=>∃ (x j ll ml md:Addr) (z:Str) (g:Str->Str) (R:List Rl) (L M:List Str),vs=[.ref x,.str z]/\IsOrd C H x j ll ml md g R L M/\(G6 R).length<=1000/\z.length<=500/\bB (hasW R "figures") (G6 R) z/\(∀ y,(stepY R L M y).length<=15)/\
 ∀ l H',H l=none->Same H H'->IsLooks H' l (i7 (hasW R "behind") (Q7 (stepY R L M) (cutF (hasW R "figures") (G6 R) z.cps.toList).2) z)->Q (.ref l) H'
noncomputable def i8 (R:List Rl) (L M:List Str) (z:Str):List LvD:=i7 (hasW R "behind") (Q7 (stepY R L M) (cutF (hasW R "figures") (G6 R) z.cps.toList).2) z
noncomputable def hX (C:Addr):Sp:=fun vs H Q _=>∃ (x j ll ml md:Addr) (z z':Str) (n:Nat) (g:Str->Str) (R:List Rl) (L M:List Str),vs=[.ref x,.str z,.str z',.int n]/\n<=4/\IsOrd C H x j ll ml md g R L M/\(G6 R).length<=1000/\z.length<=500/\z'.length<=500/\bB (hasW R "figures") (G6 R) z/\bB (hasW R "figures") (G6 R) z'/\(∀ y,(stepY R L M y).length<=15)/\
 ∀ H',Same H H'->Q (.int (cmpF n (i8 R L M z) (i8 R L M z'))) H'
theorem ahi(b b':Bool)(U U':List G9)(z z':Str)(i:Nat)(d d':LvD)(h:(i7 b U z)[i]?=some d)(h':(i7 b' U' z')[i]?=some d'):d.kind=d'.kind:=by
 match i with
 | 0=>cases h;cases h';rfl
 | 1=>cases h;cases h';rfl
 | 2=>cases h;cases h';rfl
 | 3=>cases h;cases h';rfl
 | i+4=>simp [i7] at h
theorem amA{ds ds':List LvD}{d d':LvD}(hi:i<n)(h:ds[i]?=some d)(h':ds'[i]?=some d')(bR:∀ k<i,ds[k]?=ds'[k]?)(G8:d≠d'):cmpF n ds ds'=cmpD d d':=by
 have hz:(Z7 cmpD ds ds')[i]?=some (cmpD d d'):=by rw [List.getElem?_zipWith,h,h']
 have hc:cmpD d d'≠0:=by
  unfold cmpD;rw [if_neg G8]
  split <;> decide
 have h0:∀ v∈(Z7 cmpD ds ds').take i,v=0:=by
  intro v hv;obtain ⟨k,hk,e⟩:=jQ.mp hv;have hk1:k<i:=by lia
  have e2:(Z7 cmpD ds ds')[k]?=some v:=by rw [J5 'a',e]
  rw [List.getElem?_zipWith,bR k hk1] at e2
  cases q:ds'[k]? with
  | none=>rw [q] at e2;cases e2
  | some x=>
   rw [q] at e2
   have:cmpD x x=v:=by simpa using e2
   rw [<- this];exact if_pos rfl
 unfold cmpF;have e3:(Z7 cmpD ds ds').take n=(Z7 cmpD ds ds').take i++(cmpD d d'::((Z7 cmpD ds ds').take n).drop (i+1)):=by
  have hl:i<((Z7 cmpD ds ds').take n).length:=by
   have:=(E6.mp hz).1
   rw [F7];lia
  have e4:=e8 i ((Z7 cmpD ds ds').take n);rw [List.take_take,cE (Nat.le_of_lt hi)] at e4
  conv=>lhs;rw [<- e4]
  rw [bX hl]
  have:((Z7 cmpD ds ds').take n)[i]=cmpD d d':=by
   rw [List.getElem_take];exact (E6.mp hz).2
  rw [this]
 rw [e3,List.find?_append,aM.mpr (fun v hv=>by simp [h0 v hv])];simp [hc]
theorem akM{ds ds':List LvD}(bR:∀ k<n,ds[k]?=ds'[k]?):cmpF n ds ds'=0:=by
 unfold cmpF
 have:((Z7 cmpD ds ds').take n).find? (fun v=>v≠0)=none:=aM.mpr fun v hv=>by
  obtain ⟨k,hk,e⟩:=jQ.mp hv;have e2:(Z7 cmpD ds ds')[k]?=some v:=by rw [J5 'a',e]
  rw [List.getElem?_zipWith,bR k 'a'] at e2
  cases q:ds'[k]? with
  | none=>rw [q] at e2;cases e2
  | some x=>
   rw [q] at e2
   have:cmpD x x=v:=by simpa using e2
   rw [<- this];simp [cmpD]
 rw [this];rfl
theorem aoN(h:(us++[]).length=5):∃ u1 u2 u3 u4 u5,us=[u1,u2,u3,u4,u5]:=by
 match us,h with
 | [a,b,c,d,e],_=>exact ⟨a,b,c,d,e,rfl⟩
 | [],h=>simp at h
 | [_],h=>simp at h
 | [_,_],h=>simp at h
 | [_,_,_],h=>simp at h
 | [_,_,_,_],h=>simp at h
 | _::_::_::_::_::_::r,h=>simp at h
theorem amB{d:Value}(h:(us++[d]).length=5):∃ u1 u2 u3 u4,us=[u1,u2,u3,u4]:=by
 match us,h with
 | [a,b,c,d],_=>exact ⟨a,b,c,d,rfl⟩
 | [],h=>simp at h
 | [_],h=>simp at h
 | [_,_],h=>simp at h
 | [_,_,_],h=>simp at h
 | _::_::_::_::_::r,h=>simp at h
noncomputable abbrev Rm:=Int×Int×Int×Int
noncomputable def V6 (r:Rm):List V:=[.int r.1,.int r.2.1,.int r.2.2.1,.int r.2.2.2]
noncomputable def N9 (r:Rm):List B3:=[.inl r.1,.inl r.2.1,.inl r.2.2.1,.inl r.2.2.2]
theorem akN{r s:Rm}(h:N9 r=N9 s):r=s:=by
 obtain ⟨a,b,c,d⟩:=r;obtain ⟨a',b',c',d'⟩:=s;simp only [N9,List.cons.injEq,Sum.inl.injEq,and_true] at h;obtain ⟨rfl,rfl,rfl,rfl⟩:=h;rfl
theorem fF(e:Same H H')(h:B1 K H a xs):B1 K H' a xs:=by
 rcases h with (h | ⟨o,h⟩) | h
 .exact .inl (.inl (e _ _ h))
 .exact .inl (.inr ⟨o,e _ _ h⟩)
 .exact .inr h
structure OrdC(C:Addr)(H:Hp)(x:Addr)(R:List Rl)(L M:List Str):Prop where
 ex:∃ j ll ml md,IsOrd C H x j ll ml md (oM R) R L M
 kn:(G6 R).length<=1000
 st:∀ y,(stepY R L M y).length<=15
theorem OrdC.same{x:Addr}(h:OrdC C H x R L M)(S:Same H H'):OrdC C H' x R L M:=
 let ⟨j,ll,ml,md,o⟩:=h.ex
 ⟨⟨j,ll,ml,md,o.same S⟩,h.kn,h.st⟩
noncomputable def t7 (R:List Rl) (z:Str):Prop:=z.length<=500/\bB (hasW R "figures") (G6 R) z
noncomputable def difF (n:Nat) (f:Nat->Int):Int×Int:=match (U8 n).find? fun i=>f (i+1)≠0 with
 | some i=>(((i+1:Nat):Int),f (i+1))
 | none=>(0,0)
noncomputable def difR (R:List Rl) (L M:List Str) (n:Nat) (z z':Str):Int×Int:=difF n fun l=>cmpF l (i8 R L M z) (i8 R L M z')
theorem xS{f:Nat->Int}(hi:i<n)(h0:∀ k<i,f (k+1)=0)(h:f (i+1)≠0):difF n f=(((i+1:Nat):Int),f (i+1)):=by
 have e:(U8 n).find? (fun i=>f (i+1)≠0)=some i:=by
  rw [List.find?_eq_some_iff_append];refine ⟨by simpa using h,U8 i,List.range' (i+1) (n-(i+1)),?_,fun a ha=>by simpa using h0 a (k6.mp ha)⟩;have e1:i::List.range' (i+1) (n-(i+1))=List.range' i (n-i):=by rw [show n-i=(n-(i+1))+1 by lia,List.range'_succ]
  rw [e1,List.range_eq_range',List.range_eq_range',show List.range' i (n-i)=List.range' (0+i) (n-i) by rw [Nat.zero_add],List.range'_append_1,show i+(n-i)=n by lia]
 unfold difF;rw [e]
theorem xT{f:Nat->Int}(h0:∀ k<n,f (k+1)=0):difF n f=(0,0):=by
 have e:(U8 n).find? (fun i=>f (i+1)≠0)=none:=aM.mpr fun a ha=>by simpa using h0 a (k6.mp ha)
 unfold difF;rw [e]
noncomputable def spDif (C:Addr):Sp:=fun vs H Q _=>∃ (x:Addr) (z z':Str) (n:Nat) (R:List Rl) (L M:List Str),vs=[.ref x,.str z,.str z',.int n]/\n<=4/\OrdC C H x R L M/\t7 R z/\t7 R z'/\
 ∀ t H',H t=none->Same H H'->H' t=some (.tup [.int (difR R L M n z z').1,.int (difR R L M n z z').2])->Q (.ref t) H'
noncomputable def join4 (p q:Int×Int):Rm:=(p.1,p.2,q.1,q.2)
noncomputable def sO (C:Addr):Sp:=fun vs H Q _=>∃ (x y:Addr) (z z':Str) (n:Nat) (R R':List Rl) (L M L' M':List Str),vs=[.ref x,.ref y,.str z,.str z',.int n]/\n<=4/\OrdC C H x R L M/\OrdC C H y R' L' M'/\t7 R z/\t7 R z'/\t7 R' z/\t7 R' z'/\
 ∀ t H',H t=none->Same H H'->H' t=some (.tup (V6 (join4 (difR R L M n z z') (difR R' L' M' n z z'))))->Q (.ref t) H'
noncomputable def bG (b:Bool) (s a:Int×Int):Int×Int:=if a.1=0 then s else if s.1=0\/a.1<s.1 then a else if s.1=a.1/\a.1=2/\b=true then a else s
noncomputable def O0 (s:Int×Int):List V:=[.int s.1,.int s.2]
noncomputable def aig (K:PySem.W.Frag) (C:Addr):Sp:=fun vs H Q _=>∃ (x p q:Addr) (s a:Int×Int) (R:List Rl) (L M:List Str),vs=[.ref x,.ref p,.ref q]/\OrdC C H x R L M/\B1 K H p (O0 s)/\B1 K H q (O0 a)/\
 ∀ t,B1 K H t (O0 (bG (hasW R "behind") s a))->Q (.ref t) H
noncomputable def O9 (b b':Bool) (r d:Rm):Rm:=join4 (bG b (r.1,r.2.1) (d.1,d.2.1)) (bG b' (r.2.2.1,r.2.2.2) (d.2.2.1,d.2.2.2))
noncomputable def anb (K:PySem.W.Frag) (C:Addr):Sp:=fun vs H Q _=>∃ (x y p q:Addr) (r d:Rm) (R R':List Rl) (L M L' M':List Str),vs=[.ref x,.ref y,.ref p,.ref q]/\OrdC C H x R L M/\OrdC C H y R' L' M'/\B1 K H p (V6 r)/\B1 K H q (V6 d)/\
 ∀ t H',H t=none->Same H H'->H' t=some (.tup (V6 (O9 (hasW R "behind") (hasW R' "behind") r d)))->Q (.ref t) H'
noncomputable def i9 (r:Rm):Bool:=!decide (r.2.1=r.2.2.2)
noncomputable def t8 (r:Rm):Bool:=!decide (decide (r.1=1)=decide (r.2.2.1=1))
noncomputable def spOt (K:PySem.W.Frag) (f:Rm->Bool):Sp:=fun vs H Q _=>∃ (p:Addr) (r:Rm),vs=[.ref p]/\B1 K H p (V6 r)/\Q (.bl (f r)) H
noncomputable def letN (ss:List Tr):Nat:=(ss.filter fun s=>s.1=2).length
noncomputable def fG (R:List Rl) (L M:List Str) (z:Str):Bool:=decide (letN (stepF R L M z)=1)
noncomputable def anc (C:Addr):Sp:=fun vs H Q _=>∃ (x:Addr) (z:Str) (R:List Rl) (L M:List Str),vs=[.ref x,.str z]/\OrdC C H x R L M/\(stepF R L M z).length<=15/\∀ H',Same H H'->Q (.bl (fG R L M z)) H'
noncomputable abbrev Mv:=Str×Str×Rm
noncomputable def IsMv (H:Hp) (l:Addr) (ms:List Mv):Prop:=∃ as:List Addr,H l=some (.lst (as.map V.ref))/\Paired (fun a (m:Mv)=>∃ d,H a=some (.tup [.str m.1,.str m.2.1,.ref d])/\H d=some (.tup (V6 m.2.2))) as ms
theorem IsMv.same{l:Addr}{ms:List Mv}(h:IsMv H l ms)(S:Same H H'):IsMv H' l ms:=
 let ⟨as,h1,h2⟩:=h
 ⟨as,S _ _ h1,O6 h2 fun _ _ ⟨d,e1,e2⟩=>⟨d,S _ _ e1,S _ _ e2⟩⟩
theorem IsMv.put{t d:Addr}{as:List Addr}{ms:List Mv}{m:Mv}(h1:H t=some (.lst (as.map V.ref)))(h2:Paired (fun a (m:Mv)=>∃ d,H a=some (.tup [.str m.1,.str m.2.1,.ref d])/\H d=some (.tup (V6 m.2.2))) as ms)(ha:H a=some (.tup [.str m.1,.str m.2.1,.ref d]))(hd:H d=some (.tup (V6 m.2.2))) :
  IsMv (A0 H t (.lst (as.map V.ref++[V.ref a]))) t (ms++[m]):=by
 have ne:∀ {c xs},H c=some (.tup xs)->A0 H t (.lst (as.map V.ref++[V.ref a])) c=some (.tup xs):=fun {c xs} e=>by rw [A7 (ne_of e h1 (fun z=>by cases z))];exact e
 exact ⟨as++[a],by rw [A3,D0];rfl,Paired.snoc (O6 h2 fun _ _ ⟨d,e1,e2⟩=>⟨d,ne e1,ne e2⟩) ⟨d,ne ha,ne hd⟩⟩
noncomputable def mvsF (R:List Rl) (L M:List Str) (R':List Rl) (L' M':List Str) (n:Nat) (zs:List Str):List Mv:=zs.flatMap fun x=>zs.map fun y=>(x,y,join4 (difR R L M n x y) (difR R' L' M' n x y))
noncomputable def spMvs (C:Addr):Sp:=fun vs H Q _=>∃ (x y l:Addr) (zs:List Str) (n:Nat) (R R':List Rl) (L M L' M':List Str),vs=[.ref x,.ref y,.ref l,.int n]/\n<=4/\OrdC C H x R L M/\OrdC C H y R' L' M'/\H l=some (.lst (zs.map V.str))/\zs.length<=10/\(∀ z∈zs,t7 R z/\t7 R' z)/\
 ∀ t H',H t=none->Same H H'->IsMv H' t (mvsF R L M R' L' M' n zs)->Q (.ref t) H'
noncomputable def iA (z:Str) (r:Rm) (u v:Str):Str×Str:=if r.2.1<0 then (u++z,v) else (u,v++z)
noncomputable def cat2 (zs:List Str):List Str:=zs.flatMap fun a=>zs.map fun b=>a++b
noncomputable def chkF (R:List Rl) (L M:List Str) (R':List Rl) (L' M':List Str) (zs:List Str):Option Str:=(zs.find? fun z=>!fG R L M z || !fG R' L' M' z).or ((cat2 zs).find? fun t=>decide (t∈G6 R) || decide (t∈G6 R'))
noncomputable def spChk (C:Addr):Sp:=fun vs H Q _=>∃ (x y l:Addr) (zs:List Str) (R R':List Rl) (L M L' M':List Str),vs=[.ref x,.ref y,.ref l]/\OrdC C H x R L M/\OrdC C H y R' L' M'/\H l=some (.lst (zs.map V.str))/\(∀ z∈zs,z.length<=100/\(stepF R L M z).length<=15/\(stepF R' L' M' z).length<=15)/\chkF R L M R' L' M' zs=none/\∀ H',Same H H'->Q .non H'
inductive Rch (b b':Bool) (ms:List Mv):Rm->Str->Str->Prop
 | st:Rch b b' ms (0,0,0,0) "" ""
 | go {r:Rm} {u v:Str} {m:Mv} : Rch b b' ms r u v->m∈ms->t8 r=false->i9 (O9 b b' r m.2.2)=false->Rch b b' ms (O9 b b' r m.2.2) (u++m.1) (v++m.2.1)
structure BE where
 r:Rm
 ra:Addr
 pa:Addr
 u:Str
 v:Str
structure Bst(P:Program)(w:World)(K:PySem.W.Frag)(H0 H:Hp)(d l:Addr)(es:List BE):Prop where
 same:Same H0 H
 ls:H l=some (.lst (es.map fun e=>V.ref e.ra))
 ds:H d=some (dX P w d (es.map fun e=>(N9 e.r,e.ra,V.ref e.pa)))
 rt:∀ e∈es,B1 K H e.ra (V6 e.r)
 pt:∀ e∈es,H e.pa=some (.tup [.str e.u,.str e.v])
theorem Bst.keys{P:Program}{w:World}{d l:Addr}{es:List BE}(B:Bst P w K H0 H d l es):KeysX K H (es.map fun e=>(N9 e.r,e.ra,V.ref e.pa)):=fun p hp=>by
 obtain ⟨e,he,rfl⟩:=D7.mp hp;exact B.rt e he
theorem Bst.more{P:Program}{w:World}{d l:Addr}{es:List BE}(B:Bst P w K H0 H d l es)(S:Same H H'):Bst P w K H0 H' d l es:=
 ⟨B.same.trans S,S _ _ B.ls,S _ _ B.ds,fun e he=>fF S (B.rt e he),fun e he=>S _ _ (B.pt e he)⟩
theorem akO{o o':HO}(h:B1 K H a xs)(hb:H b=some o)(hn:∀ xs,o≠.tup xs)(hf:∀ q u,o≠.frz q u):B1 K (A0 H b o') a xs:=by
 rcases h with (h | ⟨q,h⟩) | h
 .exact .inl (.inl (by rw [A7 (ne_of h hb (hn _).symm)];exact h))
 .exact .inl (.inr ⟨q,by rw [A7 (ne_of h hb (hf _ _).symm)];exact h⟩)
 .exact .inr h
theorem Bst.put{P:Program}{w:World}{d l t:Addr}{es:List BE}{r:Rm}{u v:Str}(B:Bst P w K H0 H d l es)(nd:H0 d=none)(nl:H0 l=none)(ht:B1 K H t (V6 r))(hp:H p=some (.tup [.str u,.str v])) :
  Bst P w K H0 (A0 (A0 H d (dX P w d (es.map (fun e=>(N9 e.r,e.ra,V.ref e.pa))++[(N9 r,t,V.ref p)]))) l (.lst (es.map (fun e=>V.ref e.ra)++[V.ref t]))) d l (es++[⟨r,t,p,u,v⟩]):=by
 have bS:d≠l:=ne_of B.ds B.ls (fun e=>by cases e);have dH:A0 H d (dX P w d (es.map (fun e=>(N9 e.r,e.ra,V.ref e.pa))++[(N9 r,t,V.ref p)])) l=some (.lst (es.map fun e=>V.ref e.ra)):=by rw [A7 bS.symm];exact B.ls
 have tu:∀ {c xs},H c=some (.tup xs)->A0 (A0 H d (dX P w d (es.map (fun e=>(N9 e.r,e.ra,V.ref e.pa))++[(N9 r,t,V.ref p)]))) l (.lst (es.map (fun e=>V.ref e.ra)++[V.ref t])) c=some (.tup xs):=fun {c xs} e=>by
  rw [A7 (ne_of e B.ls (fun z=>by cases z)),A7 (ne_of e B.ds (fun z=>by cases z))];exact e
 have sq:∀ {c xs},B1 K H c xs->B1 K (A0 (A0 H d (dX P w d (es.map (fun e=>(N9 e.r,e.ra,V.ref e.pa))++[(N9 r,t,V.ref p)]))) l (.lst (es.map (fun e=>V.ref e.ra)++[V.ref t]))) c xs:=fun {c xs} e=>
  akO (akO e B.ds (fun _ z=>by cases z) (fun _ _ z=>by cases z)) dH (fun _ z=>by cases z) (fun _ _ z=>by cases z)
 refine ⟨(B.same.put nd).put nl,by rw [A3,D0];rfl,by rw [A7 bS,A3,D0];rfl,fun e he=>?_,fun e he=>?_⟩
 .rcases E8.mp he with he | he
  .exact sq (B.rt e he)
  .rw [E5.mp he];exact sq ht
 .rcases E8.mp he with he | he
  .exact tu (B.pt e he)
  .rw [E5.mp he];exact tu hp
structure Bfs(b b':Bool)(ms:List Mv)(es:List BE)(n:Nat):Prop where
 nd:(es.map (·.r)).Nodup
 rc:∀ e∈es,Rch b b' ms e.r e.u e.v
 cl:∀ i<n,∀ e,es[i]?=some e->t8 e.r=false/\∀ m∈ms,i9 (O9 b b' e.r m.2.2)=false/\O9 b b' e.r m.2.2∈es.map (·.r)
 ln:∀ (i:Nat) e,es[i]?=some e->e.u.length<=i/\e.v.length<=i
 st:∃ e,es[0]?=some e/\e.r=(0,0,0,0)
theorem look_es{es:List BE}{r:Rm} : lookX (es.map fun e=>(N9 e.r,e.ra,V.ref e.pa)) (N9 r)=none↔r∉es.map (·.r):=by
 unfold lookX;rw [Option.map_eq_none_iff,aM]
 constructor
 .intro h hm;obtain ⟨e,he,rfl⟩:=D7.mp hm;exact h _ (D7.mpr ⟨e,he,rfl⟩) 'c'
 .intro h p hp;obtain ⟨e,he,rfl⟩:=D7.mp hp;intro q;exact h (D7.mpr ⟨e,he,akN (of_decide_eq_true q)⟩)
theorem akP:∀ {es:List BE} {i:Nat} {e:BE},(es.map (·.r)).Nodup->es[i]?=some e->lookX (es.map fun e=>(N9 e.r,e.ra,V.ref e.pa)) (N9 e.r)=some (V.ref e.pa)
 | [],i,e,_,h=>by simp at h
 | a::es,0,e,_,h=>by
  cases h;simp [lookX]
 | a::es,i+1,e,nd,h=>by
  rw [G0,W1] at nd;have h1:es[i]?=some e:=by simpa using h
  have ne:¬ N9 a.r=N9 e.r:=fun q=>nd.1 (by rw [akN q];exact D7.mpr ⟨e,L3 h1,rfl⟩)
  have:=akP nd.2 h1
  unfold lookX at this ⊢
  rw [G0,List.find?_cons_of_neg (by simpa using ne)];exact this
noncomputable def cV (r:Rm):Prop:=r.1∈([0,1,2,3,4]:List Int)/\r.2.1∈([-1,0,1]:List Int)/\r.2.2.1∈([0,1,2,3,4]:List Int)/\r.2.2.2∈([-1,0,1]:List Int)
noncomputable def allR:List Rm:=[0,1,2,3,4].flatMap fun a=>[-1,0,1].flatMap fun b=>[0,1,2,3,4].flatMap fun c=>[-1,0,1].map fun d=>(a,b,c,d)
theorem aoO{r:Rm}(h:cV r):r∈allR:=by
 obtain ⟨a,b,c,d⟩:=r;exact W0.mpr ⟨a,h.1,W0.mpr ⟨b,h.2.1,W0.mpr ⟨c,h.2.2.1,D7.mpr ⟨d,h.2.2.2,rfl⟩⟩⟩⟩
theorem amC(n:Nat)(ds ds':List LvD):cmpF n ds ds'∈([-1,0,1]:List Int):=by
 unfold cmpF;cases h:((Z7 cmpD ds ds').take n).find? fun v=>v≠0 with
 | none=>simp
 | some v=>
  obtain ⟨i,hi,e⟩:=k0.mp (bY (List.mem_of_find?_eq_some h));rw [List.getElem_zipWith] at e;rw [<- e];show cmpD _ _∈_;unfold cmpD
  split
  .simp
  .split <;> simp
theorem sP(hn:n<=4):(difR R L M n z z').1∈([0,1,2,3,4]:List Int)/\(difR R L M n z z').2∈([-1,0,1]:List Int):=by
 unfold difR difF
 split
 .rename_i i h
  have hi:=k6.mp (List.mem_of_find?_eq_some h);refine ⟨?_,amC _ _ _⟩
  match i,hi with
  | 0,_=>simp
  | 1,_=>simp
  | 2,_=>simp
  | 3,_=>simp
  | i+4,h=>exact absurd h 'a'
 .simp
theorem ane(b:Bool)(s a:Int×Int):bG b s a=s\/bG b s a=a:=by
 unfold bG
 split
 .exact .inl rfl
 .split
  .exact .inr rfl
  .split
   .exact .inr rfl
   .exact .inl rfl
theorem arG{b:Bool}{r d:Rm}(h:cV r)(h':cV d):cV (O9 b b' r d):=by
 obtain ⟨h1,h2,h3,h4⟩:=h;obtain ⟨k1,k2,k3,k4⟩:=h';unfold O9 join4
 rcases ane b (r.1,r.2.1) (d.1,d.2.1) with e | e <;> rcases ane b' (r.2.2.1,r.2.2.2) (d.2.2.1,d.2.2.2) with e' | e' <;> rw [e,e']
 .exact ⟨h1,h2,h3,h4⟩
 .exact ⟨h1,h2,k3,k4⟩
 .exact ⟨k1,k2,h3,h4⟩
 .exact ⟨k1,k2,k3,k4⟩
theorem arH(hn:n<=4){m:Mv}(h:m∈mvsF R L M R' L' M' n zs):cV m.2.2/\m.1∈zs/\m.2.1∈zs:=by
 obtain ⟨x,hx,h⟩:=W0.mp h;obtain ⟨y,hy,rfl⟩:=D7.mp h;exact ⟨⟨(sP hn).1,(sP hn).2,(sP hn).1,(sP hn).2⟩,hx,hy⟩
theorem Rch.ok{b:Bool}{ms:List Mv}{r:Rm}{u v:Str}(hm:∀ m∈ms,cV m.2.2)(h:Rch b b' ms r u v):cV r:=by
 induction h with
 | st=>exact ⟨by simp,by simp,by simp,by simp⟩
 | go _ h1 _ _ ih=>exact arG ih (hm _ h1)
theorem afk:∀ {l m:List Rm},l.Nodup->(∀ x∈l,x∈m)->l.length<=m.length
 | [],_,_,_=>G4 _
 | x::l,m,nd,h=>by
  obtain ⟨n1,n2⟩:=W1.mp nd;have hx:=h x M7
  have:=afk (l:=l) (m:=m.erase x) n2 fun y hy=>(List.mem_erase_of_ne (fun e=>n1 (by rw [<- e];exact hy))).mpr (h y (O5 _ hy))
  rw [qW hx] at this
  have:0<m.length:=qX hx
  rw [L0];lia
theorem Bfs.few{b:Bool}{ms:List Mv}{es:List BE}(B:Bfs b b' ms es n)(hm:∀ m∈ms,cV m.2.2):es.length<=225:=by
 have:=afk (m:=allR) B.nd fun r hr=>by
  obtain ⟨e,he,rfl⟩:=D7.mp hr;exact aoO ((B.rc e he).ok hm)
 rw [A6] at this;exact this
theorem Rch.any{b:Bool}{ms:List Mv}{r:Rm}{u v:Str}(h:Rch b b' ms r u v)(hu:t8 r=true):∃ m,m∈ms:=by
 cases h with
 | st=>exact absurd hu (by decide)
 | go _ h1 _ _=>exact ⟨_,h1⟩
theorem y0(x y:Str):(x++y).length=x.length+y.length:=Array.size_append
theorem Bfs.put{b:Bool}{ms:List Mv}{es:List BE}{e:BE}{m:Mv}{t:Addr}(B:Bfs b b' ms es i)(he:es[i]?=some e)(hm:m∈ms)(h1:m.1.length<=1)(h2:m.2.1.length<=1)(hu:t8 e.r=false)(ho:i9 (O9 b b' e.r m.2.2)=false)(hn:O9 b b' e.r m.2.2∉es.map (·.r)) :
  Bfs b b' ms (es++[⟨O9 b b' e.r m.2.2,t,p,e.u++m.1,e.v++m.2.1⟩]) i:=by
 have hi:i<es.length:=(E6.mp he).1;refine ⟨?_,fun a ha=>?_,fun k hk a ha=>?_,fun k a ha=>?_,?_⟩
 .rw [D0];exact Z5.mpr ⟨B.nd,by simp,fun x hx y hy q=>hn (by rw [List.map_singleton,E5] at hy;have e2:O9 b b' e.r m.2.2=x:=hy.symm.trans q.symm;rw [e2];exact hx)⟩
 .rcases E8.mp ha with ha | ha
  .exact B.rc a ha
  .rw [E5.mp ha];exact (B.rc e (L3 he)).go hm hu ho
 .rw [eB 'a'] at ha;obtain ⟨c1,c2⟩:=B.cl k hk a ha;exact ⟨c1,fun m hm=>⟨(c2 m hm).1,by rw [D0];exact Q2 _ (c2 m hm).2⟩⟩
 .by_cases hk:k<es.length
  .rw [eB hk] at ha;exact B.ln k a ha
  .have jD:k=es.length:=by
    have:=(E6.mp ha).1
    rw [D6,X2] at this;lia
   rw [jD,gF (C3 _),Nat.sub_self] at ha;cases ha
   have:=B.ln i e he
   simp only [y0];lia
 .obtain ⟨a,h1,h2⟩:=B.st;exact ⟨a,by rw [eB 'a'];exact h1,h2⟩
theorem Bfs.next{b:Bool}{ms:List Mv}{es:List BE}{e:BE}(B:Bfs b b' ms es i)(he:es[i]?=some e)(hu:t8 e.r=false)(h:∀ m∈ms,i9 (O9 b b' e.r m.2.2)=false/\O9 b b' e.r m.2.2∈es.map (·.r)):Bfs b b' ms es (i+1):=
 ⟨B.nd,B.rc,fun k hk a ha=>by
  by_cases jE:k=i
  .rw [jE,he] at ha;cases ha;exact ⟨hu,h⟩
  .exact B.cl k 'a' a ha,B.ln,B.st⟩
structure BwI(P:Program)(w:World)(K:PySem.W.Frag)(H2:Hp)(x y l:Addr)(n:Nat)(mv d rl:Addr)(b b':Bool)(ms:List Mv)(i:Nat)(Y:L2.St)(H:Hp):Prop where
 ex:∃ (es:List BE) (u1 u2 u3 u4 u5 u6:Option V),Y=[some (.ref x),some (.ref y),some (.ref l),some (.int n),some (.ref mv),some (.ref d),some (.ref rl),some (.int i),u1,u2,u3,u4,u5,u6]/\Bst P w K H2 H d rl es/\Bfs b b' ms es i/\i<=es.length
noncomputable def xU (b b':Bool) (ms:List Mv) (zs:List Str) (u v:Str):Prop:=
 (∃ r u0 v0,∃ m∈ms,Rch b b' ms r u0 v0/\t8 r=false/\i9 (O9 b b' r m.2.2)=true/\u=u0++m.1/\v=v0++m.2.1)\/
 ∃ r u0 v0 z,Rch b b' ms r u0 v0/\t8 r=true/\zs.head?=some z/\(u,v)=iA z r u0 v0
noncomputable def BesR (K:PySem.W.Frag) (b b':Bool) (ms:List Mv) (zs:List Str) (Hb H:Hp) (t:Addr):Prop:=
 (∃ p u v,H t=some (.tup [.ref p,.non])/\H p=some (.tup [.str u,.str v])/\u.length<=400/\v.length<=400/\xU b b' ms zs u v)\/
 ∃ l es,H t=some (.tup [.non,.ref l])/\H l=some (.lst (es.map fun e=>V.ref e.ra))/\(∀ e∈es,B1 K H e.ra (V6 e.r))/\Bfs b b' ms es es.length/\Hb l=none
noncomputable def spBes (K:PySem.W.Frag) (C:Addr):Sp:=fun vs H Q _=>∃ (x y l:Addr) (zs:List Str) (n:Nat) (R R':List Rl) (L M L' M':List Str),vs=[.ref x,.ref y,.ref l,.int n]/\n<=4/\OrdC C H x R L M/\OrdC C H y R' L' M'/\H l=some (.lst (zs.map V.str))/\zs.length<=10/\(∀ z∈zs,z.length<=1/\(stepF R L M z).length<=15/\(stepF R' L' M' z).length<=15)/\chkF R L M R' L' M' zs=none/\(∀ z∈zs,t7 R z/\t7 R' z)/\
 ∀ t H',H t=none->Same H H'->BesR K (hasW R "behind") (hasW R' "behind") (mvsF R L M R' L' M' n zs) zs H H' t->Q (.ref t) H'
noncomputable def spLg (K:PySem.W.Frag):Sp:=fun vs H Q _=>∃ (p q:Addr) (z u v:Str) (r:Rm),vs=[.str z,.ref p,.ref q]/\B1 K H p (V6 r)/\H q=some (.tup [.str u,.str v])/\z.length<=1000/\u.length<=1000/\v.length<=1000/\
 ∀ t,H t=none->Q (.ref t) (A0 H t (.tup [.str (iA z r u v).1,.str (iA z r u v).2]))
noncomputable def V7 (w:Str) (b:Bool):List Rl:=if b=true then [(w,[])] else []
theorem aoP{w:Str}{b:Bool}{z:Rl}(h:z∈V7 w b):b=true/\z=(w,[]):=by
 unfold V7 at h
 split at h
 .exact ⟨by assumption,E5.mp h⟩
 .cases h
theorem aoQ{w:Str}{b:Bool}(hw:flagW w):C6 (V7 w b)=[]:=by
 unfold V7
 split
 .unfold C6;rw [o9,aiX hw];rfl
 .rfl
noncomputable def stepS:List Int:=[1,2,4,5,7,8,10,11,13,23,44,91]
noncomputable def y3 (n:Int):Int:=(F8 stepS (n / 93 % 12)).getD 0
theorem xV(n:Int):F8 (stepS.map V.int) (n / 93 % 12)=some (.int (y3 n))/\y3 n∈stepS:=by
 obtain ⟨v,h1,h2⟩:=wB (xs:=stepS) (i:=n / 93 % 12) 'a' (by show _<((12:Nat):Int);lia);have e:y3 n=v:=by unfold y3;rw [h1];rfl
 rw [e];refine ⟨?_,h2⟩;obtain ⟨j,hj⟩:∃ j:Nat,n / 93 % 12=(j:Int):=⟨(n / 93 % 12).toNat,by lia⟩
 rw [hj] at h1 ⊢
 have:=nG (n / 93) (show (0:Int)<12 by decide)
 have hl:j<stepS.length:=by show j<12;lia
 have e2:=J9 (xs:=stepS) (j:=j) (v:=stepS[j]) (J5 hl);rw [e2] at h1;rw [<- Option.some.inj h1];exact J9 (by rw [R6,J5 hl];rfl)
theorem aoR(n:Int):0<y3 n/\y3 n<=91:=(show ∀ s∈stepS,0<s/\s<=91 by decide) _ (xV n).2
theorem akR:(∀ s∈stepS,∃ t∈(U8 83).map Int.ofNat,s*t % 83=1)/\∀ s∈stepS,∃ t∈(U8 93).map Int.ofNat,s*t % 93=1:=by decide +kernel
noncomputable def numF (ns:List Int) (k:Int):Int:=cellF ns k*48271 % 2147483647
noncomputable def iB (K:PySem.W.Frag):Sp:=fun vs H Q _=>∃ (a:Addr) (ns:List Int) (k:Int),vs=[.ref a,.int k]/\D8 K H a (ns.map V.int)/\0<=k/\Q (.int (numF ns k)) H
noncomputable def XRl (ls ms:List Str) (z:Rl):Prop:=(∃ b f,b∈ls/\z=(("great" : Str),[b,f]))\/∃ p b qs,b∈ls/\(∀ q∈qs,q∈ms)/\qs.length<=3/\z=(("as" : Str),p::b::qs)
noncomputable def cW (z:Rl):Str:=if z.1=("great" : Str) then z.2.getD 1 "" else z.2.headD ""
noncomputable def R8 (ls ms:List Str) (X:List Rl) (bh:Bool):List Rl:=(("marks" : Str),ms)::(X++V7 "behind" bh++[(("row" : Str),ls)])
structure Sh8(ls ms:List Str)(X:List Rl):Prop where
 xr:∀ z∈X,XRl ls ms z
 nd:(ms++(X.map cW++ls)).Nodup
 on:∀ p∈ms++(X.map cW++ls),∃ c,p=one c/\signB c=true
 l1:ls.length<=20
 m1:ms.length<=20
 x1:X.length<=20
theorem anf : ∀ {X:List Rl},(∀ z∈X,XRl ls ms z)->C6 X=X.map fun z=>(cW z,z.1)
 | [],_=>rfl
 | z::X,h=>by
  rw [oI,G0,anf fun z hz=>h z (O5 _ hz)]
  rcases h z M7 with ⟨b,f,_,rfl⟩ | ⟨p,b,qs,_,_,_,rfl⟩
  .rw [bA.1 rfl];rfl
  .rw [bA.2.1 rfl];rfl
theorem akS(A B:List Rl):C6 (A++B)=C6 A++C6 B:=by unfold C6;rw [e9]
theorem Sh8.prs{X:List Rl}(h:Sh8 ls ms X):C6 (R8 ls ms X bh)=(ms.map fun p=>(p,("mark" : Str)))++((X.map fun z=>(cW z,z.1))++ls.map fun p=>(p,("letter" : Str))):=by
 unfold R8;rw [akK,akS,akS,aoQ (.inr (.inl rfl)),aoM,anf h.xr,M8,show C6 []=[] from rfl,M8]
theorem Sh8.fst{X:List Rl}(h:Sh8 ls ms X):(C6 (R8 ls ms X bh)).map (·.1)=ms++(X.map cW++ls):=by
 rw [h.prs];simp [Function.comp_def]
theorem lI{X:List Rl}{z:Rl}(h:z∈R8 ls ms X bh):z=(("marks" : Str),ms)\/z∈X\/z=(("behind" : Str),[])\/z=(("row" : Str),ls):=by
 unfold R8 at h
 rcases L4.mp h with h | h
 .exact .inl h
 rcases E8.mp h with h | h
 .rcases E8.mp h with h | h
  .exact .inr (.inl h)
  .exact .inr (.inr (.inl (aoP h).2))
 .exact .inr (.inr (.inr (E5.mp h)))
theorem R8_in{X:List Rl}{z:Rl}(h:z∈X):z∈R8 ls ms X bh:=by
 unfold R8;exact O5 _ (Q2 _ (Q2 _ h))
theorem Sh8.w1{X:List Rl}(h:Sh8 ls ms X){z:Rl}(hz:z∈X):z.1=("great" : Str)\/z.1=("as" : Str):=by
 rcases h.xr z hz with ⟨b,f,_,rfl⟩ | ⟨p,b,qs,_,_,_,rfl⟩
 .exact .inl rfl
 .exact .inr rfl
theorem Sh8.rows{X:List Rl}(h:Sh8 ls ms X):rowsW (R8 ls ms X bh) "row"=[ls]/\rowsW (R8 ls ms X bh) "marks"=[ms]:=by
 have e:∀ X zy w,rowsW (X++zy) w=rowsW X w++rowsW zy w:=fun X zy w=>by unfold rowsW;rw [cA,D0]
 have e3:∀ {u w:Str} {b:Bool},u≠w->rowsW (V7 u b) w=[]:=fun {u w b} n=>by
  unfold V7 rowsW
  cases b
  .rfl
  .rw [if_pos rfl,jS (by simpa using n)];rfl
 have eX:∀ w:Str,w="row"\/w="marks"->rowsW X w=[]:=fun w hw=>by
  unfold rowsW;rw [mV.mpr]
  .rfl
  intro z hz;rw [decide_eq_true_iff];intro e
  rcases h.w1 hz with e2 | e2 <;> rcases hw with e3 | e3 <;> rw [e2,e3] at e <;> exact absurd e 'd'
 unfold R8;rw [rw_ne 'd',rw_eq,e,e,e,e,eX _ (.inl rfl),eX _ (.inr rfl),e3 'd',e3 'd',rw_eq,rw_ne 'd'];exact ⟨rfl,rfl⟩
theorem Sh8.has{X:List Rl}(h:Sh8 ls ms X):hasW (R8 ls ms X bh) "figures"=false/\hasW (R8 ls ms X bh) "behind"=bh/\hasW (R8 ls ms X bh) "blanks"=false:=by
 have eX:∀ w:Str,flagW w->hasW X w=false:=fun w hw=>by
  obtain ⟨_,_,n3,n4,_⟩:=hw.no;unfold hasW;rw [List.any_eq_false];intro z hz;rw [decide_eq_true_iff];intro e
  rcases h.w1 hz with e2 | e2 <;> rw [e] at e2
  .exact n3 e2
  .exact n4 e2
 have e3:∀ w:Str,flagW w->hasW (R8 ls ms X bh) w=(bh&&decide (("behind" : Str)=w)):=fun w hw=>by
  obtain ⟨n1,n2,_⟩:=hw.no
  have:=eX w hw
  unfold R8;unfold hasW at this ⊢
  rw [aO,List.any_append,List.any_append,this,decide_eq_false (fun h=>n2 h.symm)];unfold V7
  cases bh <;> simp [n1.symm]
 refine ⟨?_,?_,?_⟩
 .rw [e3 _ (.inl rfl),decide_eq_false 'd',Bool.and_false]
 .rw [e3 _ (.inr (.inl rfl)),decide_eq_true rfl,Bool.and_true]
 .rw [e3 _ (.inr (.inr rfl)),decide_eq_false 'd',Bool.and_false]
theorem Sh8.ndl{X:List Rl}(h:Sh8 ls ms X):ls.Nodup:=(Z5.mp (Z5.mp h.nd).2.1).2.1
theorem Sh8.ndm{X:List Rl}(h:Sh8 ls ms X):ms.Nodup:=(Z5.mp h.nd).1
theorem Sh8.good{X:List Rl}(h:Sh8 ls ms X):GoodR (oM (R8 ls ms X bh)) (ls.idxOf ·) (ms.idxOf ·) (R8 ls ms X bh):=by
 have dH:=h.l1;have fQ:=h.m1;have hx1:=h.x1;have nd:=h.nd;rw [<- h.fst (bh:=bh)] at nd;have on:=h.on;rw [<- h.fst (bh:=bh)] at on;have hB:(R8 ls ms X bh).length<=30:=by
  unfold R8 V7
  cases bh <;> simp <;> lia
 have X0:(C6 (R8 ls ms X bh)).length<=60:=by
  have:=congrArg f6 (h.fst (bh:=bh))
  rw [A6,D6,D6,A6] at this;lia
 have lt:∀ p∈ls,(p,("letter" : Str))∈C6 (R8 ls ms X bh):=fun p hp=>by rw [h.prs];exact O4 _ (O4 _ (D7.mpr ⟨p,hp,rfl⟩))
 have mk:∀ p∈ms,(p,("mark" : Str))∈C6 (R8 ls ms X bh):=fun p hp=>by rw [h.prs];exact Q2 _ (D7.mpr ⟨p,hp,rfl⟩)
 refine ⟨by lia,by lia,?_,?_,fun z hz=>?_,fun z hz hw=>?_,fun z hz hw p hp=>?_,fun z hz hw p hp=>?_,fun z hz hw p hp=>?_,?_,?_,fun e he=>?_,fun e he=>?_⟩
 .intro i p j hi;have hm:=L3 hi;obtain ⟨c,rfl,hc⟩:=on p (D7.mpr ⟨_,hm,rfl⟩);refine ⟨?_,fun hq=>?_,fun hf=>?_,by show 1<=1000;decide⟩
  .unfold oM;rw [aic nd hm];rfl
  .exfalso
   obtain ⟨⟨p',j'⟩,uD,e0⟩:=D7.mp hq;obtain ⟨m,fR,e⟩:=jQ.mp uD;obtain ⟨bQ,e2⟩:=E6.mp hi;rw [eA,List.pairwise_map,gG] at nd;refine nd m i 'a' bQ 'a' ?_;rw [e,e2];exact e0
  .rw [h.has.1] at hf;cases hf
 .intro hb;obtain ⟨c,e,hc⟩:=on _ hb;have e1:[32]=[c]:=congrArg (fun z:Str=>z.cps.toList) e;rw [<- List.singleton_inj.mp e1] at hc;exact absurd hc (by decide)
 .rcases lI hz with rfl | hz | rfl | rfl
  .show ms.length<=1000;lia
  .rcases h.xr z hz with ⟨b,f,_,rfl⟩ | ⟨p,b,qs,_,_,h3,rfl⟩
   .show 2<=1000;decide
   .show qs.length+1+1<=1000;lia
  .show 0<=1000;decide
  .show ls.length<=1000;lia
 .rcases lI hz with rfl | hz | rfl | rfl
  .exact absurd (show Str.ofString "marks"=_\/Str.ofString "marks"=_ from hw) 'd'
  .rcases h.xr z hz with ⟨b,f,_,rfl⟩ | ⟨p,b,qs,_,_,h3,rfl⟩ <;> exact List.cons_ne_nil _ _
  .exact absurd (show Str.ofString "behind"=_\/Str.ofString "behind"=_ from hw) 'd'
  .exact absurd (show Str.ofString "row"=_\/Str.ofString "row"=_ from hw) 'd'
 .rcases lI hz with rfl | hz | rfl | rfl
  .exact absurd (show Str.ofString "marks"=_ from hw) 'd'
  .rcases h.xr z hz with ⟨b,f,hb,rfl⟩ | ⟨p',b,qs,_,_,h3,rfl⟩
   .rw [E5.mp (show p∈[b] from hp)];exact lt b hb
   .exact absurd (show Str.ofString "as"=_ from hw) 'd'
  .exact absurd (show Str.ofString "behind"=_ from hw) 'd'
  .exact absurd (show Str.ofString "row"=_ from hw) 'd'
 .rcases lI hz with rfl | hz | rfl | rfl
  .exact absurd (show Str.ofString "marks"=_ from hw) 'd'
  .rcases h.xr z hz with ⟨b,f,hb,rfl⟩ | ⟨p',b,qs,hb,_,h3,rfl⟩
   .exact absurd (show Str.ofString "great"=_ from hw) 'd'
   .rw [E5.mp (show p∈[b] from hp)];exact lt b hb
  .exact absurd (show Str.ofString "behind"=_ from hw) 'd'
  .exact absurd (show Str.ofString "row"=_ from hw) 'd'
 .rcases lI hz with rfl | hz | rfl | rfl
  .exact absurd (show Str.ofString "marks"=_ from hw) 'd'
  .rcases h.xr z hz with ⟨b,f,hb,rfl⟩ | ⟨p',b,qs,hb,hq,h3,rfl⟩
   .exact absurd (show Str.ofString "great"=_ from hw) 'd'
   .exact .inr (mk p (hq p hp))
  .exact absurd (show Str.ofString "behind"=_ from hw) 'd'
  .exact absurd (show Str.ofString "row"=_ from hw) 'd'
 .rw [h.rows.1];simp;lia
 .rw [h.rows.2];simp;lia
 .rw [h.rows.1] at he;exact agz h.ndl (by simpa [edges] using he)
 .rw [h.rows.2] at he;exact agz h.ndm (by simpa [edges] using he)
theorem Sh8.lets{X:List Rl}(h:Sh8 ls ms X)(hL:Q5 (R8 ls ms X bh) "row" L)(hM:Q5 (R8 ls ms X bh) "marks" M):L=ls/\M=ms:=by
 unfold Q5 at hL hM;rw [h.rows.1] at hL;rw [h.rows.2] at hM;refine ⟨aky h.ndl (kS _) hL.1 hL.2 (fun p=>?_) fun e he=>?_,aky h.ndm (kS _) hM.1 hM.2 (fun p=>?_) fun e he=>?_⟩
 .rw [xD];simp
 .simpa [edges] using he
 .rw [xD];simp
 .simpa [edges] using he
theorem Sh8.known{X:List Rl}(h:Sh8 ls ms X){p:Str} : p∈G6 (R8 ls ms X bh)↔p∈ms++(X.map cW++ls):=by
 unfold G6 W9;rw [h.has.2.2,if_neg L8,M8,rZ,h.fst]
theorem Sh8.knownL{X:List Rl}(h:Sh8 ls ms X):(G6 (R8 ls ms X bh)).length<=1000:=by
 unfold G6 W9;rw [h.has.2.2,if_neg L8,M8];have h1:=wV (C6 (R8 ls ms X bh));have h2:=congrArg f6 (h.fst (bh:=bh));rw [A6,D6,D6,A6] at h2
 have:=h.l1
 have:=h.m1
 have:=h.x1
 lia
theorem Sh8.steps{X:List Rl}(h:Sh8 ls ms X)(L M:List Str)(y:Str):(stepF (R8 ls ms X bh) L M y).length<=15:=by
 unfold stepF;cases e:(putsL (R8 ls ms X bh) L M).lookup y with
 | none=>simp
 | some s=>
  obtain ⟨l1,l2,el,_⟩:=List.lookup_eq_some_iff.mp e;have hp:(y,s)∈putsL (R8 ls ms X bh) L M:=by rw [el];simp
  show s.length<=15;unfold putsL at hp
  rcases E8.mp hp with hp | hp
  .rcases E8.mp hp with hp | hp
   .rcases E8.mp hp with hp | hp
    .obtain ⟨e,_,q⟩:=D7.mp hp;rw [<- (Prod.mk.inj q).2];exact Nat.le_add_left 1 14
    .obtain ⟨e,_,q⟩:=D7.mp hp;rw [<- (Prod.mk.inj q).2];exact Nat.le_add_left 1 14
   .obtain ⟨w,_,hp⟩:=W0.mp hp;obtain ⟨e,_,q⟩:=D7.mp hp;rw [<- (Prod.mk.inj q).2];exact Nat.le_add_left 1 14
  .unfold sE at hp;obtain ⟨z,hz,qq⟩:=jV.mp hp
   split at qq
   .rename_i hw
    obtain ⟨p',_,qq⟩:=Option.map_eq_some_iff.mp qq;rw [<- (Prod.mk.inj qq).2,A6]
    rcases lI hz with rfl | hz | rfl | rfl
    .exact absurd (show Str.ofString "marks"=_ from hw) 'd'
    .rcases h.xr z hz with ⟨b,f,hb,rfl⟩ | ⟨p',b,qs,hb,hq,h3,rfl⟩
     .show 1<=15;decide
     .show qs.length+1<=15;lia
    .show 0<=15;decide
    .exact absurd (show Str.ofString "row"=_ from hw) 'd'
   .cases qq
theorem Sh8.sl{X:List Rl}(h:Sh8 ls ms X)(hL:Q5 (R8 ls ms X bh) "row" L)(hM:Q5 (R8 ls ms X bh) "marks" M){p:Str}(hp:p∈ls):stepF (R8 ls ms X bh) L M p=[(2,(ls.idxOf p:Int),0)]:=by
 obtain ⟨rfl,rfl⟩:=h.lets hL hM;exact (oK h.good hL hM).letter hp
theorem Sh8.sm{X:List Rl}(h:Sh8 ls ms X)(hL:Q5 (R8 ls ms X bh) "row" L)(hM:Q5 (R8 ls ms X bh) "marks" M){p:Str}(hp:p∈ms):stepF (R8 ls ms X bh) L M p=[(0,(ms.idxOf p:Int),0)]:=by
 obtain ⟨rfl,rfl⟩:=h.lets hL hM;have hi:=eC.mpr hp;exact (oK h.good hL hM).mr (M.idxOf p) p (by rw [J5 hi,gI])
theorem Sh8.sa{X:List Rl}(h:Sh8 ls ms X)(hL:Q5 (R8 ls ms X bh) "row" L)(hM:Q5 (R8 ls ms X bh) "marks" M){p b:Str}{qs:List Str}(hb:b∈ls)(hq:∀ q∈qs,q∈ms)(hz:(("as" : Str),p::b::qs)∈X) :
  stepF (R8 ls ms X bh) L M p=(2,(ls.idxOf b:Int),0)::qs.map fun q=>(0,(ms.idxOf q:Int),0):=by
 rw [(oK h.good hL hM).as _ (R8_in hz) rfl p (b::qs) rfl,G0,h.sl hL hM hb]
 congr 1
 exact jU fun q hm=>by rw [h.sm hL hM (hq q hm)];rfl
theorem Sh8.sg{X:List Rl}(h:Sh8 ls ms X)(hL:Q5 (R8 ls ms X bh) "row" L)(hM:Q5 (R8 ls ms X bh) "marks" M){b f:Str}(hz:(("great" : Str),[b,f])∈X)(hc:(D9 X b)[c]?=some f) :
  stepF (R8 ls ms X bh) L M f=[(2,(ls.idxOf b:Int),((c+1:Nat):Int))]:=by
 have eg:K8 (R8 ls ms X bh)=K8 X:=by
  unfold R8;have e1:K8 ((("marks" : Str),ms)::(X++V7 "behind" bh++[(("row" : Str),ls)]))=K8 [(("marks" : Str),ms)]++K8 (X++V7 "behind" bh++[(("row" : Str),ls)]):=cP [_] _;rw [e1,cP,cP,eW (show Str.ofString "marks"≠Str.ofString "great" by decide +kernel),eW (z:=(("row" : Str),ls)) (show Str.ofString "row"≠Str.ofString "great" by decide +kernel),M8,eE];have e2:K8 (V7 "behind" bh)=[]:=by
   unfold V7
   split
   .exact eW (show Str.ofString "behind"≠Str.ofString "great" by decide +kernel)
   .rfl
  rw [e2,M8]
 have ef:D9 (R8 ls ms X bh) b=D9 X b:=by unfold D9;rw [eg]
 obtain ⟨rfl,rfl⟩:=h.lets hL hM;refine (oK h.good hL hM).gr b ?_ c f (by rw [ef];exact hc);rw [mem_formKs,eg];unfold K8;exact ⟨(b,[f]),jV.mpr ⟨_,hz,rfl⟩,rfl⟩
noncomputable abbrev En:=Int×List Int×Int
structure EnS(R:List Rl)(L M:List Str)(S:List Nat)(en:Nat->En):Prop where
 nf:hasW R "figures"=false
 kn:∀ p∈G6 R,∃ c,p=one c
 ki:∀ c∈S,one c∈G6 R
 st:∀ c∈S,stepF R L M (one c)=(2,(en c).1,(en c).2.2)::(en c).2.1.map fun j=>(0,j,0)
theorem amD(h:∀ p∈ks,∃ c,p=one c)(c:Nat)(r:List Nat)(hc:one c∈ks):partF false ks (c::r)=some (one c):=by
 rw [lC,Bool.false_and,if_neg L8]
 cases r with
 | nil=>rw [lA,if_pos hc]
 | cons e r=>
  rw [lB,if_neg,if_pos hc];intro hm;obtain ⟨d,e1⟩:=h _ hm;have e2:[c,e]=[d]:=congrArg (fun z:Str=>z.cps.toList) e1;cases e2
theorem xW(h:∀ p∈ks,∃ c,p=one c):∀ {l:List Nat},(∀ c∈l,one c∈ks)->cutF false ks l=(l.length,l.map one)
 | [],_=>by rw [oO];rfl
 | c::l,hl=>by
  obtain ⟨rest,e1,e2,_⟩:=lD (amD h c l (hl c M7));have e3:l=rest:=(List.cons.inj e1).2;rw [e2,<- e3,xW h fun d hd=>hl d (O5 _ hd)];refine Prod.ext ?_ rfl;show l.length+1=_;rw [L0]
theorem aih:∀ (ms:List Int) (U:List G9) (a b:Int) (m0:List Int) (c:Int),(ms.map fun j=>((0,j,0):Tr)).foldl addS (U++[(a,b,m0,c)])=U++[(a,b,m0++ms,c)]
 | [],U,a,b,m0,c=>by rw [M8];rfl
 | j::ms,U,a,b,m0,c=>by
  rw [G0,jY];have e:addS (U++[(a,b,m0,c)]) (0,j,0)=U++[(a,b,m0++[j],c)]:=by
   unfold addS;rw [if_pos rfl];unfold addM
   simp
  rw [e,aih ms,X3];rfl
theorem akT{F:Str->List Tr}{en:Nat->En} : ∀ {l:List Nat} {U:List G9},(∀ c∈l,F (one c)=(2,(en c).1,(en c).2.2)::(en c).2.1.map fun j=>(0,j,0))->((l.map one).flatMap F).foldl addS U=U++l.map fun c=>(2,(en c).1,(en c).2.1,(en c).2.2)
 | [],U,_=>by simp
 | c::l,U,h=>by
  rw [G0,o9,aN,h c M7,jY];have e:addS U (2,(en c).1,(en c).2.2)=U++[(2,(en c).1,[],(en c).2.2)]:=by unfold addS;rw [if_neg (show ¬ (2:Int)=0 by decide)]
  rw [e,aih,eE,akT fun d hd=>h d (O5 _ hd),G0,X3];rfl
theorem EnS.units{en:Nat->En}(h:EnS R L M S en){l:List Nat}(hl:∀ c∈l,c∈S):Q7 (stepY R L M) (cutF (hasW R "figures") (G6 R) l).2=l.map fun c=>(2,(en c).1,(en c).2.1,(en c).2.2):=by
 rw [h.nf,xW h.kn (fun c hc=>h.ki c (hl c hc)),aia h.nf];show ((l.map one).flatMap (stepF R L M)).foldl addS []=_;rw [akT (en:=en) fun c hc=>h.st c (hl c hc),eE]
theorem EnS.whole{en:Nat->En}(h:EnS R L M S en)(hl:∀ c∈z.cps.toList,c∈S):bB (hasW R "figures") (G6 R) z:=by
 unfold bB;rw [h.nf,xW h.kn (fun c hc=>h.ki c (hl c hc)),lenL]
noncomputable def cmpG {α:Type} [DecidableEq α] [LT α] [DecidableLT α] (xs ys:List α):Int:=if xs=ys then 0 else if xs<ys then -1 else 1
section
variable {α:Type} [DecidableEq α] [LT α] [DecidableLT α]
theorem cmpG_zero{xs ys:List α} : cmpG xs ys=0↔xs=ys:=by
 unfold cmpG
 constructor
 .intro h
  by_cases e:xs=ys
  .exact e
  .rw [if_neg e] at h
   split at h <;> cases h
 .intro h;rw [if_pos h]
theorem cX(Q0:∀ a:α,¬ a<a)(a b:α)(xs ys:List α):cmpG (a::xs) (b::ys)=if a=b then cmpG xs ys else if a<b then -1 else 1:=by
 unfold cmpG
 by_cases e:a=b
 .subst e;rw [if_pos rfl];have e1:(a::xs=a::ys)↔xs=ys:=⟨fun h=>(List.cons.inj h).2,fun h=>by rw [h]⟩
  have e2:(a::xs<a::ys)↔xs<ys:=by
   rw [gH];exact ⟨fun h=>h.elim (fun h=>absurd h (Q0 a)) (·.2),fun h=>.inr ⟨rfl,h⟩⟩
  simp only [e1,e2]
 .rw [if_neg e,if_neg (fun h=>e (List.cons.inj h).1)];have e2:(a::xs<b::ys)↔a<b:=by
   rw [gH];exact ⟨fun h=>h.elim id fun h=>absurd h.1 e,.inl⟩
  simp only [e2]
theorem oW(Q0:∀ a:α,¬ a<a)(a b:α):∀ {xs ys:List α},xs.length=ys.length->cmpG (xs++[a]) (ys++[b])=if cmpG xs ys=0 then cmpG [a] [b] else cmpG xs ys
 | [],[],_=>by rw [if_pos (cmpG_zero.mpr rfl)];rfl
 | x::xs,y::ys,h=>by
  rw [gJ,gJ,cX Q0,cX Q0 x y xs ys]
  by_cases e:x=y
  .rw [if_pos e,if_pos e];exact oW Q0 a b (by simpa using h)
  .rw [if_neg e,if_neg e,if_neg (show ¬ (if x<y then (-1:Int) else 1)=0 by split <;> decide)]
 | [],_::_,h=>by simp at h
 | _::_,[],h=>by simp at h
theorem ai6(Q0:∀ a:α,¬ a<a)(a b:α)(xs ys:List α):cmpG (a::xs) (b::ys)=if cmpG [a] [b]=0 then cmpG xs ys else cmpG [a] [b]:=by
 rw [cX Q0,cX Q0 a b [] []]
 by_cases e:a=b
 .rw [if_pos e,if_pos e,if_pos (cmpG_zero.mpr rfl)]
 .rw [if_neg e,if_neg e,if_neg (show ¬ (if a<b then (-1:Int) else 1)=0 by split <;> decide)]
theorem xX(Q0:∀ a:α,¬ a<a)(a:α)(zs:List α):∀ {xs ys:List α},xs.length=ys.length->cmpG (xs++a::zs) ys=(if cmpG xs ys=0 then 1 else cmpG xs ys)/\cmpG xs (ys++a::zs)=if cmpG xs ys=0 then -1 else cmpG xs ys
 | [],[],_=>by
  rw [if_pos (cmpG_zero.mpr rfl),if_pos (cmpG_zero.mpr rfl)];refine ⟨?_,?_⟩
  .unfold cmpG;rw [if_neg 'c',if_neg (List.not_lt_nil _)]
  .unfold cmpG;rw [if_neg 'c',if_pos 'c']
 | x::xs,y::ys,h=>by
  rw [gJ,gJ,cX Q0 x y _ ys,cX Q0 x y xs (ys++a::zs),cX Q0 x y xs ys]
  by_cases e:x=y
  .rw [if_pos e,if_pos e,if_pos e];exact xX Q0 a zs (by simpa using h)
  .rw [if_neg e,if_neg e,if_neg e]
   have:¬ (if x<y then (-1:Int) else 1)=0:=by split <;> decide
   rw [if_neg this,if_neg this];exact ⟨rfl,rfl⟩
 | [],_::_,h=>by simp at h
 | _::_,[],h=>by simp at h
end
noncomputable def C7 (bh:Bool) (en:Nat->En) (l l':List Nat):Nat->Int
 | 0=>cmpG (l.map fun c=>(en c).1) (l'.map fun c=>(en c).1)
 | 1=>cmpG ((if bh=true then l.reverse else l).map fun c=>(en c).2.1) ((if bh=true then l'.reverse else l').map fun c=>(en c).2.1)
 | 2=>cmpG (l.map fun c=>(en c).2.2) (l'.map fun c=>(en c).2.2)
 | _=>cmpG l l'
noncomputable def difL (n:Nat) (g:Nat->Int):Int×Int:=match (U8 n).find? fun i=>g i≠0 with
 | some i=>(((i+1:Nat):Int),g i)
 | none=>(0,0)
theorem y4{g:Nat->Int}(hi:i<n)(h0:∀ k<i,g k=0)(h:g i≠0):difL n g=(((i+1:Nat):Int),g i):=by
 have:=xS (f:=fun k=>g (k-1)) hi (fun k hk=>by simpa using h0 k hk) (by simpa using h)
 unfold difF at this;simp only [Nat.add_sub_cancel] at this;exact this
theorem bH{g:Nat->Int}(h0:∀ k<n,g k=0):difL n g=(0,0):=by
 have:=xT (n:=n) (f:=fun k=>g (k-1)) (fun k hk=>by simpa using h0 k hk)
 unfold difF at this;simp only [Nat.add_sub_cancel] at this;exact this
theorem lJ(n:Nat)(g:Nat->Int):(difL n g=(0,0)/\∀ k<n,g k=0)\/∃ i<n,difL n g=(((i+1:Nat):Int),g i)/\g i≠0/\∀ k<i,g k=0:=by
 by_cases h:∀ k<n,g k=0
 .exact .inl ⟨bH h,h⟩
 .have h':∃ i,i<n/\g i≠0:=Classical.byContradiction fun hn=>h fun k hk=>Classical.byContradiction fun U7=>hn ⟨k,hk,U7⟩
  obtain ⟨i,⟨hi,h1⟩,h2⟩:∃ i,(i<n/\g i≠0)/\∀ k<i,¬ (k<n/\g k≠0):=by
   obtain ⟨i0,hi0⟩:=h'
   induction i0 using Nat.strongRecOn with
   | _ i0 ih=>
    by_cases hq:∃ k<i0,k<n/\g k≠0
    .obtain ⟨k,hk,jD⟩:=hq;exact ih k hk jD
    .exact ⟨i0,hi0,fun k hk jD=>hq ⟨k,hk,jD⟩⟩
  have h3:∀ k<i,g k=0:=fun k hk=>Classical.byContradiction fun q=>h2 k hk ⟨by lia,q⟩
  exact .inr ⟨i,hi,y4 hi h3 h1,h1,h3⟩
theorem akU{b:Bool}{g h g':Nat->Int}(hz:∀ k,¬ (k=1/\b=true)->g' k=if g k=0 then h k else g k)(hb:b=true->g' 1=if h 1=0 then g 1 else h 1):difL n g'=bG b (difL n g) (difL n h):=by
 have zz:∀ k,g k=0->h k=0->g' k=0:=fun k h1 h2=>by
  by_cases e:k=1/\b=true
  .rw [e.1,hb e.2,if_pos (by rw [<- e.1];exact h2),<- e.1];exact h1
  .rw [hz k e,if_pos h1];exact h2
 rcases lJ n g with ⟨eg,zg⟩ | ⟨i,hi,eg,ni,zi⟩
 .rcases lJ n h with ⟨eh,zh⟩ | ⟨j,hj,eh,nj,zj⟩
  .rw [eg,eh,bH fun k hk=>zz k (zg k hk) (zh k hk)];rfl
  .have e1:g' j=h j:=by
    by_cases e:j=1/\b=true
    .rw [e.1,hb e.2,if_neg (by rw [<- e.1];exact nj)]
    .rw [hz j e,if_pos (zg j hj)]
   rw [eg,eh,y4 hj (fun k hk=>zz k (zg k 'a') (zj k hk)) (by rw [e1];exact nj),e1];unfold bG;rw [if_neg (by simp only [];lia),if_pos (.inl rfl)]
 .rcases lJ n h with ⟨eh,zh⟩ | ⟨j,hj,eh,nj,zj⟩
  .have e1:g' i=g i:=by
    by_cases e:i=1/\b=true
    .rw [e.1,hb e.2,if_pos (by rw [<- e.1];exact zh i hi)]
    .rw [hz i e,if_neg ni]
   rw [eg,eh,y4 hi (fun k hk=>zz k (zi k hk) (zh k 'a')) (by rw [e1];exact ni),e1];rfl
  .rw [eg,eh];unfold bG;simp only [];rw [if_neg 'a']
   by_cases hij:j<i
   .have e1:g' j=h j:=by
     by_cases e:j=1/\b=true
     .rw [e.1,hb e.2,if_neg (by rw [<- e.1];exact nj)]
     .rw [hz j e,if_pos (zi j hij)]
    rw [if_pos (.inr 'a'),y4 hj (fun k hk=>zz k (zi k 'a') (zj k hk)) (by rw [e1];exact nj),e1]
   .rw [if_neg 'a']
    by_cases hq:i=j/\j=1/\b=true
    .obtain ⟨rfl,rfl,hb1⟩:=hq;rw [if_pos ⟨rfl,rfl,hb1⟩,y4 hj (fun k hk=>zz k (zi k hk) (zj k hk)) (by rw [hb hb1,if_neg nj];exact nj),hb hb1,if_neg nj]
    .rw [if_neg (fun e=>hq ⟨by lia,by lia,e.2.2⟩)];have e1:g' i=g i:=by
      by_cases e:i=1/\b=true
      .have e0:=e.1;have hj1:j≠1:=fun q=>hq ⟨by lia,q,e.2⟩
       rw [e.1,hb e.2,if_pos (zj 1 'a')]
      .rw [hz i e,if_neg ni]
     rw [y4 hi (fun k hk=>zz k (zi k hk) (zj k 'a')) (by rw [e1];exact ni),e1]
theorem ang{en:Nat->En}{l:List Nat}(hl:l.length=l'.length)(x y:Nat) :
  (∀ k,¬ (k=1/\bh=true)->C7 bh en (l++[x]) (l'++[y]) k=if C7 bh en l l' k=0 then C7 bh en [x] [y] k else C7 bh en l l' k)/\(bh=true->C7 bh en (l++[x]) (l'++[y]) 1=if C7 bh en [x] [y] 1=0 then C7 bh en l l' 1 else C7 bh en [x] [y] 1):=by
 refine ⟨fun k hk=>?_,fun hb=>?_⟩
 .match k with
  | 0=>show cmpG ((l++[x]).map _) ((l'++[y]).map _)=_;rw [D0,D0];exact oW eM _ _ (by simpa using hl)
  | 1=>
   have hb:bh=false:=by
    cases bh
    .rfl
    .exact absurd ⟨rfl,rfl⟩ hk
   subst hb;show cmpG ((l++[x]).map _) ((l'++[y]).map _)=_;rw [D0,D0];exact oW (fun a=>List.lt_irrefl a) _ _ (by simpa using hl)
  | 2=>show cmpG ((l++[x]).map _) ((l'++[y]).map _)=_;rw [D0,D0];exact oW eM _ _ (by simpa using hl)
  | k+3=>exact oW f7 _ _ hl
 .subst hb;show cmpG ((l++[x]).reverse.map _) ((l'++[y]).reverse.map _)=_;rw [List.reverse_append,List.reverse_append];exact ai6 (fun a=>List.lt_irrefl a) _ _ _ _
theorem aii{f:Int->List Int}(hf:∀ a b,f a=f b↔a=b)(hg:∀ a b,f a<f b↔a<b):∀ xs ys:List Int,cmpG (xs.map f) (ys.map f)=cmpG xs ys
 | [],[]=>rfl
 | [],y::ys=>by unfold cmpG;simp
 | x::xs,[]=>by unfold cmpG;simp
 | x::xs,y::ys=>by
  rw [G0,G0,cX (fun a=>List.lt_irrefl a),cX eM,aii hf hg xs ys];simp only [hf,hg]
theorem akV(xs ys:List (List Int)):cmpD (.tt xs) (.tt ys)=cmpG xs ys:=by
 unfold cmpD cmpG LvD.lt
 simp
theorem xY(xs ys:List Int):cmpD (.ii xs) (.ii ys)=cmpG xs ys:=by
 unfold cmpD cmpG LvD.lt
 simp
theorem arI : z=z'↔z.cps.toList=z'.cps.toList:=⟨fun e=>by rw [e],fun e=>by
 cases z
 cases z'
 exact congrArg Str.mk (Array.toList_inj.mp e)⟩
theorem akW(z z':Str):cmpD (.ss z) (.ss z')=cmpG z.cps.toList z'.cps.toList:=by
 unfold cmpD cmpG LvD.lt;simp [arI]
theorem akX{en:Nat->En}(hn:n<=4):(Z7 cmpD (i7 bh (z.cps.toList.map fun c=>(2,(en c).1,(en c).2.1,(en c).2.2)) z) (i7 bh (z'.cps.toList.map fun c=>(2,(en c).1,(en c).2.1,(en c).2.2)) z')).take n=(U8 n).map (C7 bh en z.cps.toList z'.cps.toList):=by
 have e:Z7 cmpD (i7 bh (z.cps.toList.map fun c=>(2,(en c).1,(en c).2.1,(en c).2.2)) z) (i7 bh (z'.cps.toList.map fun c=>(2,(en c).1,(en c).2.1,(en c).2.2)) z')=(U8 4).map (C7 bh en z.cps.toList z'.cps.toList):=by
  unfold i7;simp only [List.zipWith_cons_cons,List.zipWith_nil_left,akV,xY,akW,R3];have e1:cmpG (z.cps.toList.map ((fun u:G9=>[u.1,u.2.1])∘fun c=>((2:Int),(en c).1,(en c).2.1,(en c).2.2))) (z'.cps.toList.map ((fun u:G9=>[u.1,u.2.1])∘fun c=>((2:Int),(en c).1,(en c).2.1,(en c).2.2)))=C7 bh en z.cps.toList z'.cps.toList 0:=by
   have:=aii (f:=fun i=>[2,i]) (fun a b=>by simp) (fun a b=>by rw [gH,gH];simp) (z.cps.toList.map fun c=>(en c).1) (z'.cps.toList.map fun c=>(en c).1)
   rw [R3,R3] at this;exact this
  have e2:cmpG ((if bh=true then (z.cps.toList.map fun c=>((2:Int),(en c).1,(en c).2.1,(en c).2.2)).reverse else z.cps.toList.map fun c=>((2:Int),(en c).1,(en c).2.1,(en c).2.2)).map fun u:G9=>u.2.2.1) ((if bh=true then (z'.cps.toList.map fun c=>((2:Int),(en c).1,(en c).2.1,(en c).2.2)).reverse else z'.cps.toList.map fun c=>((2:Int),(en c).1,(en c).2.1,(en c).2.2)).map fun u:G9=>u.2.2.1)=C7 bh en z.cps.toList z'.cps.toList 1:=by
   unfold C7
   cases bh <;> simp [Function.comp_def]
  rw [e1,e2];rfl
 rw [e,<- v7,List.take_range,cE hn]
theorem aij{g:Nat->Int} : ∀ l:List Nat,((l.map g).find? fun v=>v≠0).getD 0=((l.find? fun i=>g i≠0).map g).getD 0
 | []=>rfl
 | a::l=>by
  rw [G0,Y7,Y7]
  by_cases h:g a=0
  .simp only [h,ne_eq,not_true_eq_false,decide_false];exact aij l
  .simp [h]
theorem amE(n:Nat)(g:Nat->Int):(difL n g).2=(((U8 n).map g).find? fun v=>v≠0).getD 0:=by
 rw [aij];unfold difL
 split
 .rename_i h;rw [h];rfl
 .rename_i h;rw [h];rfl
theorem EnS.cmp{en:Nat->En}(h:EnS R L M S en)(hn:n<=4)(hz:∀ c∈z.cps.toList,c∈S)(c9:∀ c∈z'.cps.toList,c∈S):cmpF n (i8 R L M z) (i8 R L M z')=(difL n (C7 (hasW R "behind") en z.cps.toList z'.cps.toList)).2:=by
 unfold i8 cmpF;rw [h.units hz,h.units c9,akX hn,amE]
theorem EnS.dif{en:Nat->En}(h:EnS R L M S en)(hn:n<=4)(hz:∀ c∈z.cps.toList,c∈S)(c9:∀ c∈z'.cps.toList,c∈S):difR R L M n z z'=difL n (C7 (hasW R "behind") en z.cps.toList z'.cps.toList):=by
 unfold difR;have ec:∀ m≤4,cmpF m (i8 R L M z) (i8 R L M z')=(difL m (C7 (hasW R "behind") en z.cps.toList z'.cps.toList)).2:=fun m hm=>h.cmp hm hz c9
 rcases lJ n (C7 (hasW R "behind") en z.cps.toList z'.cps.toList) with ⟨e,z0⟩ | ⟨i,hi,e,ni,zi⟩
 .rw [e];refine xT fun k hk=>?_
  rw [ec _ 'a',bH fun j hj=>z0 j 'a']
 .have e2:cmpF (i+1) (i8 R L M z) (i8 R L M z')=C7 (hasW R "behind") en z.cps.toList z'.cps.toList i:=by rw [ec _ 'a',y4 (jZ i) zi ni]
  rw [e,xS hi (fun k hk=>by rw [ec _ 'a',bH fun j hj=>zi j 'a']) (by rw [e2];exact ni),e2]
theorem sQ(bh:Bool)(en:Nat->En)(k:Nat):C7 bh en [] [] k=0:=by
 match k with
 | 0=>rfl
 | 1=>cases bh <;> rfl
 | 2=>rfl
 | _+3=>rfl
theorem j0(x y:Str):(x++y).cps.toList=x.cps.toList++y.cps.toList:=Array.toList_append
noncomputable def roomF (n:Nat) (bh bh':Bool) (en en':Nat->En) (l l':List Nat):Rm:=join4 (difL n (C7 bh en l l')) (difL n (C7 bh' en' l l'))
theorem xZ{bh':Bool}{en en':Nat->En}{l:List Nat}(hl:l.length=l'.length)(x y:Nat):roomF n bh bh' en en' (l++[x]) (l'++[y])=O9 bh bh' (roomF n bh bh' en en' l l') (roomF n bh bh' en en' [x] [y]):=by
 have h1:=ang (bh:=bh) (en:=en) hl x y;have h2:=ang (bh:=bh') (en:=en') hl x y;unfold roomF O9;rw [akU h1.1 h1.2,akU h2.1 h2.2];rfl
noncomputable def T0 (S:List Nat) (z:Str):Prop:=∀ c∈z.cps.toList,c∈S
theorem aik{en en':Nat->En}(h:EnS R L M S en)(h':EnS R' L' M' S en')(hn:n<=4)(hz:∀ z∈zs,∃ c∈S,z=one c){m:Mv}(hm:m∈mvsF R L M R' L' M' n zs) :
  ∃ c d,c∈S/\d∈S/\m=(one c,one d,roomF n (hasW R "behind") (hasW R' "behind") en en' [c] [d]):=by
 obtain ⟨x,hx,hm⟩:=W0.mp hm;obtain ⟨y,hy,rfl⟩:=D7.mp hm;obtain ⟨c,hc,rfl⟩:=hz x hx;obtain ⟨d,hd,rfl⟩:=hz y hy;refine ⟨c,d,hc,hd,?_⟩;have oc:∀ {c},c∈S->∀ e∈(one c).cps.toList,e∈S:=fun {c} hc e he=>by rw [E5.mp (show e∈[c] from he)];exact hc
 rw [h.dif hn (oc hc) (oc hd),h'.dif hn (oc hc) (oc hd)];rfl
theorem Rch.room{en en':Nat->En}(h:EnS R L M S en)(h':EnS R' L' M' S en')(hn:n<=4)(hz:∀ z∈zs,∃ c∈S,z=one c){r:Rm}{u v:Str}(hr:Rch (hasW R "behind") (hasW R' "behind") (mvsF R L M R' L' M' n zs) r u v) :
  T0 S u/\T0 S v/\u.length=v.length/\r=roomF n (hasW R "behind") (hasW R' "behind") en en' u.cps.toList v.cps.toList:=by
 induction hr with
 | st=>
  refine ⟨fun c hc=>absurd hc cB,fun c hc=>absurd hc cB,rfl,?_⟩;show _=join4 (difL n (C7 _ en [] [])) (difL n (C7 _ en' [] []));rw [bH fun k _=>sQ _ _ k,bH fun k _=>sQ _ _ k];rfl
 | go _ hm _ _ ih=>
  obtain ⟨i1,i2,i3,i4⟩:=ih;obtain ⟨c,d,hc,hd,rfl⟩:=aik h h' hn hz hm;refine ⟨fun e he=>?_,fun e he=>?_,by rw [y0,y0,i3];rfl,?_⟩
  .rw [j0] at he
   rcases E8.mp he with he | he
   .exact i1 e he
   .rw [E5.mp (show e∈[c] from he)];exact hc
  .rw [j0] at he
   rcases E8.mp he with he | he
   .exact i2 e he
   .rw [E5.mp (show e∈[d] from he)];exact hd
  .rw [j0,j0,i4];exact (xZ (by rw [lenL,lenL];exact i3) c d).symm
theorem Rch.even{b:Bool}{ms:List Mv}{r:Rm}{u v:Str}(h:Rch b b' ms r u v):i9 r=false:=by
 cases h with
 | st=>decide
 | go _ _ _ h=>exact h
theorem ail{en:Nat->En}{l:List Nat}(hl:l.length=l'.length)(x:Nat):C7 bh en (l++[x]) l' 0=(if C7 bh en l l' 0=0 then 1 else C7 bh en l l' 0)/\C7 bh en l (l'++[x]) 0=if C7 bh en l l' 0=0 then -1 else C7 bh en l l' 0:=by
 have:=xX eM ((en x).1) [] (xs:=l.map fun c=>(en c).1) (ys:=l'.map fun c=>(en c).1) (by simpa using hl)
 refine ⟨?_,?_⟩
 .show cmpG ((l++[x]).map fun c=>(en c).1) (l'.map fun c=>(en c).1)=_;rw [D0];exact this.1
 .show cmpG (l.map fun c=>(en c).1) ((l'++[x]).map fun c=>(en c).1)=_;rw [D0];exact this.2
theorem iC{g:Nat->Int}(hn:0<n)(h:g 0≠0):difL n g=(1,g 0):=y4 hn (fun k hk=>absurd hk (Nat.not_lt_zero k)) h
theorem sR{g:Nat->Int}(hn:0<n):(difL n g).1=1↔g 0≠0:=by
 rcases lJ n g with ⟨e,z⟩ | ⟨i,hi,e,ni,zi⟩
 .rw [e];exact ⟨fun h=>absurd h (by decide),fun h=>absurd (z 0 hn) h⟩
 .rw [e]
  constructor
  .intro h
   have:i=0:=by simp only [] at h;lia
   rw [<- this];exact ni
  .intro h
   have:i=0:=Classical.byContradiction fun q=>h (zi 0 'a')
   rw [this];rfl
theorem uao{en en':Nat->En}(h:EnS R L M S en)(h':EnS R' L' M' S en')(hn:n<=4)(lZ:0<n)(hz:∀ z∈zs,∃ c∈S,z=one c){u v:Str}(hw:xU (hasW R "behind") (hasW R' "behind") (mvsF R L M R' L' M' n zs) zs u v) :
  T0 S u/\T0 S v/\(difL n (C7 (hasW R "behind") en u.cps.toList v.cps.toList)).2≠(difL n (C7 (hasW R' "behind") en' u.cps.toList v.cps.toList)).2:=by
 rcases hw with ⟨r,u0,v0,m,hm,hr,_,ho,rfl,rfl⟩ | ⟨r,u0,v0,z,hr,hu,hd,e⟩
 .obtain ⟨i1,i2,i3,i4⟩:=hr.room h h' hn hz;obtain ⟨c,d,hc,hd,rfl⟩:=aik h h' hn hz hm;refine ⟨fun e he=>?_,fun e he=>?_,fun e=>?_⟩
  .rw [j0] at he
   rcases E8.mp he with he | he
   .exact i1 e he
   .rw [E5.mp (show e∈[c] from he)];exact hc
  .rw [j0] at he
   rcases E8.mp he with he | he
   .exact i2 e he
   .rw [E5.mp (show e∈[d] from he)];exact hd
  .rw [j0,j0] at e;have e2:=xZ (n:=n) (bh:=hasW R "behind") (bh':=hasW R' "behind") (en:=en) (en':=en') (l:=u0.cps.toList) (l':=v0.cps.toList) (by rw [lenL,lenL];exact i3) c d;rw [<- i4] at e2;unfold i9 at ho;rw [nC,decide_eq_false_iff_not] at ho;refine ho ?_;rw [show (one c,one d,roomF n (hasW R "behind") (hasW R' "behind") en en' [c] [d]).2.2=roomF n (hasW R "behind") (hasW R' "behind") en en' [c] [d] from rfl,<- e2];exact e
 .obtain ⟨i1,i2,i3,i4⟩:=hr.room h h' hn hz;have i3':u0.cps.toList.length=v0.cps.toList.length:=by rw [lenL,lenL];exact i3
  have he:=hr.even;obtain ⟨x,hx,rfl⟩:=hz z (List.mem_of_mem_head? hd);unfold i9 at he;rw [nA,decide_eq_true_iff] at he;unfold t8 at hu;rw [nC,decide_eq_false_iff_not,decide_eq_decide] at hu;rw [i4] at hu he
  change (difL n (C7 (hasW R "behind") en u0.cps.toList v0.cps.toList)).2=(difL n (C7 (hasW R' "behind") en' u0.cps.toList v0.cps.toList)).2 at he
  change ¬ ((difL n (C7 (hasW R "behind") en u0.cps.toList v0.cps.toList)).1=1↔(difL n (C7 (hasW R' "behind") en' u0.cps.toList v0.cps.toList)).1=1) at hu
  rw [sR lZ,sR lZ] at hu;have mG:∀ {g:Nat->Int},g 0≠0->(difL n g).2=g 0:=fun hg=>by rw [iC lZ hg]
  have r1:r.2.1=(difL n (C7 (hasW R "behind") en u0.cps.toList v0.cps.toList)).2:=by rw [i4];rfl
  have l1:=ail (bh:=hasW R "behind") (en:=en) i3' x;have l2:=ail (bh:=hasW R' "behind") (en:=en') i3' x;have ofx:∀ {w:Str},T0 S w->T0 S (w++one x):=fun {w} hw e he=>by
   rw [j0] at he
   rcases E8.mp he with he | he
   .exact hw e he
   .rw [E5.mp (show e∈[x] from he)];exact hx
  have key:∀ (f:Nat->Int) (f':Nat->Int) (t:Int),t≠0->t≠(difL n (C7 (hasW R "behind") en u0.cps.toList v0.cps.toList)).2->f 0=(if C7 (hasW R "behind") en u0.cps.toList v0.cps.toList 0=0 then t else C7 (hasW R "behind") en u0.cps.toList v0.cps.toList 0)->f' 0=(if C7 (hasW R' "behind") en' u0.cps.toList v0.cps.toList 0=0 then t else C7 (hasW R' "behind") en' u0.cps.toList v0.cps.toList 0)->(difL n f).2≠(difL n f').2:=fun f f' t ht bT e1 e2=>by
   by_cases h0:C7 (hasW R "behind") en u0.cps.toList v0.cps.toList 0=0
   .have h0':C7 (hasW R' "behind") en' u0.cps.toList v0.cps.toList 0≠0:=fun q=>hu ⟨fun k=>absurd h0 k,fun k=>absurd q k⟩
    rw [if_pos h0] at e1;rw [if_neg h0'] at e2;rw [mG (g:=f) (by rw [e1];exact ht),mG (g:=f') (by rw [e2];exact h0'),e1,e2];rw [he,mG h0'] at bT;exact bT
   .have h0':C7 (hasW R' "behind") en' u0.cps.toList v0.cps.toList 0=0:=Classical.byContradiction fun q=>hu ⟨fun _=>q,fun _=>h0⟩
    rw [if_neg h0] at e1;rw [if_pos h0'] at e2;rw [mG (g:=f) (by rw [e1];exact h0),mG (g:=f') (by rw [e2];exact ht),e1,e2];rw [mG h0] at bT;exact bT.symm
  unfold iA at e
  by_cases hs:r.2.1<0
  .rw [if_pos hs] at e;obtain ⟨rfl,rfl⟩:=Prod.mk.inj e;refine ⟨ofx i1,i2,?_⟩;rw [j0];exact key _ _ 1 (by decide) (by rw [<- r1];lia) l1.1 l2.1
  .rw [if_neg hs] at e;obtain ⟨rfl,rfl⟩:=Prod.mk.inj e;refine ⟨i1,ofx i2,?_⟩;rw [j0];exact key _ _ (-1) (by decide) (by rw [<- r1];lia) l1.2 l2.2
noncomputable def T8 (H:Hp) (a:Addr) (R:List Rl):Prop:=∃ ts,IsRules H a ts R
theorem T8.same(h:T8 H a R)(S:Same H H'):T8 H' a R:=let ⟨ts,h⟩:=h;⟨ts,h.same S⟩
theorem T8.put{t:Addr}{ts:List Addr}{z:Rl}(h:IsRules H a ts R)(ht:H t=some (tupR z)):T8 (A0 H a (.lst (ts.map V.ref++[V.ref t]))) a (R++[z]):=by
 have ne:∀ {c:Addr} {z:Rl},H c=some (tupR z)->A0 H a (.lst (ts.map V.ref++[V.ref t])) c=some (tupR z):=fun {c z} e=>by rw [A7 (ne_of e h.top (fun q=>by cases q))];exact e
 exact ⟨ts++[t],by rw [A3,D0];rfl,Paired.snoc (O6 h.row fun _ _ e=>ne e) (ne ht)⟩
theorem T8.more{t:Addr}{z:Rl}(h:T8 H a R)(hl:R.length<=1000)(S:Same H H3)(ht:H3 t=some (tupR z)):∃ xs,H3 a=some (.lst xs)/\xs.length<sizeLine/\T8 (A0 H3 a (.lst (xs++[V.ref t]))) a (R++[z]):=by
 obtain ⟨ts,h⟩:=h.same S;exact ⟨_,h.top,by rw [A6,h.len];exact L6 'a',T8.put h ht⟩
noncomputable def X7 (n k:Int):Nat:=(F8 SG ((n+k*y3 n) % 93)).getD 33
theorem sS(n k:Int):F8 SG ((n+k*y3 n) % 93)=some (X7 n k)/\signB (X7 n k)=true:=by
 obtain ⟨c,h1,h2⟩:=SS_at (i:=(n+k*y3 n) % 93) 'a' 'a';rw [SS_eq] at h1;unfold X7;rw [h1];exact ⟨rfl,h2⟩
theorem aoS{n k l:Int}(h0:0<=k)(h1:k<93)(h2:0<=l)(h3:l<93)(h:X7 n k=X7 n l):k=l:=by
 have hl:((SG.length:Nat):Int)=93:=by rw [wD];rfl
 have e:=arl SG_nd (i:=(n+k*y3 n) % 93) (j:=(n+l*y3 n) % 93) 'a' 'a' 'a' 'a' h;obtain ⟨t,_,ht⟩:=akR.2 _ (xV n).2;exact aiQ ht e h0 h1 h2 h3
noncomputable def p8 (n:Int) (k:Nat):Str:=one (X7 n (k:Int))
theorem bI{n:Int}(hi:i<93)(hj:j<93)(h:p8 n i=p8 n j):i=j:=by
 have e:X7 n i=X7 n j:=List.singleton_inj.mp (congrArg (fun z:Str=>z.cps.toList) h)
 have:=aoS 'a' 'a' 'a' 'a' e
 lia
noncomputable def poolL (n:Int) (m:Nat):List Str:=(U8 m).map (p8 n)
theorem ain{n:Int}(h:k<m):(poolL n m)[k]?=some (p8 n k):=by
 unfold poolL;rw [R6,List.getElem?_range h];rfl
noncomputable def spSg8:Sp:=fun vs H Q _=>∃ (n k:Int),vs=[.int n,.int k]/\0<=k/\∀ H',Same H H'->Q (.str (one (X7 n k))) H'
noncomputable def akY (K:PySem.W.Frag) (m:Nat):Sp:=fun vs H Q _=>∃ (a:Addr) (ns:List Int),vs=[.ref a]/\D8 K H a (ns.map V.int)/\∀ l H',H l=none->Same H H'->H' l=some (.lst ((poolL (numF ns 0) m).map V.str))->Q (.ref l) H'
noncomputable def anh (K:PySem.W.Frag) (m:Nat):Sp:=fun vs H Q _=>∃ (a:Addr) (ns:List Int),vs=[.ref a]/\D8 K H a (ns.map V.int)/\∀ l H' (ds:List Int),H l=none->Same H H'->H' l=some (.lst (ds.map V.int))->ds.length=m->Q (.ref l) H'
structure Row8(n:Int)(m i:Nat)(ds:List Int)(ls:List Str):Prop where
 nd:ls.Nodup
 mm:∀ p,p∈ls↔p=p8 n m\/p=p8 n (m+1)\/∃ k<i,ds.getD k 0 % 6=0/\p=p8 n k
 le:ls.length<=2+i
theorem Row8.perm{n:Int}(h:Row8 n m i ds ls)(hp:ls'.Perm ls):Row8 n m i ds ls':=
 ⟨hp.nodup_iff.mpr h.nd,fun p=>(hp.mem_iff).trans (h.mm p),by rw [hp.length_eq];exact h.le⟩
theorem uab{n:Int}(hm:m<50):Row8 n m 0 ds [p8 n m,p8 n (m+1)]:=by
 refine ⟨?_,fun p=>?_,C3 _⟩
 .rw [W1];refine ⟨fun h=>?_,by simp⟩
  have:=bI 'a' 'a' (E5.mp h)
  lia
 .simp
theorem Row8.no{n:Int}(h:Row8 n m i ds ls)(hd:¬ ds.getD i 0 % 6=0):Row8 n m (i+1) ds ls:=by
 refine ⟨h.nd,fun p=>?_,by have:=h.le;lia⟩;rw [h.mm p];refine or_congr Iff.rfl (or_congr Iff.rfl ⟨fun ⟨k,hk,e⟩=>⟨k,by lia,e⟩,fun ⟨k,hk,e⟩=>⟨k,?_,e⟩⟩)
 have:k≠i:=fun q=>hd (by rw [<- q];exact e.1)
 lia
theorem Row8.yes{n:Int}(h:Row8 n m i ds ls)(hm:m<50)(hi:i<m)(hd:ds.getD i 0 % 6=0)(hp:ls'.Perm (p8 n i::ls)):Row8 n m (i+1) ds ls':=by
 have iT:p8 n i∉ls:=fun q=>by
  rcases (h.mm _).mp q with e | e | ⟨k,hk,_,e⟩
  .have:=bI 'a' 'a' e;lia
  .have:=bI 'a' 'a' e;lia
  .have:=bI 'a' 'a' e;lia
 refine ⟨hp.nodup_iff.mpr (W1.mpr ⟨iT,h.nd⟩),fun p=>?_,by rw [hp.length_eq,L0];have:=h.le;lia⟩;rw [hp.mem_iff,L4,h.mm p]
 constructor
 .rintro (rfl | e | e | ⟨k,hk,e⟩)
  .exact .inr (.inr ⟨i,by lia,hd,rfl⟩)
  .exact .inl e
  .exact .inr (.inl e)
  .exact .inr (.inr ⟨k,by lia,e⟩)
 .rintro (e | e | ⟨k,hk,e1,e2⟩)
  .exact .inr (.inl e)
  .exact .inr (.inr (.inl e))
  .by_cases jE:k=i
   .rw [jE] at e2;exact .inl e2
   .exact .inr (.inr (.inr ⟨k,by lia,e1,e2⟩))
noncomputable def ani (K:PySem.W.Frag) (m m4:Nat):Sp:=fun vs H Q _=>∃ (p d:Addr) (t n:Int) (ds:List Int),vs=[.ref p,.ref d,.int t]/\H p=some (.lst ((poolL n m4).map V.str))/\H d=some (.lst (ds.map V.int))/\ds.length=m/\∀ l H' ls,H l=none->Same H H'->H' l=some (.lst (ls.map V.str))->Row8 n m m ds ls->Q (.ref l) H'
noncomputable def prt8 (n:Int) (m:Nat) (c:Int):List Str:=if c=3 then [p8 n (m+2)] else if c=4 then [p8 n (m+3)] else if c=5 then [p8 n (m+2),p8 n (m+3)] else []
noncomputable def T9 (n:Int) (m:Nat) (d:Int):Str:=if d / 6 % 2=0 then p8 n m else p8 n (m+1)
noncomputable def Q9 (n:Int) (m:Nat) (d:Int) (k:Nat):List Rl:=if d % 6=0 then [] else if d % 6=2 then [(("great" : Str),[T9 n m d,p8 n k])] else [(("as" : Str),p8 n k::T9 n m d::prt8 n m (d % 6))]
noncomputable def X8 (n:Int) (m:Nat) (ds:List Int) (i:Nat):List Rl:=(U8 i).flatMap fun k=>Q9 n m (ds.getD k 0) k
theorem fH(n:Int)(m:Nat)(ds:List Int)(i:Nat):X8 n m ds (i+1)=X8 n m ds i++Q9 n m (ds.getD i 0) i:=by
 unfold X8;rw [List.range_succ,e9]
 simp
theorem sT(n:Int)(m:Nat)(ds:List Int):∀ i,(X8 n m ds i).length<=i
 | 0=>C3 _
 | i+1=>by
  rw [fH,D6]
  have:=sT n m ds i
  have:(Q9 n m (ds.getD i 0) i).length<=1:=by unfold Q9;split;simp;split <;> simp
  lia
theorem X8_mem{n:Int}{z:Rl} : z∈X8 n m ds i↔∃ k<i,z∈Q9 n m (ds.getD k 0) k:=by
 unfold X8;rw [W0];exact ⟨fun ⟨k,hk,h⟩=>⟨k,k6.mp hk,h⟩,fun ⟨k,hk,h⟩=>⟨k,k6.mpr hk,h⟩⟩
theorem sU{n:Int}{d:Int}{z:Rl}(h:z∈Q9 n m d k):cW z=p8 n k/\¬ d % 6=0:=by
 unfold Q9 at h
 split at h
 .cases h
 .rename_i h0
  split at h
  .rw [E5.mp h];exact ⟨rfl,h0⟩
  .rw [E5.mp h];exact ⟨rfl,h0⟩
theorem X8_nd{n:Int} : ∀ {i:Nat},i<=50->((X8 n m ds i).map cW).Nodup
 | 0,_=>by simp [X8]
 | i+1,h=>by
  rw [fH,D0];refine Z5.mpr ⟨X8_nd 'a',?_,fun a ha b hb e=>?_⟩
  .unfold Q9
   split
   .simp
   .split <;> simp
  .obtain ⟨z,hz,rfl⟩:=D7.mp ha;obtain ⟨k,hk,hz⟩:=X8_mem.mp hz;obtain ⟨z',c9,rfl⟩:=D7.mp hb;rw [(sU hz).1,(sU c9).1] at e
   have:=bI 'a' 'a' e
   lia
noncomputable def lK (n:Int) (m:Nat) (ms:List Str):Prop:=ms=[p8 n (m+2),p8 n (m+3)]\/ms=[p8 n (m+3),p8 n (m+2)]
theorem lK.mem{n:Int}(h:lK n m ms){p:Str} : p∈ms↔p=p8 n (m+2)\/p=p8 n (m+3):=by
 rcases h with rfl | rfl <;> simp [or_comm]
theorem yA{n:Int}{c:Int}(h:q∈prt8 n m c):q=p8 n (m+2)\/q=p8 n (m+3):=by
 unfold prt8 at h
 split at h
 .exact .inl (E5.mp h)
 .split at h
  .exact .inr (E5.mp h)
  .split at h
   .simpa using h
   .cases h
theorem anj{n:Int}(hm:m<=10)(hr:Row8 n m m ds ls)(hk:lK n m ms):Sh8 ls ms (X8 n m ds m):=by
 have hb:∀ d,T9 n m d∈ls:=fun d=>by
  unfold T9;rw [hr.mm]
  split
  .exact .inl rfl
  .exact .inr (.inl rfl)
 have lsj:∀ p∈ls,∃ k<m+2,p=p8 n k/\(k<m->ds.getD k 0 % 6=0):=fun p hp=>by
  rcases (hr.mm p).mp hp with e | e | ⟨k,hk,h0,e⟩
  .exact ⟨m,by lia,e,fun h=>absurd h (f7 _)⟩
  .exact ⟨m+1,by lia,e,fun h=>by lia⟩
  .exact ⟨k,by lia,e,fun _=>h0⟩
 have xj:∀ p∈(X8 n m ds m).map cW,∃ k<m,p=p8 n k/\¬ ds.getD k 0 % 6=0:=fun p hp=>by
  obtain ⟨z,hz,rfl⟩:=D7.mp hp;obtain ⟨k,hk,hz⟩:=X8_mem.mp hz;exact ⟨k,hk,(sU hz).1,(sU hz).2⟩
 have msj:∀ p∈ms,∃ k,m+2<=k/\k<m+4/\p=p8 n k:=fun p hp=>by
  rcases hk.mem.mp hp with e | e
  .exact ⟨m+2,by lia,by lia,e⟩
  .exact ⟨m+3,by lia,by lia,e⟩
 refine ⟨fun z hz=>?_,Z5.mpr ⟨?_,Z5.mpr ⟨X8_nd 'a',hr.nd,fun a ha b hb e=>?_⟩,fun a ha b hb e=>?_⟩,fun p hp=>?_,by have:=hr.le;lia,by rcases hk with rfl | rfl <;> simp,by have:=sT n m ds m;lia⟩
 .obtain ⟨k,jD,hz⟩:=X8_mem.mp hz;unfold Q9 at hz
  split at hz
  .cases hz
  .split at hz
   .exact .inl ⟨_,_,hb _,E5.mp hz⟩
   .refine .inr ⟨_,_,_,hb _,fun q hq=>hk.mem.mpr (yA hq),?_,E5.mp hz⟩;unfold prt8
    split
    .simp
    .split
     .simp
     .split <;> simp
 .have G8:p8 n (m+2)≠p8 n (m+3):=fun e=>by have:=bI 'a' 'a' e;lia
  rcases hk with rfl | rfl
  .simp [G8]
  .simp [G8.symm]
 .obtain ⟨k,hk,e1,h1⟩:=xj a ha;obtain ⟨j,hj,e2,h2⟩:=lsj b hb
  have:=bI 'a' 'a' (e1.symm.trans (e.trans e2))
  subst this;exact h1 (h2 hk)
 .obtain ⟨k,hk1,jD,e1⟩:=msj a ha
  have:∃ j<m+2,b=p8 n j:=by
   rcases E8.mp hb with hb | hb
   .obtain ⟨j,hj,e2,_⟩:=xj b hb;exact ⟨j,by lia,e2⟩
   .obtain ⟨j,hj,e2,_⟩:=lsj b hb;exact ⟨j,hj,e2⟩
  obtain ⟨j,hj,e2⟩:=this
  have:=bI 'a' 'a' (e1.symm.trans (e.trans e2))
  lia
 .have:∃ j,p=p8 n j:=by
   rcases E8.mp hp with hp | hp
   .obtain ⟨k,_,_,e⟩:=msj p hp;exact ⟨k,e⟩
   rcases E8.mp hp with hp | hp
   .obtain ⟨k,_,e,_⟩:=xj p hp;exact ⟨k,e⟩
   .obtain ⟨k,_,e,_⟩:=lsj p hp;exact ⟨k,e⟩
  obtain ⟨j,rfl⟩:=this;exact ⟨_,rfl,(sS n j).2⟩
noncomputable def E9 (R:List Rl) (L M:List Str) (c:Nat):En:=match stepF R L M (one c) with
 | s::r=>(s.2.1,r.map (·.2.1),s.2.2)
 | []=>(0,[],0)
theorem sV{i k:Int}{js:List Int}(h:stepF R L M (one c)=(2,i,k)::js.map fun j=>(0,j,0)):E9 R L M c=(i,js,k):=by
 unfold E9;rw [h];simp [Function.comp_def]
structure O8(n:Int)(m:Nat)(ds:List Int)(ls ms:List Str)(bh:Bool)(R:List Rl)(L M:List Str):Prop where
 rd:R=R8 ls ms (X8 n m ds m) bh
 rw8:Row8 n m m ds ls
 mk8:lK n m ms
 m10:m<=10
 l1:Q5 R "row" L
 l2:Q5 R "marks" M
theorem O8.sh{n:Int}(h:O8 n m ds ls ms bh R L M):Sh8 ls ms (X8 n m ds m):=anj h.m10 h.rw8 h.mk8
theorem O8.row{n:Int}(h:O8 n m ds ls ms bh R L M)(hc:one c∈ls):stepF R L M (one c)=[(2,(ls.idxOf (one c):Int),0)]:=by
 have:=h.rd
 subst this;exact h.sh.sl h.l1 h.l2 hc
theorem O8.bsm{n:Int}(h:O8 n m ds ls ms bh R L M)(d:Int):T9 n m d∈ls:=by
 unfold T9;rw [h.rw8.mm]
 split
 .exact .inl rfl
 .exact .inr (.inl rfl)
theorem O8.grt{n:Int}(h:O8 n m ds ls ms bh R L M)(hk:k<m)(h2:ds.getD k 0 % 6=2):stepF R L M (p8 n k)=[(2,(ls.idxOf (T9 n m (ds.getD k 0)):Int),(((D9 (X8 n m ds k) (T9 n m (ds.getD k 0))).length+1:Nat):Int))]:=by
 have:=h.rd
 subst this;have hz:Q9 n m (ds.getD k 0) k=[(("great" : Str),[T9 n m (ds.getD k 0),p8 n k])]:=by unfold Q9;rw [if_neg 'a',if_pos h2]
 refine h.sh.sg h.l1 h.l2 (X8_mem.mpr ⟨k,hk,by rw [hz];exact M7⟩) ?_;have fa:∀ A B y,D9 (A++B) y=D9 A y++D9 B y:=fun A B y=>by unfold D9;rw [cP,cA,e9]
 have pre:∀ j,k<j->∃ more,D9 (X8 n m ds j) (T9 n m (ds.getD k 0))=D9 (X8 n m ds k) (T9 n m (ds.getD k 0))++p8 n k::more:=fun j hj=>by
  induction j with
  | zero=>lia
  | succ j ih=>
   rw [fH,fa]
   by_cases e:j=k
   .subst e;rw [hz];refine ⟨[],?_⟩
    have:D9 [(("great" : Str),[T9 n m (ds.getD j 0),p8 n j])] (T9 n m (ds.getD j 0))=[p8 n j]:=by
     unfold D9 K8;rw [bZ,if_pos rfl]
     simp
    rw [this]
   .obtain ⟨more,e2⟩:=ih 'a';exact ⟨more++D9 (Q9 n m (ds.getD j 0) j) (T9 n m (ds.getD k 0)),by rw [e2];simp⟩
 obtain ⟨more,e⟩:=pre m hk;rw [e,gF (C3 _),Nat.sub_self];rfl
theorem O8.cnt{n:Int}(h:O8 n m ds ls ms bh R L M)(hk:k<m)(h0:¬ ds.getD k 0 % 6=0)(h2:¬ ds.getD k 0 % 6=2):stepF R L M (p8 n k)=(2,(ls.idxOf (T9 n m (ds.getD k 0)):Int),0)::(prt8 n m (ds.getD k 0 % 6)).map fun q=>(0,(ms.idxOf q:Int),0):=by
 have:=h.rd
 subst this;refine h.sh.sa h.l1 h.l2 (h.bsm _) (fun q hq=>h.mk8.mem.mpr (yA hq)) (X8_mem.mpr ⟨k,hk,?_⟩);unfold Q9;rw [if_neg h0,if_neg h2];exact M7
noncomputable def sg8L (n:Int) (m:Nat):List Nat:=(U8 m).map fun k:Nat=>X7 n (k:Int)
theorem O8.ens{n:Int}(h:O8 n m ds ls ms bh R L M):EnS R L M (sg8L n (m+2)) (E9 R L M):=by
 have sh:=h.sh;have e:=h.rd;have inn:∀ k:Nat,k<m+2->(k<m/\¬ ds.getD k 0 % 6=0)\/p8 n k∈ls:=fun k hk=>by
  by_cases fS:k<m
  .by_cases h0:ds.getD k 0 % 6=0
   .exact .inr ((h.rw8.mm _).mpr (.inr (.inr ⟨k,fS,h0,rfl⟩)))
   .exact .inl ⟨fS,h0⟩
  .refine .inr ((h.rw8.mm _).mpr ?_)
   by_cases hm:k=m
   .exact .inl (by rw [hm])
   .exact .inr (.inl (by rw [show k=m+1 by lia]))
 refine ⟨by rw [e];exact sh.has.1,fun p hp=>?_,fun c hc=>?_,fun c hc=>?_⟩
 .rw [e] at hp;obtain ⟨c,e,_⟩:=sh.on p (sh.known.mp hp);exact ⟨c,e⟩
 .obtain ⟨k,hk,rfl⟩:=D7.mp hc;have hk:=k6.mp hk;rw [e];refine sh.known.mpr (O4 _ ?_)
  rcases inn k hk with ⟨fS,h0⟩ | hl
  .refine Q2 _ (D7.mpr ?_)
   by_cases h2:ds.getD k 0 % 6=2
   .exact ⟨_,X8_mem.mpr ⟨k,fS,by unfold Q9;rw [if_neg h0,if_pos h2];exact M7⟩,rfl⟩
   .exact ⟨_,X8_mem.mpr ⟨k,fS,by unfold Q9;rw [if_neg h0,if_neg h2];exact M7⟩,rfl⟩
  .exact O4 _ hl
 .obtain ⟨k,hk,rfl⟩:=D7.mp hc;have hk:=k6.mp hk;have key:∀ {i c:Int} {js:List Int},stepF R L M (one (X7 n (k:Int)))=(2,i,c)::(js.map fun j=>(0,j,0))->stepF R L M (one (X7 n (k:Int)))=(2,(E9 R L M (X7 n (k:Int))).1,(E9 R L M (X7 n (k:Int))).2.2)::(E9 R L M (X7 n (k:Int))).2.1.map fun j=>(0,j,0):=fun {i c js} hs=>by rw [sV hs];exact hs
  rcases inn k hk with ⟨fS,h0⟩ | hl
  .by_cases h2:ds.getD k 0 % 6=2
   .exact key (js:=[]) (h.grt fS h2)
   .refine key (i:=(ls.idxOf (T9 n m (ds.getD k 0)):Int)) (c:=0) (js:=(prt8 n m (ds.getD k 0 % 6)).map fun q=>(ms.idxOf q:Int)) ?_;rw [R3];exact h.cnt fS h0 h2
  .exact key (js:=[]) (h.row hl)
noncomputable def y7 (n:Int) (m:Nat) (ds:List Int) (ls ms:List Str) (y:Str) (e:En):Prop:=(y∈ls/\e=((ls.idxOf y:Int),[],0))\/∃ k<m,y=p8 n k/\¬ ds.getD k 0 % 6=0/\((ds.getD k 0 % 6=2/\e=((ls.idxOf (T9 n m (ds.getD k 0)):Int),[],(((D9 (X8 n m ds k) (T9 n m (ds.getD k 0))).length+1:Nat):Int)))\/(¬ ds.getD k 0 % 6=2/\e=((ls.idxOf (T9 n m (ds.getD k 0)):Int),(prt8 n m (ds.getD k 0 % 6)).map fun q=>(ms.idxOf q:Int),0)))
theorem y7.en{n:Int}(h:O8 n m ds ls ms bh R L M){e:En}(ht:y7 n m ds ls ms (one c) e):E9 R L M c=e:=by
 rcases ht with ⟨hl,rfl⟩ | ⟨k,hk,hy,h0,⟨h2,rfl⟩ | ⟨h2,rfl⟩⟩
 .exact sV (js:=[]) (h.row hl)
 .have:=h.grt hk h2
  rw [<- hy] at this;exact sV (js:=[]) this
 .have:=h.cnt hk h0 h2
  rw [<- hy] at this;refine sV ?_;rw [R3];exact this
noncomputable def EnAt (H:Hp) (p q:Addr) (e:En):Prop:=H p=some (.tup [.int e.1,.ref q,.int e.2.2])/\H q=some (.tup (e.2.1.map V.int))
theorem EnAt.same{q:Addr}{e:En}(h:EnAt H p q e)(S:Same H H'):EnAt H' p q e:=⟨S _ _ h.1,S _ _ h.2⟩
noncomputable def IsTb (T:Str->En->Prop) (H:Hp) (d:Addr) (ks:List Str):Prop:=∃ (ad mt:Str->Addr) (F:Str->En),H d=some (.dK (C2 ks fun y=>.ref (ad y)))/\∀ y∈ks,T y (F y)/\EnAt H (ad y) (mt y) (F y)
theorem IsTb.same{T:Str->En->Prop}{d:Addr}(h:IsTb T H d ks)(S:Same H H'):IsTb T H' d ks:=
 let ⟨ad,mt,F,h1,h2⟩:=h
 ⟨ad,mt,F,S _ _ h1,fun y hy=>⟨(h2 y hy).1,(h2 y hy).2.same S⟩⟩
theorem IsTb.mono{T T':Str->En->Prop}{d:Addr}(h:IsTb T H d ks)(hT:∀ y e,T y e->T' y e):IsTb T' H d ks:=
 let ⟨ad,mt,F,h1,h2⟩:=h
 ⟨ad,mt,F,h1,fun y hy=>⟨hT _ _ (h2 y hy).1,(h2 y hy).2⟩⟩
theorem IsTb.top{T:Str->En->Prop}{d:Addr}(h:IsTb T H d ks):∃ kvs,H d=some (.dK kvs)/\kvs.length=ks.length:=by
 obtain ⟨ad,mt,F,h1,h2⟩:=h;exact ⟨_,h1,l6 _ _⟩
theorem IsTb.get{T:Str->En->Prop}{d:Addr}(h:IsTb T H d ks){y:Str}(hy:y∈ks):∃ p q e,DGet H d (.str y) (some (.ref p))/\T y e/\EnAt H p q e:=by
 obtain ⟨ad,mt,F,h1,h2⟩:=h
 have:DGet H d (kV (Sum.inr y)) (valV (C2 ks fun y=>V.ref (ad y)) (Sum.inr y)):=g4 h1
 rw [Q4,if_pos hy] at this;exact ⟨ad y,mt y,F y,this,h2 y hy⟩
theorem IsTb.putL{T:Str->En->Prop}{d:Addr}{o:HO}(h:IsTb T H d ks)(hf:H f=some (.lst xs)):IsTb T (A0 H f o) d ks:=by
 obtain ⟨ad,mt,F,h1,h2⟩:=h;refine ⟨ad,mt,F,by rw [A7 (ne_of h1 hf (fun z=>by cases z))];exact h1,fun y hy=>⟨(h2 y hy).1,?_,?_⟩⟩
 .rw [A7 (ne_of (h2 y hy).2.1 hf (fun z=>by cases z))];exact (h2 y hy).2.1
 .rw [A7 (ne_of (h2 y hy).2.2 hf (fun z=>by cases z))];exact (h2 y hy).2.2
theorem IsTb.put{T:Str->En->Prop}{d:Addr}(h:IsTb T H d ks)(hl:ks.length<=1000){l:Str}{q:Addr}{e:En}(ht:T l e)(he:EnAt H p q e):∃ x,DPut H d (V.str l) (V.ref p) x/\IsTb T x d (dd ks l)/\∃ o,x=A0 H d o:=by
 obtain ⟨ad,mt,F,h1,h2⟩:=h;refine ⟨_,cM (k:=Sum.inr l) h1 (by rw [l6];exact L6 'a'),⟨fun y=>if y=l then p else ad y,fun y=>if y=l then q else mt y,fun y=>if y=l then e else F y,?_,fun y hy=>?_⟩,_,rfl⟩
 .rw [A3];have e:∀ t,(if t=l then V.ref p else V.ref (ad t))=V.ref (if t=l then p else ad t):=fun t=>by
   by_cases h:t=l
   .rw [if_pos h,if_pos h]
   .rw [if_neg h,if_neg h]
  unfold dd
  by_cases hl:l∈ks
  .rw [if_pos hl,oB _ hl];exact congrArg (fun x=>some (HO.dK x)) (V4 fun t _=>e t)
  .rw [if_neg hl,eU _ hl];exact congrArg (fun x=>some (HO.dK x)) (V4 fun t _=>e t)
 .have tu:∀ {c:Addr} {xs:List V} {o:HO},H c=some (.tup xs)->A0 H d o c=some (.tup xs):=fun {c xs o} e=>by rw [A7 (ne_of e h1 (fun z=>by cases z))];exact e
  by_cases h:y=l
  .subst h;simp only [if_true];exact ⟨ht,tu he.1,tu he.2⟩
  .simp only [if_neg h];have aD:y∈ks:=by
    unfold dd at hy
    by_cases hl:l∈ks
    .rw [if_pos hl] at hy;exact hy
    .rw [if_neg hl] at hy
     rcases E8.mp hy with q | q
     .exact q
     .exact absurd (E5.mp q) h
   exact ⟨(h2 y aD).1,tu (h2 y aD).2.1,tu (h2 y aD).2.2⟩
structure MadeT(C:Addr)(H:Hp)(t:Addr)(n:Int)(m:Nat)(bh:Bool)(R:List Rl)(L M:List Str):Prop where
 ex:∃ (x d:Addr) (ks:List Str),H t=some (.tup [.ref x,.ref d,.bl bh])/\OrdC C H x R L M/\IsTb (fun y e=>∃ c,y=one c/\E9 R L M c=e) H d ks/\∀ k<m+2,p8 n k∈ks
 en:EnS R L M (sg8L n (m+2)) (E9 R L M)
 bh:hasW R "behind"=bh
 st:∀ y,(stepF R L M y).length<=15
 two:∀ c d,two c d∉G6 R
theorem MadeT.same{t:Addr}{n:Int}(h:MadeT C H t n m bh R L M)(S:Same H H'):MadeT C H' t n m bh R L M:=
 let ⟨x,d,ks,h1,h2,h3,h4⟩:=h.ex
 ⟨⟨x,d,ks,S _ _ h1,h2.same S,h3.same S,h4⟩,h.en,h.bh,h.st,h.two⟩
noncomputable def akZ (C:Addr) (m m4:Nat):Sp:=fun vs H Q _=>∃ (p d s:Addr) (n s0 s1 s2:Int) (ds:List Int),vs=[.ref p,.ref d,.ref s]/\H p=some (.lst ((poolL n m4).map V.str))/\H d=some (.lst (ds.map V.int))/\H s=some (.lst [.int s0,.int s1,.int s2])/\ds.length=m/\(s1=0\/s1=1)/\
 ∀ t H' R L M,H t=none->Same H H'->MadeT C H' t n m (decide (s2=1)) R L M->(∀ f xs o,H f=some (.lst xs)->MadeT C (A0 H' f o) t n m (decide (s2=1)) R L M)->Q (.ref t) H'
noncomputable def ak0 (K:PySem.W.Frag) (C:Addr) (m m4:Nat):Sp:=fun vs H Q _=>∃ (a p:Addr) (n:Int) (ns:List Int),vs=[.ref a,.ref p]/\D8 K H a (ns.map V.int)/\H p=some (.lst ((poolL n m4).map V.str))/\
 ∀ t t1 t2 H' b1 b2 R L M R' L' M',H t=none->Same H H'->H' t=some (.tup [.ref t1,.ref t2])->MadeT C H' t1 n m b1 R L M->MadeT C H' t2 n m b2 R' L' M'->Q (.ref t) H'
noncomputable def cY (bh:Bool) (en:Nat->En) (z:Str) (k:Nat):LvD:=match k with
 | 0=>.ii (z.cps.toList.map fun c=>(en c).1)
 | 1=>.tt ((if bh=true then z.cps.toList.reverse else z.cps.toList).map fun c=>(en c).2.1)
 | 2=>.ii (z.cps.toList.map fun c=>(en c).2.2)
 | _=>.ss z
noncomputable def SdAt (H:Hp) (l:Addr) (d:LvD):Prop:=match d with
 | .ss z=>H l=some (.lst [.str z])
 | d=>LvAt H (.ref l) d
noncomputable def air (K:PySem.W.Frag) (C:Addr) (m:Nat):Sp:=fun vs H Q _=>∃ (t:Addr) (z:Str) (k:Nat) (n:Int) (bh:Bool) (R:List Rl) (L M:List Str),vs=[.str z,.ref t,.int ((k+1:Nat):Int)]/\k<4/\MadeT C H t n m bh R L M/\T0 (sg8L n (m+2)) z/\z.length<=500/\∀ l H',H l=none->Same H H'->SdAt H' l (cY bh (E9 R L M) z k)->Q (.ref l) H'
noncomputable def yB (K:PySem.W.Frag) (C:Addr) (m:Nat):Sp:=fun vs H Q _=>∃ (t:Addr) (z z':Str) (k:Nat) (n:Int) (bh:Bool) (R:List Rl) (L M:List Str),vs=[.str z,.str z',.ref t,.int k]/\k<=4/\MadeT C H t n m bh R L M/\T0 (sg8L n (m+2)) z/\T0 (sg8L n (m+2)) z'/\z.length<=500/\z'.length<=500/\∀ H',Same H H'->Q (.int (difL k (C7 bh (E9 R L M) z.cps.toList z'.cps.toList)).2) H'
theorem T8.putL{o:HO}(h:T8 H a R)(hf:H f=some (.lst xs))(ne:f≠a):T8 (A0 H f o) a R:=by
 obtain ⟨ts,h⟩:=h;exact ⟨ts,by rw [A7 ne.symm];exact h.top,O6 h.row fun _ _ e=>by rw [A7 (ne_of e hf (fun z=>by cases z))];exact e⟩
theorem T8.putD{o:HO}(h:T8 H a R)(hf:H f=some (.dK kvs)):T8 (A0 H f o) a R:=by
 obtain ⟨ts,h⟩:=h;exact ⟨ts,by rw [A7 (ne_of h.top hf (fun z=>by cases z))];exact h.top,O6 h.row fun _ _ e=>by rw [A7 (ne_of e hf (fun z=>by cases z))];exact e⟩
structure MdI(Hb H2:Hp)(rl tb fo:Addr)(T:Str->En->Prop)(ks:List Str)(R:List Rl)(a0 a1:Nat):Prop where
 same:Same Hb H2
 ru:T8 H2 rl R
 tab:IsTb T H2 tb ks
 fm:H2 fo=some (.lst [.int a0,.int a1])
 ne:fo≠rl
theorem MdI.more{tb:Addr}{T:Str->En->Prop}(h:MdI Hb H2 rl tb fo T ks R a0 a1)(S:Same H2 H3):MdI Hb H3 rl tb fo T ks R a0 a1:=⟨h.same.trans S,h.ru.same S,h.tab.same S,S _ _ h.fm,h.ne⟩
theorem MdI.rule{tb t:Addr}{T:Str->En->Prop}{z:Rl}(h:MdI Hb H3 rl tb fo T ks R a0 a1)(n:Hb rl=none)(hl:R.length<=1000)(ht:H3 t=some (tupR z)):∃ xs,H3 rl=some (.lst xs)/\xs.length<sizeLine/\MdI Hb (A0 H3 rl (.lst (xs++[V.ref t]))) rl tb fo T ks (R++[z]) a0 a1:=by
 obtain ⟨xs,e1,e2,e3⟩:=h.ru.more hl (cK H3) ht;exact ⟨xs,e1,e2,h.same.put n,e3,h.tab.putL e1,by rw [A7 h.ne];exact h.fm,h.ne⟩
theorem MdI.put{tb q:Addr}{T:Str->En->Prop}{l:Str}{e:En}(h:MdI Hb H3 rl tb fo T ks R a0 a1)(n:Hb tb=none)(hl:ks.length<=1000)(ht:T l e)(he:EnAt H3 p q e):∃ x,DPut H3 tb (V.str l) (V.ref p) x/\MdI Hb x rl tb fo T (dd ks l) R a0 a1:=by
 obtain ⟨kvs,hk,_⟩:=h.tab.top;obtain ⟨x,h1,h2,o,rfl⟩:=h.tab.put hl ht he;exact ⟨_,h1,h.same.put n,h.ru.putD hk,h2,by rw [A7 (ne_of h.fm hk (fun z=>by cases z))];exact h.fm,h.ne⟩
theorem MdI.form{tb:Addr}{T:Str->En->Prop}{b0 b1:Nat}(h:MdI Hb H3 rl tb fo T ks R a0 a1)(n:Hb fo=none):MdI Hb (A0 H3 fo (.lst [.int b0,.int b1])) rl tb fo T ks R b0 b1:=
 ⟨h.same.put n,h.ru.putL h.fm h.ne,h.tab.putL h.fm,A3,h.ne⟩
noncomputable def P0 (n:Int) (m:Nat) (ds:List Int) (i g:Nat):Nat:=(D9 (X8 n m ds i) (p8 n (m+g))).length
theorem agH(A B:List Rl)(y:Str):D9 (A++B) y=D9 A y++D9 B y:=by unfold D9;rw [cP,cA,e9]
theorem arJ{n:Int}{g:Nat}(h2:¬ ds.getD i 0 % 6=2):P0 n m ds (i+1) g=P0 n m ds i g:=by
 unfold P0;rw [fH,agH,D6]
 have:D9 (Q9 n m (ds.getD i 0) i) (p8 n (m+g))=[]:=by
  unfold Q9
  by_cases h0:ds.getD i 0 % 6=0
  .rw [if_pos h0];rfl
  .rw [if_neg h0,if_neg h2];unfold D9;rw [eW (show Str.ofString "as"≠Str.ofString "great" by decide +kernel)];rfl
 rw [this];rfl
theorem bs8_g{n:Int}{d:Int}{g:Nat}(hg:d / 6 % 2=g):T9 n m d=p8 n (m+g):=by
 unfold T9
 rcases (show g=0\/g=1 by lia) with rfl | rfl
 .rw [if_pos (by simpa using hg)];rfl
 .rw [if_neg 'a']
theorem aoT{n:Int}{g g':Nat}(hm:m<=50)(h2:ds.getD i 0 % 6=2)(hg:ds.getD i 0 / 6 % 2=g)(iW:g'<=1):P0 n m ds (i+1) g'=P0 n m ds i g'+if g'=g then 1 else 0:=by
 unfold P0;rw [fH,agH,D6];have e:Q9 n m (ds.getD i 0) i=[(("great" : Str),[p8 n (m+g),p8 n i])]:=by unfold Q9;rw [if_neg 'a',if_pos h2,bs8_g hg]
 rw [e]
 congr 1
 unfold D9 K8;rw [bZ,if_pos rfl]
 by_cases h:g'=g
 .rw [if_pos h,h];simp
 .rw [if_neg h]
  have:¬ p8 n (m+g)=p8 n (m+g'):=fun q=>h (by have:=bI 'a' 'a' q;lia)
  simp [this]
theorem dd_mem{l y:Str} : y∈dd ks l↔y∈ks\/y=l:=by
 unfold dd
 split
 .rename_i h
  exact ⟨.inl,fun q=>q.elim id fun e=>by rw [e];exact h⟩
 .simp
theorem yC(ks:List Str)(l:Str):(dd ks l).length<=ks.length+1:=by
 unfold dd
 split
 .lia
 .simp
theorem MadeT.mk8{t x d:Addr}{n:Int}(ht:H t=some (.tup [.ref x,.ref d,.bl bh]))(hO:OrdC C H x R L M)(h:O8 n m ds ls ms bh R L M)(hT:IsTb (y7 n m ds ls ms) H d ks)(hk:∀ k<m+2,p8 n k∈ks):MadeT C H t n m bh R L M:=by
 have sh:=h.sh;have e:=h.rd;have jF:∀ y e,y7 n m ds ls ms y e->∃ c,y=one c:=fun y e hy=>by
  rcases hy with ⟨hl,_⟩ | ⟨k,_,hy,_⟩
  .obtain ⟨c,e,_⟩:=sh.on y (O4 _ (O4 _ hl));exact ⟨c,e⟩
  .exact ⟨_,hy⟩
 refine ⟨⟨x,d,ks,ht,hO,hT.mono fun y e hy=>?_,hk⟩,h.ens,by rw [e];exact sh.has.2.1,fun y=>by rw [e];exact sh.steps L M y,fun c d q=>?_⟩
 .obtain ⟨c,rfl⟩:=jF y e hy;exact ⟨c,rfl,hy.en h⟩
 .obtain ⟨a,e2⟩:=h.ens.kn _ q;have e1:[c,d]=[a]:=congrArg (fun z:Str=>z.cps.toList) e2;cases e1
@[elab_as_elim] theorem newQ {H:Hp} {p:Addr} {o:HO} {G:Hp->Prop} (K0:Hp) (S:Same H K0) (e:K0 p=some o) (h:∀ K,Same H K->K p=some o->G K):G K0:=h K0 S e
theorem newT{o:HO}(n:H p=none):∃ H',A0 H p o=H'/\Same H H'/\H' p=some o:=⟨_,rfl,Same.new n,A3⟩
theorem y7.base{n:Int}{g:Nat}{e:En}(hm:m<=10)(hg:g<=1)(h:y7 n m ds ls ms (p8 n (m+g)) e):e=((ls.idxOf (p8 n (m+g)):Int),[],0):=by
 rcases h with ⟨_,rfl⟩ | ⟨k,hk,e,_⟩
 .rfl
 .have:=bI 'a' 'a' e
  lia
theorem addT(h1:H a=some (.tup xs))(h2:H b=some (.tup ys))(h0:xs≠[])(h3:xs.length+ys.length<=sizeLine)(q:∀ t H',Same H H'->H' t=some (.tup (xs++ys))->Q (.ref t) H'):rAddR K a b H Q:=
 rAddR.t (.of h1) (.of h2) h0 h3 (fun e=>q a H (cK _) (by rw [e,M8];exact h1)) fun _ p np=>q p _ (Same.new np) A3
theorem amF(n:Int)(m:Nat)(c:Int):(prt8 n m c).length<=2:=by
 unfold prt8
 split
 .simp
 .split
  .simp
  .split <;> simp
theorem afm{α β:Type}{F:α->β->Prop} : ∀ {l₁ zb:List α} {l₂ za:List β},Paired F l₁ l₂->Paired F zb za->Paired F (l₁++zb) (l₂++za)
 | _,_,_,_,.nil,h=>h
 | _,_,_,_,.cons r t,h=>.cons r (afm t h)
theorem aoU{x j:Addr}{g:Str->Str}{o:HO}(h:IsOrd C H x j ll ml md g R L M)(hf:H f=some (.lst xs))(n1:ll≠f)(n2:ml≠f):IsOrd C (A0 H f o) x j ll ml md g R L M:=by
 obtain ⟨dx,ho⟩:=h.ob;have nd:md≠f:=by
  obtain ⟨ad,h1,_⟩:=h.made;exact ne_of h1 hf (fun z=>by cases z)
 exact ⟨⟨dx,by rw [A7 (ne_of ho hf (fun z=>by cases z))];exact ho⟩,by rw [A7 (ne_of h.jobs hf (fun z=>by cases z))];exact h.jobs,by rw [A7 n1];exact h.lets,by rw [A7 n2];exact h.mrks,h.made.mod hf (fun _ z=>by cases z) nd,h.l1,h.l2⟩
theorem init8{H6:Hp}{x dx:Addr}{n:Int}{E:XK}(hR:T8 H6 r (R8 ls ms (X8 n m ds m) bh))(nx:H6 x=none)(ndx:H6 dx=none)(ne:dx≠x)(hm:m<=10)(hr:Row8 n m m ds ls)(hk:lK n m ms)(hQ:∀ H9 L M,Same H6 H9->(∀ H',Same H9 H'->OrdC C H' x (R8 ls ms (X8 n m ds m) bh) L M/\∀ f xs o,H6 f=some (.lst xs)->OrdC C (A0 H' f o) x (R8 ls ms (X8 n m ds m) bh) L M)->O8 n m ds ls ms bh (R8 ls ms (X8 n m ds m) bh) L M->Q .non H9):sH C [.ref x,.ref r] (A0 (A0 H6 dx (.own x)) x (.ins C dx [])) Q E:=by
 have sh:=anj hm hr hk;obtain ⟨ts,hR⟩:=hR;have S8:Same H6 (A0 (A0 H6 dx (.own x)) x (.ins C dx [])):=(Same.new ndx).trans (Same.new (by rw [A7 ne.symm];exact nx));have uE:A0 (A0 H6 dx (.own x)) x (.ins C dx []) x=some (.ins C dx []):=A3;generalize A0 (A0 H6 dx (.own x)) x (.ins C dx [])=H8 at S8 uE;have sty:∀ L M y,(stepY (R8 ls ms (X8 n m ds m) bh) L M y).length<=15:=fun L M y=>by
  unfold L2.stepY
  split
  .show 1<=15;decide
  .exact sh.steps L M y
 refine ⟨x,dx,r,ts,_,_,_,_,rfl,uE,hR.same S8,sh.good,fun j ll ml md L M H9 nj nll nml nmd B9 hO=>?_⟩;have S9:Same H6 H9:=fun b o hb=>B9 _ _ (fun e=>by rw [e,nx] at hb;cases hb) (S8 _ _ hb)
 refine hQ H9 L M S9 (fun H' S'=>⟨⟨⟨j,ll,ml,md,hO.same S'⟩,sh.knownL,sty L M⟩,fun f xs o hf=>⟨⟨j,ll,ml,md,aoU (hO.same S') ((S9.trans S') _ _ hf) (fun e=>?_) (fun e=>?_)⟩,sh.knownL,sty L M⟩⟩) ⟨rfl,hr,hk,hm,hO.l1,hO.l2⟩
 .have:=S8 _ _ hf
  rw [<- e,nll] at this
  cases this
 .have:=S8 _ _ hf
  rw [<- e,nml] at this
  cases this
theorem aoV(h:signB c=true):p9 (one c)=true:=(ajS (ajT h)).1
theorem ank{n:Int}(h:T0 (sg8L n m) z):p9 z=true:=by
 unfold p9;rw [<- Array.all_toList,List.all_eq_true];intro c hc;obtain ⟨k,_,rfl⟩:=D7.mp (h c hc)
 have:=(sS n (k:Int)).2
 unfold signB at this;simp only [f8,decide_eq_true_eq] at this ⊢
 lia
theorem arK{α β:Type}{l:List α}{f:α->β} : (if bh=true then l.reverse else l).map f=if bh=true then (l.map f).reverse else l.map f:=by
 cases bh <;> simp
theorem arL{en:Nat->En}(hi:i<4):C7 bh en z.cps.toList z'.cps.toList i=cmpD (cY bh en z i) (cY bh en z' i):=by
 match i,hi with
 | 0,_=>exact (xY _ _).symm
 | 1,_=>exact (akV _ _).symm
 | 2,_=>exact (xY _ _).symm
 | 3,_=>exact (akW _ _).symm
theorem aoW{en:Nat->En}(hi:i<4):(cY bh en z i).kind=(cY bh en z' i).kind:=by
 match i,hi with
 | 0,_=>rfl
 | 1,_=>rfl
 | 2,_=>rfl
 | 3,_=>rfl
theorem SdAt.same{l:Addr}{d:LvD}(h:SdAt H l d)(S:Same H H'):SdAt H' l d:=by
 cases d with
 | ss z=>exact S _ _ h
 | tt xs=>exact LvAt.same (d:=.tt xs) h S
 | ii xs=>exact LvAt.same (d:=.ii xs) h S
theorem SdAt.ne{l l':Addr}{d d':LvD}(h:SdAt H l d)(h':SdAt H l' d')(hk:d.kind=d'.kind)(ok:∀ z,d=.ss z->p9 z=true)(ok':∀ z,d'=.ss z->p9 z=true)(q:Q (.bl (!decide (d=d'))) H):rNeU K (.ref l) (.ref l') H Q:=by
 cases d with
 | ss z=>cases d' with
  | ss z'=>
   refine ⟨_,_,.lst (.of h) (.cons (.str z (ok z rfl)) .nil),.lst (.of h') (.cons (.str z' (ok' z' rfl)) .nil),by simp [eK,aQ],?_⟩;have e:(PyData.list [PyData.str z]).eqv (PyData.list [PyData.str z'])=decide (LvD.ss z=LvD.ss z'):=by
    have:=ahR [z] [z']
    simpa using this
   rw [e];exact q
  | _=>cases hk
 | tt xs=>cases d' with
  | tt ys=>exact LvAt.ne (d:=.tt xs) (d':=.tt ys) h h' hk q
  | _=>cases hk
 | ii xs=>cases d' with
  | ii ys=>exact LvAt.ne (d:=.ii xs) (d':=.ii ys) h h' hk q
  | _=>cases hk
theorem SdAt.lt{l l':Addr}{d d':LvD}(h:SdAt H l d)(h':SdAt H l' d')(hk:d.kind=d'.kind)(q:Q (.bl (d.lt d')) H):rLtL K (.ref l) (.ref l') H Q:=by
 cases d with
 | ss z=>cases d' with
  | ss z'=>
   refine .inr ⟨l,l',[z],[z'],rfl,rfl,.of h,.of h',?_⟩;have e:decide (([z].map fun z:Str=>z.cps.toList)<[z'].map fun z:Str=>z.cps.toList)=(LvD.ss z).lt (.ss z'):=by
    refine decide_eq_decide.mpr ?_;show ([z.cps.toList]<[z'.cps.toList])↔_;rw [gH];exact ⟨fun h=>h.elim id fun h=>absurd h.2 (List.not_lt_nil _),.inl⟩
   rw [e];exact q
  | _=>cases hk
 | tt xs=>cases d' with
  | tt ys=>exact .inl (LvAt.lt (d:=.tt xs) (d':=.tt ys) h h' hk q)
  | _=>cases hk
 | ii xs=>cases d' with
  | ii ys=>exact .inl (LvAt.lt (d:=.ii xs) (d':=.ii ys) h h' hk q)
  | _=>cases hk
noncomputable def vE (k:Nat) (q:Addr) (e:En):V:=match k with
 | 0=>.int e.1
 | 1=>.ref q
 | _=>.int e.2.2
theorem vE_at{q:Addr}{e:En}(hk:k<3):F8 [V.int e.1,V.ref q,V.int e.2.2] (((k+1:Nat):Int)-1)=some (vE k q e):=by
 match k,hk with
 | 0,_=>rfl
 | 1,_=>rfl
 | 2,_=>rfl
theorem sd_of{l:Addr}{en:Nat->En}{es:List (Addr×En)}(hk:k<3)(hl:H l=some (.lst (if k=1/\bh=true then (es.map fun e=>vE k e.1 e.2).reverse else es.map fun e=>vE k e.1 e.2)))(he:es.map (·.2)=z.cps.toList.map en)(hp:∀ e∈es,H e.1=some (.tup (e.2.2.1.map V.int))):SdAt H l (cY bh en z k):=by
 have hm:∀ f:En->Int,(es.map fun e=>V.int (f e.2))=(z.cps.toList.map fun c=>f (en c)).map V.int:=fun f=>by
  have:=congrArg (List.map fun x=>V.int (f x)) he
  rw [R3,R3] at this;rw [R3];exact this
 match k,hk with
 | 0,_=>exact ⟨l,rfl,by rw [hl,if_neg (fun h=>absurd h.1 (by decide))];exact congrArg (fun x=>some (HO.lst x)) (hm fun e=>e.1)⟩
 | 2,_=>exact ⟨l,rfl,by rw [hl,if_neg (fun h=>absurd h.1 (by decide))];exact congrArg (fun x=>some (HO.lst x)) (hm fun e=>e.2.2)⟩
 | 1,_=>
  have pr:∀ {es:List (Addr×En)},(∀ e∈es,H e.1=some (.tup (e.2.2.1.map V.int)))->Paired (fun c (x:List Int)=>H c=some (.tup (x.map V.int))) (es.map (·.1)) ((es.map (·.2)).map fun e=>e.2.1):=fun {es} h=>by
   induction es with
   | nil=>exact .nil
   | cons e es ih=>exact .cons (h e M7) (ih fun e he=>h e (O5 _ he))
  have p0:=pr hp;rw [he,R3] at p0
  cases bh with
  | false=>exact ⟨l,es.map (·.1),rfl,by rw [hl,if_neg (fun h=>by cases h.2),R3];rfl,p0⟩
  | true=>
   refine ⟨l,(es.map (·.1)).reverse,rfl,by rw [hl,if_pos ⟨rfl,rfl⟩,List.map_reverse,R3];rfl,?_⟩;rw [arK,if_pos rfl];exact xN p0
theorem EnS.sub{S':List Nat}{en:Nat->En}(h:EnS R L M S en)(hs:∀ c∈S',c∈S):EnS R L M S' en:=⟨h.nf,h.kn,fun c hc=>h.ki c (hs c hc),fun c hc=>h.st c (hs c hc)⟩
theorem EnS.plain{en:Nat->En}(h:EnS R L M S en)(hc:c∈S):fG R L M (one c)=true:=by
 unfold fG letN;rw [h.st c hc,jR 'c',mV.mpr (fun s hs=>by
  obtain ⟨j,_,rfl⟩:=D7.mp hs
  simp)]
 rfl
structure Zs8(n:Int)(m:Nat)(zs:List Str):Prop where
 len:zs.length<=10
 of:∀ z∈zs,∃ j<m+2,z=p8 n j
noncomputable def yD (zs:List Str):List Nat:=zs.map fun z=>z.cps.toList.headD 0
theorem Zs8.ch{n:Int}(h:Zs8 n m zs):(∀ z∈zs,∃ c∈yD zs,z=one c)/\(∀ c∈yD zs,one c∈zs/\c∈sg8L n (m+2)):=by
 refine ⟨fun z hz=>?_,fun c hc=>?_⟩
 .obtain ⟨j,hj,e⟩:=h.of z hz;exact ⟨X7 n (j:Int),D7.mpr ⟨z,hz,by rw [e];rfl⟩,e⟩
 .obtain ⟨z,hz,rfl⟩:=D7.mp hc;obtain ⟨j,hj,e⟩:=h.of z hz;rw [e] at hz ⊢
  exact ⟨hz,D7.mpr ⟨j,k6.mpr hj,rfl⟩⟩
theorem Zs8.chk{n:Int}(h:Zs8 n m zs){t t':Addr}{b:Bool}(h1:MadeT C H t n m b R L M)(h2:MadeT C H t' n m b' R' L' M'):chkF R L M R' L' M' zs=none/\∀ z∈zs,t7 R z/\t7 R' z:=by
 have ofz:∀ z∈zs,∃ c∈sg8L n (m+2),z=one c:=fun z hz=>by
  obtain ⟨c,hc,e⟩:=h.ch.1 z hz;exact ⟨c,(h.ch.2 c hc).2,e⟩
 constructor
 .unfold chkF;rw [Option.or_eq_none_iff,aM,aM];refine ⟨fun z hz=>?_,fun t ht=>?_⟩
  .obtain ⟨c,hc,rfl⟩:=ofz z hz;rw [h1.en.plain hc,h2.en.plain hc]
   simp
  .obtain ⟨a,ha,ht⟩:=W0.mp ht;obtain ⟨b,hb,rfl⟩:=D7.mp ht;obtain ⟨c,_,rfl⟩:=ofz a ha;obtain ⟨d,_,rfl⟩:=ofz b hb;have e:one c++one d=two c d:=rfl;rw [e,decide_eq_false (h1.two c d),decide_eq_false (h2.two c d)]
   simp
 .intro z hz;obtain ⟨c,hc,rfl⟩:=ofz z hz;have oc:∀ e∈(one c).cps.toList,e∈sg8L n (m+2):=fun e he=>by rw [E5.mp (show e∈[c] from he)];exact hc
  exact ⟨⟨by show 1<=500;decide,h1.en.whole oc⟩,by show 1<=500;decide,h2.en.whole oc⟩
theorem wit8{t t':Addr}{n:Int}{b:Bool}(h1:MadeT C H t n m b R L M)(h2:MadeT C H t' n m b' R' L' M')(hz:Zs8 n m zs)(hk:k<=4)(U7:0<k){u v:Str}(hw:xU (hasW R "behind") (hasW R' "behind") (mvsF R L M R' L' M' k zs) zs u v) :
  (∀ c∈u.cps.toList,one c∈zs)/\(∀ c∈v.cps.toList,one c∈zs)/\T0 (sg8L n (m+2)) u/\T0 (sg8L n (m+2)) v/\(difL k (C7 b (E9 R L M) u.cps.toList v.cps.toList)).2≠(difL k (C7 b' (E9 R' L' M') u.cps.toList v.cps.toList)).2:=by
 obtain ⟨o5,N2⟩:=hz.ch;obtain ⟨i1,i2,i3⟩:=uao (h1.en.sub fun c hc=>(N2 c hc).2) (h2.en.sub fun c hc=>(N2 c hc).2) hk U7 o5 hw;rw [h1.bh,h2.bh] at i3;exact ⟨fun c hc=>(N2 c (i1 c hc)).1,fun c hc=>(N2 c (i2 c hc)).1,fun c hc=>(N2 c (i1 c hc)).2,fun c hc=>(N2 c (i2 c hc)).2,i3⟩
theorem arM{n:Int}(h0:0<=n)(h1:n<=3):MulOk ⟨#[c]⟩ n/\(Txt.mul ⟨#[c]⟩ n).length<=3/\∀ x∈(Txt.mul ⟨#[c]⟩ n).cps.toList,x=c:=by
 have h:n=0\/n=1\/n=2\/n=3:=by lia
 have l1:(⟨#[c]⟩:Str).length=1:=rfl
 rcases h with rfl | rfl | rfl | rfl
 .exact ⟨⟨by decide,fun h=>absurd (by decide) h,fun h=>absurd (by decide) h⟩,by show 0<=3;decide,fun x hx=>by simp [Txt.mul,Str.empty] at hx⟩
 .exact ⟨⟨by decide,fun _ h=>by simp at h,fun _ h=>by simp at h⟩,by show 1<=3;decide,fun x hx=>by simpa [Txt.mul] using hx⟩
 .refine ⟨⟨by decide,fun _ _=>by rw [l1];decide,fun _ _=>by rw [l1];decide⟩,by show 2<=3;decide,fun x hx=>?_⟩
  have:x∈[c,c]:=hx
  simpa using this
 .refine ⟨⟨by decide,fun _ _=>by rw [l1];decide,fun _ _=>by rw [l1];decide⟩,by show 3<=3;decide,fun x hx=>?_⟩
  have:x∈[c,c,c]:=hx
  simpa using this
theorem aoX{en en':Nat->En}(h:EnS R L M S en)(h':EnS R' L' M' S en')(hk:k<=4)(hz:∀ z∈zs,∃ c∈S,z=one c)(hs:∀ c∈S,one c∈zs){es:List BE}(B:Bfs (hasW R "behind") (hasW R' "behind") (mvsF R L M R' L' M' k zs) es es.length) :
  ∀ (q:Nat) (l l':List Nat),l.length=q->l'.length=q->(∀ c∈l,c∈S)->(∀ c∈l',c∈S)->∃ e∈es,e.r=roomF k (hasW R "behind") (hasW R' "behind") en en' l l':=by
 intro q
 induction q with
 | zero=>
  intro l l' e1 e2 _ _;obtain rfl:=aL.mp e1;obtain rfl:=aL.mp e2;obtain ⟨e,h1,h2⟩:=B.st;refine ⟨e,L3 h1,?_⟩;rw [h2];show _=join4 (difL k (C7 _ en [] [])) (difL k (C7 _ en' [] []));rw [bH fun j _=>sQ _ _ j,bH fun j _=>sQ _ _ j];rfl
 | succ q ih=>
  intro l l' e1 e2 hl fT;obtain ⟨a,x,rfl⟩:∃ a x,l=a++[x]:=⟨l.dropLast,l.getLast (fun e=>by rw [e] at e1;cases e1),(List.dropLast_concat_getLast _).symm⟩
  obtain ⟨b,y,rfl⟩:∃ b y,l'=b++[y]:=⟨l'.dropLast,l'.getLast (fun e=>by rw [e] at e2;cases e2),(List.dropLast_concat_getLast _).symm⟩
  rw [D6,X2] at e1 e2;obtain ⟨e,he,er⟩:=ih a b 'a' 'a' (fun c hc=>hl c (Q2 _ hc)) (fun c hc=>fT c (Q2 _ hc));obtain ⟨i,hi⟩:=mY.mp he;have hx:=hl x (O4 _ M7);have hy:=fT y (O4 _ M7);have oc:∀ {c},c∈S->∀ e∈(one c).cps.toList,e∈S:=fun {c} hc e he=>by rw [E5.mp (show e∈[c] from he)];exact hc
  have hm:((one x,one y,join4 (difR R L M k (one x) (one y)) (difR R' L' M' k (one x) (one y))):Mv)∈mvsF R L M R' L' M' k zs:=W0.mpr ⟨one x,hs x hx,D7.mpr ⟨one y,hs y hy,rfl⟩⟩;obtain ⟨e',he',er'⟩:=D7.mp ((B.cl i (E6.mp hi).1 e hi).2 _ hm).2;refine ⟨e',he',?_⟩;rw [er',xZ 'a' x y,<- er];show O9 _ _ e.r (join4 (difR R L M k (one x) (one y)) (difR R' L' M' k (one x) (one y)))=_;rw [h.dif hk (oc hx) (oc hy),h'.dif hk (oc hx) (oc hy)];rfl
theorem ais(U7:0<k){g g' f f':Nat->Int}{t:Int}(ht:t≠0)(mH:(difL k g).2=(difL k g').2)(mI:g 0≠0↔g' 0≠0)(e1:f 0=if g 0=0 then t else g 0)(e2:f' 0=if g' 0=0 then t else g' 0):(difL k f).2=(difL k f').2:=by
 by_cases h0:g 0=0
 .have h0':g' 0=0:=Classical.byContradiction fun q=>mI.mpr q h0
  rw [if_pos h0] at e1;rw [if_pos h0'] at e2;rw [iC U7 (by rw [e1];exact ht),iC U7 (by rw [e2];exact ht),e1,e2]
 .have h0':=mI.mp h0;rw [if_neg h0] at e1;rw [if_neg h0'] at e2;rw [iC U7 h0,iC U7 h0'] at mH;rw [iC U7 (by rw [e1];exact h0),iC U7 (by rw [e2];exact h0'),e1,e2];exact mH
theorem sW{en:Nat->En}{l:List Nat}(hl:l.length=l'.length)(x:Nat)(r:List Nat):C7 bh en (l++x::r) l' 0=(if C7 bh en l l' 0=0 then 1 else C7 bh en l l' 0)/\C7 bh en l (l'++x::r) 0=if C7 bh en l l' 0=0 then -1 else C7 bh en l l' 0:=by
 have:=xX eM ((en x).1) (r.map fun c=>(en c).1) (xs:=l.map fun c=>(en c).1) (ys:=l'.map fun c=>(en c).1) (by simpa using hl)
 refine ⟨?_,?_⟩
 .show cmpG ((l++x::r).map fun c=>(en c).1) (l'.map fun c=>(en c).1)=_;rw [D0];exact this.1
 .show cmpG (l.map fun c=>(en c).1) ((l'++x::r).map fun c=>(en c).1)=_;rw [D0];exact this.2
theorem arN{t t':Addr}{n:Int}{b:Bool}(h1:MadeT C H t n m b R L M)(h2:MadeT C H t' n m b' R' L' M')(hz:Zs8 n m zs)(hk:k<=4)(U7:0<k){es:List BE}(B:Bfs (hasW R "behind") (hasW R' "behind") (mvsF R L M R' L' M' k zs) es es.length){lu lv:List Nat}(hu:∀ c∈lu,one c∈zs)(hv:∀ c∈lv,one c∈zs) :
  (difL k (C7 b (E9 R L M) lu lv)).2=(difL k (C7 b' (E9 R' L' M') lu lv)).2/\∃ e∈es,e.r=roomF k b b' (E9 R L M) (E9 R' L' M') (lu.take (min lu.length lv.length)) (lv.take (min lu.length lv.length)):=by
 obtain ⟨o5,N2⟩:=hz.ch;have inS:∀ {c},one c∈zs->c∈yD zs:=fun {c} h=>D7.mpr ⟨one c,h,rfl⟩
 have key:=aoX (h1.en.sub fun c hc=>(N2 c hc).2) (h2.en.sub fun c hc=>(N2 c hc).2) hk o5 (fun c hc=>(N2 c hc).1) B;rw [h1.bh,h2.bh] at key;have ka:∀ l l':List Nat,l.length=l'.length->(∀ c∈l,one c∈zs)->(∀ c∈l',one c∈zs)->(∃ e∈es,e.r=roomF k b b' (E9 R L M) (E9 R' L' M') l l')/\(difL k (C7 b (E9 R L M) l l')).2=(difL k (C7 b' (E9 R' L' M') l l')).2/\(C7 b (E9 R L M) l l' 0≠0↔C7 b' (E9 R' L' M') l l' 0≠0):=fun l l' hl a1 a2=>by
  obtain ⟨e,he,er⟩:=key l.length l l' rfl hl.symm (fun c hc=>inS (a1 c hc)) (fun c hc=>inS (a2 c hc));obtain ⟨i,hi⟩:=mY.mp he;have mI:=(B.cl i (E6.mp hi).1 e hi).1;have mH:=(B.rc e he).even;unfold i9 at mH;unfold t8 at mI;rw [nA,decide_eq_true_iff,er] at mH;rw [nA,decide_eq_true_iff,decide_eq_decide,er] at mI;refine ⟨⟨e,he,er⟩,mH,?_⟩;rw [<- sR U7,<- sR U7];exact mI
 refine ⟨?_,(ka _ _ (by simp only [F7];lia) (fun c hc=>hu c (bY hc)) fun c hc=>hv c (bY hc)).1⟩
 rcases mZ lu.length lv.length with C5 | bR | hgt
 .have hs:lv=lv.take lu.length++lv[lu.length]::lv.drop (lu.length+1):=by rw [<- bX C5,e8]
  obtain ⟨_,k1,k2⟩:=ka lu (lv.take lu.length) (by rw [F7];lia) hu fun c hc=>hv c (bY hc)
  rw [hs];exact ais U7 (t:=-1) (by decide) k1 k2 (sW (by rw [F7];lia) _ _).2 (sW (by rw [F7];lia) _ _).2
 .exact (ka lu lv bR hu hv).2.1
 .have hs:lu=lu.take lv.length++lu[lv.length]::lu.drop (lv.length+1):=by rw [<- bX hgt,e8]
  obtain ⟨_,k1,k2⟩:=ka (lu.take lv.length) lv (by rw [F7];lia) (fun c hc=>hu c (bY hc)) hv;rw [hs];exact ais U7 (t:=1) (by decide) k1 k2 (sW (by rw [F7];lia) _ _).1 (sW (by rw [F7];lia) _ _).1
theorem aoY{l:List Nat} : F8 (l++[c]) (-1)=some c:=by
 have e:X4 (l++[c]).length (-1)=some l.length:=by
  unfold X4;rw [D6,X2,if_neg 'a',if_pos 'a']
  congr 1
  lia
 unfold F8;rw [e]
 simp
theorem takeS(z:Str)(j:Nat)(hj:j<=z.length):(cutS z none (some (j:Int))).cps.toList=z.cps.toList.take j:=by
 have e:=akG (z:=z) (y:=z.cps.toList.take j) (rest:=z.cps.toList.drop j) (e8 _ _).symm;rw [F7,lenL,cE hj] at e;rw [e]
theorem difL_zero{g:Nat->Int} : (difL i g).2=0↔∀ j<i,g j=0:=by
 rcases lJ i g with ⟨e,z⟩ | ⟨j,hj,e,nj,_⟩
 .rw [e];exact ⟨fun _=>z,fun _=>rfl⟩
 .rw [e];exact ⟨fun h=>absurd h nj,fun h=>h j hj⟩
noncomputable def ait (K:PySem.W.Frag):Sp:=fun vs H Q _=>∃ (a p:Addr) (n:Int) (ns:List Int),vs=[.ref a,.ref p]/\D8 K H a (ns.map V.int)/\H p=some (.lst ((poolL n 10).map V.str))/\∀ l H' zs,H l=none->Same H H'->H' l=some (.lst (zs.map V.str))->Zs8 n 6 zs->Q (.ref l) H'
noncomputable def ak3 (K:PySem.W.Frag):Sp:=fun vs H Q _=>∃ (a l:Addr) (n:Int) (ns:List Int) (zs:List Str),vs=[.ref a,.ref l]/\D8 K H a (ns.map V.int)/\H l=some (.lst (zs.map V.str))/\Zs8 n 6 zs/\∀ t H' u v,H t=none->Same H H'->H' t=some (.tup [.str u,.str v])->(∀ c∈u.cps.toList,one c∈zs)->(∀ c∈v.cps.toList,one c∈zs)->u.length<=100->v.length<=100->Q (.ref t) H'
noncomputable def O3 (u v:Str) (z:Str):List Nat:=z.cps.toList.take (min u.length v.length)
noncomputable def aiu (C:Addr) (m:Nat):Sp:=fun vs H Q _=>∃ (t:Addr) (u v:Str) (k:Nat) (n:Int) (bh:Bool) (R:List Rl) (L M:List Str),vs=[.str u,.str v,.ref t,.int k]/\k<=4/\MadeT C H t n m bh R L M/\T0 (sg8L n (m+2)) u/\T0 (sg8L n (m+2)) v/\u.length<=500/\v.length<=500/\∀ p H',H p=none->Same H H'->H' p=some (.tup [.int (difL k (C7 bh (E9 R L M) (O3 u v u) (O3 u v v))).1,.int (difL k (C7 bh (E9 R L M) (O3 u v u) (O3 u v v))).2])->Q (.ref p) H'
noncomputable def y8 (r:Rm):PyData:=.tuple ([r.1,r.2.1,r.2.2.1,r.2.2.2].map aR)
theorem ak4{r:Rm}(h:B1 K H a (V6 r)):Dn K H (.ref a) (y8 r):=.tup h (gR (zs:=[r.1,r.2.1,r.2.2.1,r.2.2.2]))
theorem aiv : ∀ {es:List BE},(∀ e∈es,B1 K H e.ra (V6 e.r))->DnAll K H (es.map fun e=>V.ref e.ra) (es.map fun e=>y8 e.r)
 | [],_=>.nil
 | e::es,h=>.cons (ak4 (h e M7)) (aiv fun e he=>h e (O5 _ he))
theorem aoZ(r:Rm):(y8 r).eqv (y8 r)=true:=by
 unfold y8;rw [V0,nQ];exact decide_eq_true rfl
theorem ak5(r:Rm):(y8 r).depth<=60:=by
 unfold y8;rw [eK,nS];decide
section
variable {P:Program} {w:World} {K:PySem.W.Frag} {mg:Str->Option Value} {base:Heap} {C:Addr}
theorem sc_told:FnScope ["rows", "seen", "row", "piece"] ["rows"] (C1 bD):=E7
abbrev VS(N:List Str)(s:Stmt)(x:Str)(n:Nat):Prop:=∀ {X:Cx} {pos:Pos},X.N=N->X.env.scope=C1 s->QE X (.Name x pos) (tVar n)
theorem vq{s:Stmt}{x:Str}(h:(decide (N[n]?=some x)&&visB (C1 s) x && !(x==("__debug__" : Str)) && !(x==("__classdict__" : Str)))=true:=by decide +kernel):VS N s x n:=fun hN hs=>qvd hN hs h
theorem vi{s:Stmt}{x:Str}{pos:Pos}(h:VS N s x n)(h1:X.N=N:=by rfl)(h2:X.env.scope=C1 s:=by rfl):QE X (.Name x pos) (tVar n):=h h1 h2
abbrev LS(s:Stmt)(x:Str):Prop:=x0 (C1 s) x
theorem lq{s:Stmt}{x:Str}(h:(C1 s).names.lookup x=some .local\/(C1 s).names.lookup x=some .cell:=by decide +kernel):LS s x:=h
abbrev sX:List Str:=["rows", "seen", "row", "piece"]
theorem vaa:VS sX bD "rows" 0:=vq
theorem vab:VS sX bD "seen" 1:=vq
theorem vac:VS sX bD "row" 2:=vq
theorem vad:VS sX bD "piece" 3:=vq
theorem vae:LS bD "seen":=lq
theorem vaf:LS bD "row":=lq
theorem vag:LS bD "piece":=lq
theorem ao0(F:FunD K "told" "told" bD f fd)(T:Txt P w K mg C):FnOk P w K mg base E1 1 f fd ["rows"] am1:=by
 refine F.ok sc_told ?_ ?_
 .rintro _ _ _ _ ⟨a,rs,zss,rfl,_⟩;rfl
 .intro cdv A outer s H vs Q E hr h;have B5:=hu_of hr;have hu:=hr.units;refine ⟨_,QSs.out (A4 (C4 (n:=1) sc_told.nd rfl vae gX)
   (A4 (N0 PassesOwn.never (P7 (K:=K) (vi vaa)) (D3 (n:=2) sc_told.nd rfl vaf (.inl rfl)) (A5 (N0 PassesOwn.never (P7 (K:=K) (vi vac)) (D3 (n:=3) sc_told.nd rfl vag (.inl rfl)) (A5 (r0 B5 (vi vab) (vi vad) qe_bl)))))
   (A5 (D1 (qe_cT (nY (K:=K) (calm:=true)) T.b_list kM (qa_c (vi vab) A2)))))),?_⟩
  obtain ⟨a,rs,zss,rfl,hR,hz,q⟩:=h;walk_at "rd";intro d nd;have hlz:∀ n:Nat,n<=100000->n<sizeLine:=fun n h=>L6 'a'
  refine ⟨⟨_,.of (C8 hR.top nd)⟩,forL (xs:=rs.map V.ref) (fun i Y H2=>∃ (u v:Option V),Y=[some (.ref a),some (.ref d),u,v]/\Same H H2/\H2 d=some (.dK (kvOf (toldL (zss.take i)))))
   ⟨none,none,rfl,Same.new nd,by rw [A3];rfl⟩ (by rintro i Y H2 _ ⟨_,_,_,S,_⟩;exact .of (S _ _ hR.top)) ?_ ?_⟩
  .rintro i x Y H2 hx ⟨u,v,rfl,S,hd⟩;obtain ⟨r,hr,rfl⟩:=J8 hx;obtain ⟨zs,mJ,E3⟩:=Paired.at hR.row hr;have hcount:(toldL (zss.take i)).length+zs.length<=100000:=by
    have h1:zss.take (i+1)=zss.take i++[zs]:=by rw [v6,mJ];rfl
    have h2:=nV (zss.take i);have h3:(zss.take (i+1)).flatten.length<=zss.flatten.length:=by
     conv=>rhs;rw [<- e8 (i+1) zss]
     rw [List.flatten_append,D6];lia
    rw [h1,List.flatten_append,D6] at h3;simp at h3;simp at h2 hz h3 ⊢
    lia
   walk_at "rd";refine ⟨⟨_,.of (S _ _ E3)⟩,forL (xs:=zs.map V.str) (fun j Y H3=>∃ (v:Option V),Y=[some (.ref a),some (.ref d),some (.ref r),v]/\Same H H3/\H3 d=some (.dK (kvOf (J7 (toldL (zss.take i)) (zs.take j)))))
    ⟨v,rfl,S,hd⟩ (by rintro j Y H3 _ ⟨_,_,S3,_⟩;exact .of (S3 _ _ E3)) ?_ ?_⟩
   .rintro j y Y H3 hy ⟨v,rfl,S3,R0⟩;obtain ⟨z,c9,rfl⟩:=J8 hy;walk_at "rd";refine ⟨_,cM (k:=Sum.inr z) R0 ?_,S3.put nd,?_⟩
    .unfold kvOf;rw [A6];refine hlz _ ?_
     have:=nU (zs.take j) (toldL (zss.take i))
     rw [F7] at this;lia
    .rw [A3,agd,alX c9]
   .rintro Y H3 ⟨v,rfl,S3,R0⟩;walk_at "rd";refine ⟨S3,?_⟩;rw [R0,ajW mJ,A6,L7]
  .rintro Y H2 ⟨u,v,rfl,S,hd⟩;walk_at "rd";refine rListR.d (.of hd) fun l nl=>?_
   refine q l _ (S.free nl) (fun b o h=>C8 (S b o h) nl) ?_;rw [A3,ajX,A6];rw [show rs.length=zss.length from Paired.length hR.row,L7]
theorem sc_followers:FnScope ["rows", "after", "piece", "row", "one", "other"] ["rows"] (C1 g9):=E7
abbrev lL:List Str:=["rows", "after", "piece", "row", "one", "other"]
theorem vah:VS lL g9 "rows" 0:=vq
theorem yE:VS lL g9 "after" 1:=vq
theorem vaj:VS lL g9 "piece" 2:=vq
theorem vak:VS lL g9 "row" 3:=vq
theorem vam:VS lL g9 "one" 4:=vq
theorem van:VS lL g9 "other" 5:=vq
theorem vao:LS g9 "after":=lq
theorem vap:LS g9 "piece":=lq
theorem vaq:LS g9 "row":=lq
theorem var:LS g9 "one":=lq
theorem vas:LS g9 "other":=lq
theorem agI(F:FunD K "followers" "followers" g9 f fd)(T:Txt P w K mg C)(G_told:FO P w K mg base 1 "told" ["rows"] [] am1):FnOk P w K mg base E1 2 f fd ["rows"] spFol:=by
 refine F.ok sc_followers ?_ ?_
 .rintro _ _ _ _ ⟨a,rs,zss,rfl,_⟩;rfl
 .intro cdv A outer s H vs Q E hr h;have B5:=hu_of hr;have hu:=hr.units;refine ⟨_,QSs.out (A4 (C4 (n:=1) sc_followers.nd rfl vao gX)
   (A4 (N0 PassesOwn.never (P7 (K:=K) (C9 G_told (hm hr) (qa_c (vi vah) A2))) (D3 (n:=2) sc_followers.nd rfl vap (.inl rfl)) (A5 (r0 B5 (vi yE) (vi vaj) (R7 A2))))
   (A4 (N0 PassesOwn.never (P7 (K:=K) (vi vah)) (D3 (n:=3) sc_followers.nd rfl vaq (.inl rfl)) (A5 (N0 PassesOwn.never (arf T.b_zip (qa_c (vi vak) (qa_c (M9 (K:=K) (vi vak) (L1 A1) Q3) A2))) (x5 (K:=K) (n:=2) (P6 ((D3 (n:=4) sc_followers.nd rfl var (.inl rfl))) (P6 ((D3 (n:=5) sc_followers.nd rfl vas (.inl rfl))) x4))) (A5 (R9 (qe_mB (K:=K) W3 g0 f9 g8 (g6 B5 (vi yE) (vi vam)) (qa_c (vi van) A2)))))))
   (A5 (D1 (vi yE)))))),?_⟩
  obtain ⟨a,rs,zss,rfl,hR,hz,q⟩:=h;walk_at "rd";intro d nd;have S0:Same H (A0 H d (.dK [])):=Same.new nd;refine ⟨a,rs,zss,rfl,hR.same S0,hz,fun l H1 nl S1 hl=>?_⟩;have qG:H1 d=some (.dK []):=S1 _ _ A3;have S01:=S0.trans S1;have A9:(toldL zss).length<=100000:=N5 (nV zss) hz;have tnd:=kS zss;refine ⟨l,rfl,⟨_,.of hl⟩,forL (xs:=(toldL zss).map V.str) (fun i Y H2=>∃ (u v w x:Option V) (ad:Str->Addr),Y=[some (.ref a),some (.ref d),u,v,w,x]/\SameBut d H1 H2/\H2 d=some (.dK (C2 ((toldL zss).take i) fun t=>.ref (ad t)))/\DL H1 H2 ((toldL zss).take i) ad fun _=>[])
   ⟨none,none,none,none,fun _=>0,rfl,uan _ _,qG,⟨fun t h=>by simp at h,fun t h=>by simp at h,fun t h=>by simp at h⟩⟩ (fun i Y H2 _ ⟨_,_,_,_,_,_,S,_⟩=>.of (S _ _ (fun e=>by rw [e,qG] at hl;cases hl) hl)) ?_ ?_⟩
  .rintro i x Y H2 hx ⟨u,v,w,y,ad,rfl,S,hd,dl⟩;obtain ⟨z,hk,rfl⟩:=J8 hx;have hi:i<(toldL zss).length:=(E6.mp hk).1;have U3:=wT tnd hk;walk_at "rd";refine fun p np=>⟨_,cM (k:=Sum.inr z) (C8 hd np) (by rw [l6,F7];exact L6 'a'),?_⟩
   have n1:H1 p=none:=S.free np (fun e=>by rw [e,hd] at np;cases np);refine ⟨(S.put n1).at,fun t=>if t=z then p else ad t,?_,?_⟩
   .rw [A3,eU _ U3,M6 hk];have e:(fun t=>if t=z then V.ref p else V.ref (ad t))=fun t=>V.ref (if t=z then p else ad t):=by funext t;split <;> rfl
    rw [e]
   .rw [M6 hk];exact ((dl.more U3 np n1).congr fun t _=>by split <;> rfl).put qG
  .rintro Y H2 ⟨u,v,w,y,ad,rfl,S,hd,dl⟩;rw [A6,L7] at hd dl;have S2:Same H H2:=S.same S01 nd;walk_at "rd";have dl0:DL H H2 (toldL zss) ad fun _=>[]:=dl.old S01
   refine ⟨⟨_,.of (S2 _ _ hR.top)⟩,forL (xs:=rs.map V.ref) (fun i Y H3=>∃ (v w x:Option V),Y=[some (.ref a),some (.ref d),u,v,w,x]/\Same H H3/\H3 d=some (.dK (C2 (toldL zss) fun t=>.ref (ad t)))/\DL H H3 (toldL zss) ad (G1 (edges (zss.take i))))
    ⟨v,w,y,rfl,S2,hd,dl0⟩ (by rintro i Y H3 _ ⟨_,_,_,_,S,_⟩;exact .of (S _ _ hR.top)) ?_ ?_⟩
   .rintro i x Y H3 hx ⟨v,w,y,rfl,S3,R0,bU⟩;obtain ⟨r,hr,rfl⟩:=J8 hx;obtain ⟨zs,mJ,E3⟩:=Paired.at hR.row hr;have fU:=S3 _ _ E3;have F6:∀ x∈zs,x∈toldL zss:=fun x hx=>(wR _ _).mpr (List.mem_flatten.mpr ⟨zs,L3 mJ,hx⟩)
    walk_at "rd";refine rSlR.l (.of fU) fun p np=>?_
    have ecut:cutV (zs.map V.str) (some 1) none=zs.tail.map V.str:=by
     have:=x6 (zs.map V.str) 1
     rw [show ((1:Nat):Int)=1 from rfl] at this;rw [this,<- cD,List.drop_one]
    rw [ecut];have fV:H p=none:=S3.free np;have nad:∀ t∈toldL zss,ad t≠p:=fun t ht e=>by have:=bU.row t ht;rw [e,np] at this;cases this
    have nadr:∀ t∈toldL zss,ad t≠r:=fun t ht e=>by have:=bU.new t ht;rw [e,E3] at this;cases this
    have ndp:d≠p:=fun e=>by rw [<- e,R0] at np;cases np
    have nadd:∀ t∈toldL zss,ad t≠d:=fun t ht e=>by have:=bU.row t ht;rw [e,R0] at this;cases this
    refine ⟨p,rfl,⟨_,C8 fU np⟩,⟨_,A3⟩,forZ (xs:=zs.map V.str) (ys:=zs.tail.map V.str) (fun j Y H4=>∃ (w x:Option V),Y=[some (.ref a),some (.ref d),u,some (.ref r),w,x]/\Same H H4/\H4 p=some (.lst (zs.tail.map V.str))/\H4 d=some (.dK (C2 (toldL zss) fun t=>.ref (ad t)))/\DL H H4 (toldL zss) ad (G1 (edges (zss.take i)++(W8 zs).take j)))
     ⟨w,y,rfl,S3.put fV,A3,C8 R0 np,?_⟩ (by rintro j Y H4 ⟨_,_,_,S,hp,_⟩;exact ⟨S _ _ E3,hp⟩) ?_ ?_⟩
    .rw [eF,M8];exact bU.same (Same.new np)
    .rintro j xv yv t Y H4 hxv hyv ⟨w,v,rfl,S4,o6,X1,mK⟩ nt;obtain ⟨x,hx,rfl⟩:=J8 hxv;obtain ⟨y,hy,rfl⟩:=J8 hyv;have mL:=F6 x (L3 hx);have nt0:H t=none:=S4.free nt;have hlx:=mK.row x mL;have hE:(W8 zs)[j]?=some (x,y):=agn hx hy;walk_at "rd";refine ⟨_,.of A3,rfl,_,_,rfl,_,_,rfl,rfl,V.ref (ad x),.inl ⟨_,Sum.inr x,.inl (C8 X1 nt),rfl,by rw [Q4,if_pos mL]⟩,V2 (C8 hlx nt),appOk (C8 hlx nt) ?_ ⟨(S4.put nt0).put (mK.new x mL),?_,?_,?_⟩⟩
     .rw [A6];refine L6 ?_;have h1:(G1 (edges (zss.take i)++(W8 zs).take j) x).length<=(edges (zss.take i)++(W8 zs).take j).length:=by
       unfold G1;rw [A6];exact List.length_filter_le _ _
      have h2:=ago (zss.take i);have h3:(zss.take i).flatten.length<=zss.flatten.length:=by
       conv=>rhs;rw [<- e8 i zss]
       rw [List.flatten_append,D6];lia
      have h4:zs.length<=zss.flatten.length:=List.Sublist.length_le (List.sublist_flatten_of_mem (L3 mJ));rw [D6,F7,wS] at h1;lia
     .rw [A7 (nad x mL).symm];exact C8 o6 nt
     .rw [A7 (nadd x mL).symm];exact C8 X1 nt
     .have h1:=(mK.same (Same.new (u:=.tup [V.str x,V.str y]) nt)).app mL (G1 (edges (zss.take i)++(W8 zs).take j) x++[y]);rw [D0] at h1;refine h1.congr fun t _=>?_
      rw [M6 hE,<- X3,ama]
      by_cases e:t=x
      .rw [if_pos e,if_pos e.symm,e]
      .rw [if_neg e,if_neg (fun z=>e z.symm)]
    .rintro Y H4 ⟨w,x,rfl,S4,o6,X1,mK⟩;walk_at "rd";refine ⟨S4,X1,?_⟩;rw [aiO mJ];rw [v4 (l:=W8 zs) (by rw [wS,A6,A6];exact C3 _)] at mK;exact mK
   .rintro Y H3 ⟨v,w,y,rfl,S3,R0,bU⟩;rw [A6,show rs.length=zss.length from Paired.length hR.row,L7] at bU;walk_at "rd";exact q d ad H3 nd S3 R0 bU
theorem sc_count_ahead:FnScope ["after", "ahead", "piece", "other"] ["after"] (C1 bE):=E7
abbrev sY:List Str:=["after", "ahead", "piece", "other"]
theorem yF:VS sY bE "after" 0:=vq
theorem yG:VS sY bE "ahead" 1:=vq
theorem vav:VS sY bE "piece" 2:=vq
theorem vaw:VS sY bE "other" 3:=vq
theorem vax:LS bE "ahead":=lq
theorem vay:LS bE "piece":=lq
theorem vaz:LS bE "other":=lq
theorem aeS(F:FunD K "count_ahead" "count_ahead" bE f fd)(T:Txt P w K mg C):FnOk P w K mg base E1 1 f fd ["after"] ake:=by
 refine F.ok sc_count_ahead ?_ ?_
 .rintro _ _ _ _ ⟨d,ts,ad,E,rfl,_⟩;rfl
 .intro cdv A outer s H vs Q E hr h;have B5:=hu_of hr;have hu:=hr.units;refine ⟨_,QSs.out (A4 (C4 (n:=1) sc_count_ahead.nd rfl vax gX)
   (A4 (wO PassesOwn.never (vi yF) (D3 (n:=2) sc_count_ahead.nd rfl vay (.inl rfl)) (A5 (r0 B5 (vi yG) (vi vav) A1)))
   (A4 (wO PassesOwn.never (vi yF) (D3 (n:=2) sc_count_ahead.nd rfl vay (.inl rfl)) (A5 (N0 PassesOwn.never (P7 (K:=K) (g6 B5 (vi yF) (vi vav))) (D3 (n:=3) sc_count_ahead.nd rfl vaz (.inl rfl)) (A5 (aj0 B5 (vi yG) (vi vaw) A1 aq8)))))
   (A5 (D1 (vi yG)))))),?_⟩
  obtain ⟨d,ts,ad,E,rfl,hd,tnd,A9,hElen,E3,hE,q⟩:=h;walk_at "rd";intro c nc;have ndc:d≠c:=fun e=>by rw [e,nc] at hd;cases hd
  refine ⟨_,C8 hd nc,fun o=>forD (fun i Y H2=>∃ (u v:Option V),Y=[some (.ref d),some (.ref c),u,v]/\H2 d=some (.frz o (.dK (C2 ts fun t=>.ref (ad t))))/\SameBut d H H2/\H2 c=some (.dK (C2 (ts.take i) fun _=>.int 0)))
   ⟨none,none,rfl,A3,(SameBut.put (uan _ _) nc).at,by rw [A7 ndc.symm,A3];rfl⟩ (by rintro i Y H2 ⟨_,_,_,h,_⟩;exact h) ?_ ?_⟩
  .rintro i k v Y H2 hk ⟨u,w,rfl,hf,S,hc⟩;obtain ⟨t,ht,rfl,rfl⟩:=amY hk;have hi:i<ts.length:=(E6.mp ht).1;walk_at "rd";refine ⟨_,cM (k:=Sum.inr t) hc (by rw [l6,F7];exact L6 'a'),?_,S.put nc,?_⟩
   .rw [A7 ndc];exact hf
   .rw [A3,eU _ (wT tnd ht),M6 ht];exact congrArg (fun x=>some (HO.dK x)) (V4 fun t _=>by split <;> rfl)
  .rintro Y H2 ⟨u,w,rfl,hf,S,hc⟩;rw [l6,L7] at hc;have S2:Same H (A0 H2 d (.dK (C2 ts fun t=>.ref (ad t)))):=S.thaw hd;have U1:A0 H2 d (.dK (C2 ts fun t=>.ref (ad t))) d=some (.dK (C2 ts fun t=>.ref (ad t))):=A3;have N2:A0 H2 d (.dK (C2 ts fun t=>.ref (ad t))) c=some (.dK (C2 ts fun _=>.int 0)):=by rw [A7 ndc.symm];exact hc
   generalize A0 H2 d (.dK (C2 ts fun t=>.ref (ad t)))=H3 at S2 U1 N2;walk_at "rd";refine ⟨_,U1,fun o=>forD (fun i Y H4=>∃ (u v:Option V),Y=[some (.ref d),some (.ref c),u,v]/\H4 d=some (.frz o (.dK (C2 ts fun t=>.ref (ad t))))/\SameBut d H H4/\H4 c=some (.dK (C2 ts fun t=>.int (cntIn E (ts.take i) t:Nat))))
    ⟨u,w,rfl,A3,fun b o hb h=>by rw [A7 hb];exact S2 b o h,?_⟩ (by rintro i Y H2 ⟨_,_,_,h,_⟩;exact h) ?_ ?_⟩
   .rw [A7 ndc.symm,N2];exact congrArg (fun x=>some (HO.dK x)) (V4 fun t _=>by rw [eF,akd];rfl)
   .rintro i k v Y H4 hk ⟨u,w,rfl,hf,S4,mM⟩;obtain ⟨t,ht,rfl,rfl⟩:=amY hk;have qH:t∈ts:=L3 ht;have hl4:H4 (ad t)=some (.lst ((G1 E t).map V.str)):=S4 _ _ (fun e=>by have:=E3 t qH;rw [e,hd] at this;cases this) (E3 t qH);walk_at "rd";refine ⟨V.ref (ad t),.inl ⟨_,Sum.inr t,.inr ⟨o,hf⟩,rfl,by rw [Q4,if_pos qH]⟩,ad t,rfl,⟨_,.of hl4⟩,forL (xs:=(G1 E t).map V.str) (fun j Y H5=>∃ (v:Option V),Y=[some (.ref d),some (.ref c),some (kV (Sum.inr t)),v]/\H5 d=some (.frz o (.dK (C2 ts fun t=>.ref (ad t))))/\SameBut d H H5/\
     H5 c=some (.dK (C2 ts fun q=>.int (cntIn E (ts.take i) q+((G1 E t).take j).count q:Nat)))) ⟨w,rfl,hf,S4,by rw [mM];rfl⟩ (fun j Y H5 _ ⟨_,_,_,S5,_⟩=>.of (S5 _ _ (fun e=>by have:=E3 t qH;rw [e,hd] at this;cases this) (E3 t qH))) ?_ ?_⟩
    .rintro j v5 Y H5 hv5 ⟨v,rfl,hf5,S5,j8⟩;obtain ⟨y,hy2,rfl⟩:=J8 hv5;have fW:y∈ts:=by
      have:=L3 hy2
      unfold G1 at this;obtain ⟨e,he,rfl⟩:=D7.mp this;exact (hE e (Y6.mp he).1).2
     walk_at "rd";refine ⟨V.int (cntIn E (ts.take i) y+((G1 E t).take j).count y:Nat),.inl ⟨_,Sum.inr y,.inl j8,rfl,by rw [Q4,if_pos fW]⟩,_,_,rfl,rfl,_,cM (k:=Sum.inr y) j8 (by rw [l6];exact L6 'a'),?_,S5.put nc,?_⟩
     .rw [A7 ndc];exact hf5
     .rw [A3,oB _ fW];refine congrArg (fun x=>some (HO.dK x)) (V4 fun q _=>?_);rw [M6 hy2,List.count_append,List.count_singleton]
      by_cases e:q=y
      .rw [if_pos e,e,if_pos 'c'];exact congrArg V.int 'a'
      .rw [if_neg e,if_neg (by simpa using fun z:y=q=>e z.symm)];rfl
    .rintro Y H5 ⟨v,rfl,hf5,S5,j8⟩;walk_at "rd";refine ⟨hf5,S5,?_⟩;rw [A6,L7] at j8;rw [j8];refine congrArg (fun x=>some (HO.dK x)) (V4 fun q _=>?_);rw [M6 ht,aiL (wT tnd ht)]
   .rintro Y H4 ⟨u,w,rfl,hf,S4,mM⟩;rw [l6,L7] at mM;walk_at "rd";refine q c _ nc (S4.thaw hd) ?_;rw [A7 ndc.symm,mM];exact congrArg (fun x=>some (HO.dK x)) (V4 fun t _=>by rw [akc (fun e he=>(hE e he).1)])
theorem sc_lined_up:FnScope ["rows", "after", "ahead", "pieces", "numbers", "free", "line", "number", "other"] ["rows"] (C1 R4):=E7
abbrev cZ:List Str:=["rows", "after", "ahead", "pieces", "numbers", "free", "line", "number", "other"]
theorem vaA:VS cZ R4 "rows" 0:=vq
theorem yH:VS cZ R4 "after" 1:=vq
theorem vaC:VS cZ R4 "ahead" 2:=vq
theorem oX:VS cZ R4 "pieces" 3:=vq
theorem vaE:VS cZ R4 "numbers" 4:=vq
theorem sZ:VS cZ R4 "free" 5:=vq
theorem yI:VS cZ R4 "line" 6:=vq
theorem yJ:VS cZ R4 "number" 7:=vq
theorem yK:VS cZ R4 "other" 8:=vq
theorem vaJ:LS R4 "after":=lq
theorem vaK:LS R4 "ahead":=lq
theorem vaL:LS R4 "pieces":=lq
theorem vaM:LS R4 "numbers":=lq
theorem vaN:LS R4 "free":=lq
theorem vaO:LS R4 "line":=lq
theorem vaP:LS R4 "number":=lq
theorem vaQ:LS R4 "other":=lq
theorem ahl(F:FunD K "lined_up" "lined_up" R4 f fd)(T:Txt P w K mg C)(G_followers:FO P w K mg base 2 "followers" ["rows"] [] spFol)(G_count_ahead:FO P w K mg base 1 "count_ahead" ["after"] [] ake):FnOk P w K mg base E1 3 f fd ["rows"] akf:=by
 refine F.ok sc_lined_up ?_ ?_
 .rintro _ _ _ _ ⟨a,rs,zss,rank,rfl,_⟩;rfl
 .intro cdv A outer s H vs Q E hr h;have B5:=hu_of hr;have hu:=hr.units;refine ⟨_,QSs.out (A4 (C4 (n:=1) sc_lined_up.nd rfl vaJ (C9 G_followers (hm hr) (qa_c (vi vaA) A2)))
   (A4 (C4 (n:=2) sc_lined_up.nd rfl vaK (C9 G_count_ahead (hm hr) (qa_c (vi yH) A2)))
   (A4 (C4 (n:=3) sc_lined_up.nd rfl vaL (qe_cT (nY (K:=K) (calm:=true)) T.b_list kM (qa_c (vi yH) A2)))
   (A4 (C4 (n:=4) sc_lined_up.nd rfl vaM (qe_cT (aj9 (K:=K) (calm:=true)) T.b_dict ajR (qa_c (g7  (V5:CompOk ["rows", "after", "ahead", "pieces", "numbers", "free", "line", "number", "other"] (C1 R4).names _ ["number", "piece"] 2 []) (wU T.b_enumerate (qa_c (vi oX) A2)) (fun _ _ _ _ _=>(x5 (K:=K) (n:=2) (P6 (D3 (n:=0) (show List.Nodup (["number", "piece"]:List Str) by decide +kernel) rfl (Or.inl rfl)) (P6 (D3 (n:=1) (show List.Nodup (["number", "piece"]:List Str) by decide +kernel) rfl (Or.inl rfl)) x4)))) (fun _ _ _ _ _=>k9) (fun _ _ _ _ _=>(F9 (qa_c (qv 1) (qa_c (qv 0) A2))))) A2)))
   (A4 (nX (n:=5) sc_lined_up.nd rfl vaN (V5:CompOk ["rows", "after", "ahead", "pieces", "numbers", "free", "line", "number", "other"] (C1 R4).names _ ["piece", "numbers", "ahead"] 1 [4,2]) (P7 (K:=K) (vi oX)) (fun _ _ _ _ _=>D3 (n:=0) (show List.Nodup (["piece", "numbers", "ahead"]:List Str) by decide +kernel) rfl (Or.inl rfl)) (fun _ _ _ _ _=>(kQ (E2 (q_eq (K:=K) hu) (g6 B5 (qv 2) (qv 0)) A1))) (fun _ _ _ _ _=>(g6 B5 (qv 1) (qv 0))))
   (A4 (C4 (n:=6) sc_lined_up.nd rfl vaO (R7 A2))
   (A4 (rR PassesOwn.never (X5 (K:=K) (vi sZ)) (A4 (C4 (n:=7) sc_lined_up.nd rfl vaP (qe_cB (arr (calm:=true)) T.b_min amT (qa_c (vi sZ) A2)))
   (A4 (R9 (qe_mB (K:=K) W3 PySem.F.slot_list_remove PySem.F.type_list_remove akr (vi sZ) (qa_c (vi yJ) A2)))
   (A4 (R9 (qe_mB (K:=K) W3 g0 f9 g8 (vi yI) (qa_c (qe_ix (K:=K) (vi oX) (vi yJ)) A2)))
   (A5 (N0 PassesOwn.never (P7 (K:=K) (g6 B5 (vi yH) (qe_ix (K:=K) (vi oX) (vi yJ)))) (D3 (n:=8) sc_lined_up.nd rfl vaQ (.inl rfl)) (A4 (aj0 B5 (vi vaC) (vi yK) A1 aq9)
   (A5 (qs_if (E2 (q_eq (K:=K) hu) (g6 B5 (vi vaC) (vi yK)) A1) (A5 (R9 (qe_mB (K:=K) W3 g0 f9 g8 (vi sZ) (qa_c (g6 B5 (vi vaE) (vi yK)) A2)))) G5)))))))))
   (A4 (qs_if (E2 q_lt (qe_cB (q_len (K:=K)) T.b_len W6 (qa_c (vi yI) A2)) (qe_cB (q_len (K:=K)) T.b_len W6 (qa_c (vi oX) A2))) (A5 kO) G5)
   (A5 (D1 (vi yI))))))))))),?_⟩
  obtain ⟨a,rs,zss,rank,rfl,hR,hz,aE,q⟩:=h;walk_at "rd";have A9:(toldL zss).length<=100000:=N5 (nV zss) hz;have hElen:(edges zss).length<=100000:=N5 (ago zss) hz;have tnd:=kS zss;have etold:∀ e∈edges zss,e.1∈toldL zss/\e.2∈toldL zss:=fun e he=>aiN he
  refine ⟨a,rs,zss,rfl,hR,hz,fun d ad H1 nd S1 hd dl=>?_⟩;generalize bT:toldL zss=ts at *;generalize hEE:edges zss=E at *;refine ⟨d,ts,ad,E,rfl,hd,tnd,A9,hElen,dl.row,etold,fun c H2 nc S2 hc=>?_⟩;walk_at "rd";refine rListR.d (.of (S2 _ _ hd)) fun w nw=>?_
  rw [amc];have u9:=S1.trans S2;have ncH:H c=none:=S1.free nc;have U1:=S2 _ _ hd;have ncd:c≠d:=fun e=>by rw [e,hd] at nc;cases nc
  have nac:∀ t∈ts,ad t≠c:=fun t ht e=>by have:=dl.row t ht;rw [e,nc] at this;cases this
  have uF:A0 H2 w (.lst (ts.map V.str)) w=some (.lst (ts.map V.str)):=A3;have Sw:Same H2 (A0 H2 w (.lst (ts.map V.str))):=Same.new nw;generalize A0 H2 w (.lst (ts.map V.str))=H3 at uF Sw ⊢
  have idx:∀ {i:Nat} {z:Str},ts[i]?=some z->ts.idxOf z=i:=fun {i z} h=>by
   obtain ⟨hi,rfl⟩:=E6.mp h;exact List.Nodup.idxOf_getElem tnd i hi
  refine ⟨w,rfl,⟨_,uF⟩,compE (xs:=ts.map V.str) [] rfl (fun D i ys H4=>∃ qs:List Addr,ys=qs.map V.ref/\Same H3 H4/\Paired (fun q t=>H4 q=some (.tup [.str t,.int (ts.idxOf t:Nat)])) qs (ts.take i)) (fun D nD=>⟨[],rfl,Same.new nD,.nil⟩) (by rintro D i ys H4 nD _ ⟨_,_,S,_⟩;exact S _ _ uF) ?_ ?_⟩
  .rintro D i x t ys H4 nD hi hx ⟨qs,rfl,S,P4⟩ hD hy nt;obtain ⟨z,hz,rfl⟩:=J8 hx;rw [A6] at hi hy;walk_at "rd";refine ⟨by decide,fun p np=>⟨C8 (C8 hD nt) np,by rw [A6];exact L6 'a',kW.put (by rw [A6];exact hi) (by rw [A6];exact hy) ⟨qs++[p],by rw [D0];rfl,((S.trans (Same.new nt)).trans (Same.new np)).put nD,?_⟩⟩⟩;rw [M6 hz];refine Paired.snoc (O6 P4 fun q t' h=>?_) ?_
   .rw [A7 (fun e=>by rw [e,hD] at h;cases h)];exact C8 (C8 h nt) np
   .rw [A7 (fun e=>by rw [e,C8 hD nt] at np;cases np),A3,idx hz]
  rintro D ys H4 nD ⟨qs,rfl,S34,P4⟩ hD hy;rw [A6,L7] at P4;refine ⟨rfl,D,qs,_,rfl,.of hD,ah2 (f:=fun t=>.int (ts.idxOf t:Nat)) P4,fun nm nnm=>?_⟩;rw [show Z0 [] (C2 ts fun t=>V.int (ts.idxOf t:Nat))=C2 ts fun t=>V.int (ts.idxOf t:Nat) from agt (pre:=[]) (by simpa using tnd)];have S5:Same H2 (A0 H4 nm (.dK (C2 ts fun t=>V.int (ts.idxOf t:Nat)))):=(Sw.trans S34).trans (Same.new nnm);have dN:A0 H4 nm (.dK (C2 ts fun t=>V.int (ts.idxOf t:Nat))) w=some (.lst (ts.map V.str)):=C8 (S34 _ _ uF) nnm;have hnm:A0 H4 nm (.dK (C2 ts fun t=>V.int (ts.idxOf t:Nat))) nm=some (.dK (C2 ts fun t=>V.int (ts.idxOf t:Nat))):=A3;have mM:H4 c=some (.dK (C2 ts fun t=>.int (cnt E [] t:Nat))):=S34 _ _ (Sw _ _ hc);have ncn:c≠nm:=fun e=>by rw [<- e,mM] at nnm;cases nnm
  generalize A0 H4 nm (.dK (C2 ts fun t=>V.int (ts.idxOf t:Nat)))=H5 at S5 dN hnm ⊢
  have j8:=S5 _ _ hc;have hd5:=S5 _ _ U1;have mC:∀ t∈ts,H5 (ad t)=some (.lst ((G1 E t).map V.str)):=fun t ht=>S5 _ _ (S2 _ _ (dl.row t ht))
  have S05:=u9.trans S5;have ncw:c≠w:=fun e=>by rw [e,dN] at j8;cases j8
  refine ⟨w,rfl,⟨_,.of dN⟩,compL (xs:=ts.map V.str) [some (.ref nm),some (.ref c)] rfl (fun D i ys H6=>∃ fr:List Int,ys=fr.map V.int/\Same H5 H6/\FS (ts.take i) [] (fun q=>cnt E [] q=0) fr) (fun D nD=>⟨[],rfl,Same.new nD,FS.nil _⟩) (by rintro D i ys H6 nD _ ⟨_,_,S,_⟩;exact .of (S _ _ dN)) ?_ ?_⟩
  .rintro D i x ys H6 nD hi hx ⟨fr,rfl,S,F⟩ hD hy;obtain ⟨z,hz,rfl⟩:=J8 hx;have mN:z∈ts:=L3 hz;have Y2:i<ts.length:=(E6.mp hz).1;rw [A6] at hy;have hs:=F.snoc (i:=i) (q:=z) (by rw [F7];lia) 'c';rw [<- M6 hz] at hs;walk_at "rd";refine ⟨V.int (cnt E [] z:Nat),.inl ⟨_,Sum.inr z,.inl (S _ _ j8),rfl,by rw [Q4,if_pos mN]⟩,?_⟩
   try walk_at "rd"
   refine iteD (fun h0=>⟨V.int (ts.idxOf z:Nat),.inl ⟨_,Sum.inr z,.inl (S _ _ hnm),rfl,by rw [Q4,if_pos mN]⟩,hD,by rw [A6];exact L6 'a',CW.put hi (by rw [A6];exact hy) ⟨fr++[(i:Int)],by rw [D0,idx hz];rfl,S.put nD,hs.1 'a'⟩⟩) fun h0=>⟨hD,wC hi (by rw [A6];exact hy) ⟨fr,rfl,S,hs.2 'a'⟩⟩
  rintro f ys H6 nf ⟨fr,rfl,S56,F0⟩ hf6 hy;rw [A6,L7] at F0;intro ln nln;have nln5:H5 ln=none:=S56.free nln;have dO:f≠ln:=fun e=>by rw [e,nln] at hf6;cases hf6
  have frlen:∀ {line fr z},FS ts line z fr->fr.length<=ts.length:=fun {line fr z} F=>by
   have h1:∀ n∈fr,n∈(U8 ts.length).map fun (n:Nat)=>(n:Int):=fun n hn=>by
    obtain ⟨m,q,e,h2,_⟩:=(F.2 n).mp hn;exact D7.mpr ⟨m,k6.mpr (E6.mp h2).1,e.symm⟩
   have:=afe F.1 h1
   simpa using this
  refine rS (fun m Y H7=>∃ (u v:Option V) (line:List Str) (fr:List Int),Y=[some (.ref a),some (.ref d),some (.ref c),some (.ref w),some (.ref nm),some (.ref f),some (.ref ln),u,v]/\SameBut c H5 H7/\
    H7 c=some (.dK (C2 ts fun t=>.int (cnt E line t:Nat)))/\H7 f=some (.lst (fr.map V.int))/\FS ts line (fun q=>cnt E line q=0) fr/\H7 ln=some (.lst (line.map V.str))/\V3 E ts line/\m=ts.length-line.length) ts.length
   ⟨none,none,[],fr,rfl,fun b o _ h=>C8 (S56 _ _ h) nln,C8 (S56 _ _ j8) nln,C8 hf6 nln,F0,A3,V3.nil _ _,rfl⟩ ?_
  rintro m Y H7 ⟨u,v,line,fr,rfl,B7,hc7,uG,F,mO,run,rfl⟩;have S07:Same H H7:=B7.same S05 ncH;walk_at "rd";refine ⟨_,wL uG,?_⟩
  by_cases dP:fr=[]
  .have dF:∀ p∈ts,p∈line:=fun p hp=>Classical.byContradiction fun hn=>by
    obtain ⟨q',hq⟩:=amb (line:=line) aE (fun e he=>(etold e he).1) ⟨p,hp,hn⟩;obtain ⟨h1,h2,h3⟩:=kR hq;obtain ⟨k,hk⟩:=mY.mp h1
    have:=(F.2 (k:Int)).mpr ⟨k,q',rfl,hk,h2,h3⟩
    rw [dP] at this
    cases this
   have hsl:=rW tnd run dF;rw [dP];refine iteF ?_
   try walk_at "rd"
   refine ⟨line.length,.inl ⟨_,.of mO,by rw [A6]⟩,ts.length,.inl ⟨_,.of (B7 _ _ ncw.symm dN),by rw [A6]⟩,?_⟩
   try walk_at "rd"
   exact iteD (fun h=>absurd h 'a') fun _=>q ln line H7 (S05.free nln5) S07 mO run dF
  rw [show (!(fr.map V.int).isEmpty)=true by cases fr with | nil=>exact absurd rfl dP | cons=>rfl];refine iteT ⟨fun σ' H'=>∃ (u v:Option V) (line':List Str) (fr:List Int),σ'=[some (.ref a),some (.ref d),some (.ref c),some (.ref w),some (.ref nm),some (.ref f),some (.ref ln),u,v]/\SameBut c H5 H'/\
    H' c=some (.dK (C2 ts fun t=>.int (cnt E line' t:Nat)))/\H' f=some (.lst (fr.map V.int))/\FS ts line' (fun q=>cnt E line' q=0) fr/\H' ln=some (.lst (line'.map V.str))/\V3 E ts line'/\ts.length-line'.length<ts.length-line.length,?_,?_⟩
  .rintro σ' H' ⟨u,v,line',fr',rfl,h1,h2,h3,h4,h5,h6,h7⟩;exact ⟨_,h7,⟨_,_,rfl⟩,h1,line',h2,fr',h3,h4,h5,h6,rfl⟩
  try walk_at "rd"
  refine ⟨fr,uG,dP,fun M hM jB=>?_⟩;obtain ⟨mm,p,rfl,hpm,j9⟩:=ag8 F hM jB;obtain ⟨qI,bP,uH⟩:=kR j9;have hll:line.length<ts.length:=by
   have h1:(line++[p]).Nodup:=(run.snoc j9).nodup;have h3:=agp h1 fun x hx=>(run.snoc j9).sub hx
   rw [D6,X2] at h3;lia
  have F1:=F.take tnd hpm
  try walk_at "rd"
  refine ⟨V2 uG,arq uG hM ?_⟩;have hwf:w≠f:=fun e=>by rw [e,nf] at dN;cases dN
  have hcf:c≠f:=fun e=>by rw [e,nf] at j8;cases j8
  have uI:c≠ln:=fun e=>by rw [e,nln5] at j8;cases j8
  have B8:SameBut c H5 (A0 H7 f (.lst ((fr.erase (mm:Int)).map V.int))):=B7.put nf;have uJ:A0 H7 f (.lst ((fr.erase (mm:Int)).map V.int)) ln=some (.lst (line.map V.str)):=by rw [A7 dO.symm];exact mO
  have hf8:A0 H7 f (.lst ((fr.erase (mm:Int)).map V.int)) f=some (.lst ((fr.erase (mm:Int)).map V.int)):=A3;have hc8:A0 H7 f (.lst ((fr.erase (mm:Int)).map V.int)) c=some (.dK (C2 ts fun t=>.int (cnt E line t:Nat))):=by rw [A7 hcf];exact hc7
  generalize A0 H7 f (.lst ((fr.erase (mm:Int)).map V.int))=H8 at B8 uJ hf8 hc8 ⊢
  have atp:F8 (ts.map V.str) (mm:Int)=some (V.str p):=J9 (by rw [R6,hpm];rfl);refine ⟨V2 uJ,_,.inl (.of (B8 _ _ ncw.symm dN)),V.str p,atp,appOk uJ (by rw [A6];exact L6 'a') ?_⟩;have B9:SameBut c H5 (A0 H8 ln (.lst (line.map V.str++[V.str p]))):=B8.put nln5;have hl9:A0 H8 ln (.lst (line.map V.str++[V.str p])) ln=some (.lst ((line++[p]).map V.str)):=by rw [A3,D0];rfl
  have hf9:A0 H8 ln (.lst (line.map V.str++[V.str p])) f=some (.lst ((fr.erase (mm:Int)).map V.int)):=by rw [A7 dO];exact hf8
  have hc9:A0 H8 ln (.lst (line.map V.str++[V.str p])) c=some (.dK (C2 ts fun t=>.int (cnt E line t:Nat))):=by rw [A7 uI];exact hc8
  generalize A0 H8 ln (.lst (line.map V.str++[V.str p]))=H9 at B9 hl9 hf9 hc9 ⊢
  refine ⟨_,.inl (.of (B9 _ _ ncw.symm dN)),V.str p,atp,V.ref (ad p),.inl ⟨_,Sum.inr p,.inl (B9 _ _ ncd.symm hd5),rfl,by rw [Q4,if_pos qI]⟩,ad p,rfl,⟨_,.of (B9 _ _ (nac p qI) (mC p qI))⟩,
   forL (xs:=(G1 E p).map V.str) (fun j Y H7=>∃ (x:Option V) (fr:List Int),Y=[some (.ref a),some (.ref d),some (.ref c),some (.ref w),some (.ref nm),some (.ref f),some (.ref ln),some (.int (mm:Int)),x]/\SameBut c H5 H7/\
    H7 c=some (.dK (C2 ts fun t=>.int ((cnt E line t:Nat)-(((G1 E p).take j).count t:Nat))))/\H7 f=some (.lst (fr.map V.int))/\FS ts (line++[p]) (fun q=>cnt E line q=((G1 E p).take j).count q) fr/\H7 ln=some (.lst ((line++[p]).map V.str)))
   ⟨v,_,rfl,B9,?_,hf9,F1.congr fun q=>'c',hl9⟩ (by rintro j Y H7 _ ⟨_,_,_,B,_⟩;exact .of (B _ _ (nac p qI) (mC p qI))) ?_ ?_⟩
  .rw [hc9];exact congrArg (fun x=>some (HO.dK x)) (V4 fun t _=>congrArg V.int 'c')
  .rintro j v5 Y j6 hv5 ⟨x,fr,rfl,B,aF,jG,F,jH⟩;obtain ⟨y,hy,rfl⟩:=J8 hv5;have fW:y∈ts:=by
    have:=L3 hy
    unfold G1 at this;obtain ⟨e,he,rfl⟩:=D7.mp this;exact (etold e (Y6.mp he).1).2
   have dJ:((G1 E p).take j).count y<cnt E line y:=by
    have h1:=ahZ (E:=E) (q:=y) bP;have h2:(G1 E p).count y=((G1 E p).take (j+1)).count y+((G1 E p).drop (j+1)).count y:=by rw [<- List.count_append,e8]
    rw [M6 hy,List.count_append,List.count_singleton,if_pos 'c'] at h2;lia
   have hyb:y∉line++[p]:=fun hm=>by
    rcases E8.mp hm with hm | hm
    .have:=aml run hm;lia
    .rw [E5.mp hm] at dJ;lia
   obtain ⟨my,hmy⟩:=mY.mp fW;have qJ:∀ q,((G1 E p).take (j+1)).count q=((G1 E p).take j).count q+if y=q then 1 else 0:=fun q=>by
    rw [M6 hy,List.count_append,List.count_singleton]
    by_cases e:y=q
    .rw [if_pos e,if_pos (by simpa using e)]
    .rw [if_neg e,if_neg (by simpa using e)]
   have turn:=F.turn (z':=fun q=>cnt E line q=((G1 E p).take (j+1)).count q) tnd (y:=y) (fun q hq=>by rw [qJ,if_neg (fun e=>hq e.symm),Nat.add_zero]) 'a' hmy hyb;have U3:C2 ts (fun t=>V.int (if t=y then (cnt E line y:Nat)-(((G1 E p).take j).count y:Nat)-1 else (cnt E line t:Nat)-(((G1 E p).take j).count t:Nat)))=C2 ts (fun t=>V.int ((cnt E line t:Nat)-(((G1 E p).take (j+1)).count t:Nat))):=V4 fun q _=>by
    rw [qJ]
    by_cases e:q=y
    .rw [if_pos e,e,if_pos rfl];exact congrArg V.int 'a'
    .rw [if_neg e,if_neg (fun z=>e z.symm)];exact congrArg V.int 'a'
   walk_at "rd";refine ⟨_,.inl ⟨_,Sum.inr y,.inl aF,rfl,by rw [Q4,if_pos fW]⟩,_,_,rfl,rfl,_,cM (k:=Sum.inr y) aF (by rw [l6];exact L6 'a'),?_⟩;have dQ:A0 j6 c (.dK (putK (C2 ts fun t=>V.int ((cnt E line t:Nat)-(((G1 E p).take j).count t:Nat))) (Sum.inr y) (V.int ((cnt E line y:Nat)-(((G1 E p).take j).count y:Nat)-1)))) c=some (.dK (C2 ts (fun t=>V.int ((cnt E line t:Nat)-(((G1 E p).take (j+1)).count t:Nat))))):=by
    rw [A3,oB _ fW,<- U3];refine congrArg (fun x=>some (HO.dK x)) (V4 fun q _=>?_)
    by_cases e:q=y
    .rw [if_pos e,if_pos e]
    .rw [if_neg e,if_neg e]
   have B11:SameBut c H5 (A0 j6 c (.dK (putK (C2 ts fun t=>V.int ((cnt E line t:Nat)-(((G1 E p).take j).count t:Nat))) (Sum.inr y) (V.int ((cnt E line y:Nat)-(((G1 E p).take j).count y:Nat)-1))))):=B.at;have dR:A0 j6 c (.dK (putK (C2 ts fun t=>V.int ((cnt E line t:Nat)-(((G1 E p).take j).count t:Nat))) (Sum.inr y) (V.int ((cnt E line y:Nat)-(((G1 E p).take j).count y:Nat)-1)))) f=some (.lst (fr.map V.int)):=by rw [A7 hcf.symm];exact jG
   have jI:A0 j6 c (.dK (putK (C2 ts fun t=>V.int ((cnt E line t:Nat)-(((G1 E p).take j).count t:Nat))) (Sum.inr y) (V.int ((cnt E line y:Nat)-(((G1 E p).take j).count y:Nat)-1)))) ln=some (.lst ((line++[p]).map V.str)):=by rw [A7 uI.symm];exact jH
   generalize A0 j6 c (.dK (putK (C2 ts fun t=>V.int ((cnt E line t:Nat)-(((G1 E p).take j).count t:Nat))) (Sum.inr y) (V.int ((cnt E line y:Nat)-(((G1 E p).take j).count y:Nat)-1))))=H11 at dQ B11 dR jI ⊢
   refine ⟨V.int ((cnt E line y:Nat)-(((G1 E p).take (j+1)).count y:Nat)),.inl ⟨_,Sum.inr y,.inl dQ,rfl,by rw [Q4,if_pos fW]⟩,?_⟩
   try walk_at "rd"
   have hfl2:=frlen F;refine iteD (fun h0=>⟨V2 dR,V.int (ts.idxOf y:Nat),.inl ⟨_,Sum.inr y,.inl (B11 _ _ ncn.symm hnm),rfl,by rw [Q4,if_pos fW]⟩,appOk dR (by rw [A6];exact L6 'a') ?_⟩) fun h0=>?_
   .refine ⟨B11.put nf,?_,fr++[(my:Int)],?_,turn.1 'a',?_⟩
    .rw [A7 hcf];exact dQ
    .rw [A3,D0,idx hmy];rfl
    .rw [A7 dO.symm];exact jI
   .exact ⟨B11,dQ,fr,dR,turn.2 'a',jI⟩
  .rintro Y j6 ⟨x,fr,rfl,B,aF,jG,F,jH⟩;rw [A6,L7] at aF F;have fX:∀ q,cnt E line q=cnt E (line++[p]) q+(G1 E p).count q:=fun q=>ahZ (E:=E) (q:=q) bP
   refine ⟨⟨_,_,rfl⟩,B,line++[p],?_,fr,jG,F.congr fun q=>?_,jH,run.snoc j9,by rw [D6,X2];lia⟩
   .rw [aF];exact congrArg (fun x=>some (HO.dK x)) (V4 fun q _=>congrArg V.int (by have:=fX q;lia))
   .have:=fX q
    lia
theorem agJ:FnScope ["sign"] ["sign"] (C1 sK):=E7
abbrev ahm:List Str:=["sign"]
theorem vaR:VS ahm sK "sign" 0:=vq
theorem agK(F:FunD K "is_figure" "is_figure" sK f fd)(T:Txt P w K mg C):FnOk P w K mg base E1 1 f fd ["sign"] kX:=by
 refine F.ok agJ ?_ ?_
 .rintro _ _ _ _ ⟨c,rfl,_⟩;rfl
 .intro cdv A outer s H vs Q E hr h;have B5:=hu_of hr;have hu:=hr.units;refine ⟨_,QSs.out (A5 (D1 (alY q_le q_le M5 (vi vaR) M5))),?_⟩;obtain ⟨c,rfl,q⟩:=h;walk_at "rd";have e1:(Str.ofString "0").cps.toList=[48]:=by decide +kernel
  have e2:(Str.ofString "9").cps.toList=[57]:=by decide +kernel
  rw [e1,e2];simp only [ark];refine iteN (fun h1=>?_) fun h1=>?_
  .have e:figO c=!decide (57<c):=by
    unfold figO;rw [decide_eq_true (by lia:48<=c)]
    by_cases h2:c<=57
    .rw [decide_eq_true h2,decide_eq_false (by lia:¬ 57<c)];rfl
    .rw [decide_eq_false h2,decide_eq_true (by lia:57<c)];rfl
   rw [e] at q;exact q
  .have e:figO c=false:=by unfold figO;rw [decide_eq_false (by lia:¬ 48<=c)];rfl
   rw [e] at q;exact q
theorem ahn:FnScope ["rules", "word"] ["rules", "word"] (C1 oQ):=E7
abbrev ai7:List Str:=["rules", "word"]
theorem vaS:VS ai7 oQ "rules" 0:=vq
theorem aho(F:FunD K "has_rule" "has_rule" oQ f fd)(T:Txt P w K mg C):FnOk P w K mg base E1 1 f fd ["rules", "word"] (spHas K):=by
 refine F.ok ahn ?_ ?_
 .rintro _ _ _ _ ⟨a,ts,R,w,rfl,_⟩;rfl
 .intro cdv A outer s H vs Q E hr h;have B5:=hu_of hr;have hu:=hr.units;refine ⟨_,QSs.out (A5 (D1 (qe_cB (q_any (calm:=true)) T.b_any amS (qa_c (g7  (V5:CompOk ["rules", "word"] (C1 oQ).names _ ["rule", "word"] 1 [1]) (P7 (K:=K) (vi vaS)) (fun _ _ _ _ _=>D3 (n:=0) (show List.Nodup (["rule", "word"]:List Str) by decide +kernel) rfl (Or.inl rfl)) (fun _ _ _ _ _=>k9) (fun _ _ _ _ _=>(k8 (q_eq (K:=K) hu) (qe_ix (K:=K) (qv 0) A1) (qv 1)))) A2)))),?_⟩;obtain ⟨a,ts,R,w,rfl,hR,hl,q⟩:=h;walk_at "rd";refine ⟨⟨_,.of hR.top⟩,compL (xs:=ts.map V.ref) [some (.str w)] rfl (fun D i ys H4=>ys=((R.take i).map fun z=>decide (z.1=w)).map V.bl/\Same H H4) (fun D nD=>⟨rfl,Same.new nD⟩) (by rintro D i ys H4 nD _ ⟨_,S⟩;exact .of (S _ _ hR.top)) ?_ ?_⟩
  .rintro D i x ys H4 nD hi hx ⟨rfl,S⟩ hD hy;obtain ⟨t,ht,rfl⟩:=J8 hx;obtain ⟨z,hz,E3⟩:=Paired.at hR.row ht;have bQ:i<R.length:=(E6.mp hz).1;walk_at "rd";refine ⟨_,.inr (.of (S _ _ E3)),V.str z.1,M3 _ _,?_⟩;walk_at "rd";refine ⟨hD,by rw [A6,A6,F7];exact L6 'a',CW.put hi hy ⟨?_,S.put nD⟩⟩;rw [v6,hz]
   simp
  rintro D ys H4 nD ⟨rfl,S⟩ hD hy;rw [A6,hR.len,L7] at hD;refine ⟨_,rfl,hD,?_⟩;have e:((R.map fun z=>decide (z.1=w)).any id)=hasW R w:=by
   unfold hasW;rw [List.any_map];rfl
  rw [e];exact q H4 S
theorem aeT:FnScope ["rule"] ["rule"] (C1 sL):=E7
abbrev afQ:List Str:=["rule"]
theorem lM:VS afQ sL "rule" 0:=vq
theorem aeU(F:FunD K "pieces_told" "pieces_told" sL f fd)(T:Txt P w K mg C):FnOk P w K mg base E1 1 f fd ["rule"] (akh K):=by
 refine F.ok aeT ?_ ?_
 .rintro _ _ _ _ ⟨t,z,rfl,_⟩;rfl
 .intro cdv A outer s H vs Q E hr h;have B5:=hu_of hr;have hu:=hr.units;obtain ⟨a_JOBS,m_JOBS,M_JOBS⟩:=T.x_JOBS;refine ⟨_,QSs.out (A4 (qs_if (E2 (q_eq (K:=K) hu) (qe_ix (K:=K) (vi lM) A1) M5) (A5 (D1 (M9 (K:=K) (vi lM) (L1 A1) Q3))) G5)
   (A4 (qs_if (E2 (q_eq (K:=K) hu) (qe_ix (K:=K) (vi lM) A1) M5) (A5 (D1 (M9 (K:=K) (vi lM) (L1 A1) (L1 A1)))) G5)
   (A5 (D1 (ahV (E2 (q_inM M_JOBS) (qe_ix (K:=K) (vi lM) A1) (kN m_JOBS)) (M9 (K:=K) (vi lM) (L1 A1) Q3) (F9 A2)))))),?_⟩
  obtain ⟨t,z,rfl,ht,q⟩:=h;have hT:B1 K H t ((z.1::z.2).map V.str):=.of ht;have A9:1<=((z.1::z.2).map V.str).length:=by rw [A6,L0];lia
  walk_at "rd";refine ⟨_,.inr hT,V.str z.1,M3 _ _,?_⟩;walk_at "rd";refine iteD (fun e=>?_) fun n1=>⟨_,.inr hT,V.str z.1,M3 _ _,?_⟩
  .refine rSlR.t hT (aZ (k:=2) (by decide) A9) fun p np=>q p _ (Same.new np) (.of ?_)
   rw [A3,show ((2:Int))=((2:Nat):Int) from rfl,x6,G0,List.drop_succ_cons,<- cD];unfold P3;rw [if_pos e]
  walk_at "rd";refine iteD (fun e=>?_) fun n2=>⟨_,.inr hT,V.str z.1,M3 _ _,?_⟩
  .refine rSlR.t hT (aZ (k:=1) (by decide) A9) fun p np=>q p _ (Same.new np) (.of ?_)
   have ecut:cutV ((z.1::z.2).map V.str) (some 1) (some 2)=(z.2.take 1).map V.str:=by
    unfold cutV
    cases z.2 with
    | nil=>rfl
    | cons y r=>
     have e1:HT.sIx ((z.1::y::r).map V.str).length 0 (some 1)=1:=by
      rw [show ((1:Int))=((1:Nat):Int) from rfl,HT.sIx_nat,A6,L0,L0];lia
     have e2:HT.sIx ((z.1::y::r).map V.str).length ((z.1::y::r).map V.str).length (some 2)=2:=by
      rw [show ((2:Int))=((2:Nat):Int) from rfl,HT.sIx_nat,A6,L0,L0];lia
     rw [e1,e2];rfl
   rw [A3,ecut];unfold P3;rw [if_neg n1,if_pos e]
  walk_at "rd"
  by_cases hj:gZ z.1
  .rw [wW hj];refine iteT (rSlR.t hT (aZ (k:=1) (by decide) A9) fun p np=>q p _ (Same.new np) (.of ?_));rw [A3,G0,wM];unfold P3;have h3:z.1=("row" : Str)\/z.1=("marks" : Str)\/z.1=("over" : Str):=by
    rcases hj with h | h | h | h | h
    .exact .inl h
    .exact .inr (.inl h)
    .exact absurd h n1
    .exact absurd h n2
    .exact .inr (.inr h)
   rw [if_neg n1,if_neg n2,if_pos h3]
  .rw [amh hj];refine iteF fun p np=>q p _ (Same.new np) (.of ?_)
   rw [A3];unfold P3;rw [if_neg n1,if_neg n2,if_neg (fun h=>hj (by
    rcases h with h | h | h
    .exact .inl h
    .exact .inr (.inl h)
    .exact .inr (.inr (.inr (.inr h)))))]
   rfl
theorem ahp:FnScope ["jobs", "piece", "job", "figures"] ["jobs", "piece", "job", "figures"] (C1 eZ):=E7
abbrev tD:List Str:=["jobs", "piece", "job", "figures"]
theorem vaU:VS tD eZ "jobs" 0:=vq
theorem yL:VS tD eZ "piece" 1:=vq
theorem vaW:VS tD eZ "job" 2:=vq
theorem vaX:VS tD eZ "figures" 3:=vq
theorem ahq(F:FunD K "is_clash" "is_clash" eZ f fd)(T:Txt P w K mg C)(G_is_figure:FO P w K mg base 1 "is_figure" ["sign"] [] kX):FnOk P w K mg base E1 2 f fd ["jobs", "piece", "job", "figures"] aki:=by
 refine F.ok ahp ?_ ?_
 .rintro _ _ _ _ ⟨d,p,j,fg,ks,g,rfl,_⟩;rfl
 .intro cdv A outer s H vs Q E hr h;have B5:=hu_of hr;have hu:=hr.units;obtain ⟨a_AGAIN,m_AGAIN,M_AGAIN⟩:=T.x_AGAIN;refine ⟨_,QSs.out (A4 (qs_if (QW.pt (cN (E2 (q_in (K:=K) hu) (vi yL) (vi vaU)) (eS (QW.pt (qw_or (E2 (q_ne (K:=K) hu) (g6 B5 (vi vaU) (vi yL)) (vi vaW)) (nW (E2 (aj2 (K:=K) hu) (vi vaW) (kN m_AGAIN)))))))) (A5 (D1 qe_bl)) G5)
   (A5 (D1 (wG (vi vaX) (rQ (qe_cB (q_any (calm:=true)) T.b_any amS (qa_c (g7  (V5:CompOk ["jobs", "piece", "job", "figures"] (C1 eZ).names _ ["sign"] 1 []) (amV (vi yL)) (fun _ _ _ _ _=>D3 (n:=0) (show List.Nodup (["sign"]:List Str) by decide +kernel) rfl (Or.inl rfl)) (fun _ _ _ _ _=>k9) (fun _ _ _ _ _=>(C9 G_is_figure (hm hr) (qa_c (qv 0) A2)))) A2))))))),?_⟩
  obtain ⟨d,p,j,fg,ks,g,rfl,hd,hp,h1,h2,q⟩:=h;walk_at "rd";have tail:(if fg=true then eR (kL p) 1 [] (gName 0) tYes (tCall kX [] E0 (tCons (tVar 0) tNil)) [some (V.ref d),some (V.str p),some (V.str j),some (V.bl fg)] (fun x H1=>rAnyB true [x] H1 Q) H else Q (V.bl false) H):=by
   by_cases hf:fg=true
   .rw [if_pos hf];refine compS [] rfl (fun D i ys H4=>ys=((p.cps.toList.take i).map figO).map V.bl/\Same H H4) (fun D nD=>⟨rfl,Same.new nD⟩) ?_ ?_
    .rintro D i x ys H4 nD hi hx ⟨rfl,S⟩ hD hy;walk_at "rd";refine ⟨x,rfl,hD,?_,CW.put hi hy ⟨?_,S.put nD⟩⟩
     .rw [A6,A6,F7];exact L6 (by have:p.cps.size=p.length:=rfl;lia)
     .rw [v6,hx]
      simp
    .rintro D ys H4 nD ⟨rfl,S⟩ hD hy;walk_at "rd";refine ⟨_,hD,?_⟩;have e:((p.cps.toList.take p.cps.size).map figO).any id=false:=by
      rw [List.any_eq_false];intro b hb;obtain ⟨c,hc,rfl⟩:=D7.mp hb;rw [h2 hf c (bY hc)];decide
     rw [e];exact q H4 S
   .rw [if_neg hf];exact q H (cK H)
  refine rInR.d (g4 (k:=Sum.inr p) hd) ⟨_,rfl,?_⟩;rw [Q4,gK]
  by_cases hk:p∈ks
  .obtain ⟨e1,e2⟩:=h1 hk;rw [if_pos hk];refine iteT ⟨V.str (g p),.inl ⟨_,Sum.inr p,.inl hd,rfl,by rw [Q4,if_pos hk]⟩,?_⟩;walk_at "rd";rw [decide_eq_true e1];refine iteF (rInR.l (.inr (M_AGAIN _)) rfl rfl ⟨_,rfl,?_⟩);have e3:eP (.str j) [V.str "letter",V.str "mark",V.str "over"]=true:=by
    have:=ahS j oE
    rw [decide_eq_true e2] at this;exact this
   rw [e3];exact iteF tail
  .rw [if_neg hk];exact iteF tail
theorem sc_jobs_of:FnScope ["rules", "figures", "jobs", "rule", "piece"] ["rules"] (C1 t4):=E7
abbrev oY:List Str:=["rules", "figures", "jobs", "rule", "piece"]
theorem yM:VS oY t4 "rules" 0:=vq
theorem vaZ:VS oY t4 "figures" 1:=vq
theorem tE:VS oY t4 "jobs" 2:=vq
theorem yN:VS oY t4 "rule" 3:=vq
theorem va2:VS oY t4 "piece" 4:=vq
theorem va3:LS t4 "figures":=lq
theorem va4:LS t4 "jobs":=lq
theorem va5:LS t4 "rule":=lq
theorem va6:LS t4 "piece":=lq
theorem ai8(F:FunD K "jobs_of" "jobs_of" t4 f fd)(T:Txt P w K mg C)(G_has_rule:FO P w K mg base 1 "has_rule" ["rules", "word"] [] (spHas K))(G_pieces_told:FO P w K mg base 1 "pieces_told" ["rule"] [] (akh K))(G_is_clash:FO P w K mg base 2 "is_clash" ["jobs", "piece", "job", "figures"] [] aki):FnOk P w K mg base E1 3 f fd ["rules"] (amZ K):=by
 refine F.ok sc_jobs_of ?_ ?_
 .rintro _ _ _ _ ⟨a,ts,R,g,rfl,_⟩;rfl
 .intro cdv A outer s H vs Q E hr h;have B5:=hu_of hr;have hu:=hr.units;obtain ⟨a_JOBS,m_JOBS,M_JOBS⟩:=T.x_JOBS;refine ⟨_,QSs.out (A4 (C4 (n:=1) sc_jobs_of.nd rfl va3 (C9 G_has_rule (hm hr) (qa_c (vi yM) (qa_c M5 A2))))
   (A4 (C4 (n:=2) sc_jobs_of.nd rfl va4 gX)
   (A4 (N0 PassesOwn.never (P7 (K:=K) (vi yM)) (D3 (n:=3) sc_jobs_of.nd rfl va5 (.inl rfl)) (A5 (N0 PassesOwn.never (eT (K:=K) (C9 G_pieces_told (hm hr) (qa_c (vi yN) A2))) (D3 (n:=4) sc_jobs_of.nd rfl va6 (.inl rfl)) (A4 (qs_if (X5 (K:=K) (C9 G_is_clash (hm hr) (qa_c (vi tE) (qa_c (vi va2) (qa_c (ahW M_JOBS (kN m_JOBS) (qe_ix (K:=K) (vi yN) A1)) (qa_c (vi vaZ) A2)))))) (A5 kO) G5)
   (A5 (r0 B5 (vi tE) (vi va2) (ahW M_JOBS (kN m_JOBS) (qe_ix (K:=K) (vi yN) A1))))))))
   (A4 (qs_if (X5 (K:=K) (C9 G_has_rule (hm hr) (qa_c (vi yM) (qa_c M5 A2)))) (A5 (r0 B5 (vi tE) M5 M5)) G5)
   (A5 (D1 (vi tE))))))),?_⟩
  obtain ⟨a,ts,R,g,rfl,hR,hl,X0,hnc,hbl,q⟩:=h;walk_at "rd";refine ⟨a,ts,R, "figures",rfl,hR,hl,fun H1 S1=>?_⟩;generalize hasW R "figures"=fg at hnc;intro d nd;have uK:H d=none:=S1.free nd;have S2:Same H (A0 H1 d (.dK [])):=fun b o h=>C8 (S1 b o h) nd
  refine ⟨⟨_,.of (S2 _ _ hR.top)⟩,forL (xs:=ts.map V.ref) (fun i Y H2=>∃ (u v:Option V),Y=[some (.ref a),some (.bl fg),some (.ref d),u,v]/\Same H H2/\H2 d=some (.dK (C2 (keysP (C6 (R.take i))) fun t=>.str (g t))))
   ⟨none,none,rfl,S2,by rw [A3];rfl⟩ (by rintro i Y H2 _ ⟨_,_,_,S,_⟩;exact .of (S _ _ hR.top)) ?_ ?_⟩
  .rintro i x Y H2 hx ⟨u,v,rfl,S,hd⟩;obtain ⟨t,ht,rfl⟩:=J8 hx;obtain ⟨z,hz,E3⟩:=Paired.at hR.row ht;walk_at "rd";refine ⟨t,z,rfl,S _ _ E3,fun p H3 S3 hp=>⟨p,rfl,⟨_,hp⟩,forT (xs:=(P3 z).map V.str) (fun j Y H4=>∃ (v:Option V),Y=[some (.ref a),some (.bl fg),some (.ref d),some (.ref t),v]/\B1 K H4 p ((P3 z).map V.str)/\Same H H4/\H4 d=some (.dK (C2 (keysP (C6 (R.take i)++((P3 z).take j).map fun p=>(p,jobD z.1))) fun t=>.str (g t))))
    ⟨v,rfl,hp,S.trans S3,by rw [eF,List.map_nil,M8];exact S3 _ _ hd⟩ (by rintro j Y H4 _ ⟨_,_,h,_⟩;exact h) ?_ ?_⟩⟩
   .rintro j x Y H4 mP ⟨v,rfl,o6,S4,X1⟩;obtain ⟨pc,hpc,rfl⟩:=J8 mP;obtain ⟨e1,e2⟩:=arj hz hpc;obtain ⟨n1,n2,n3,n4⟩:=hnc _ _ _ e1;rw [e2] at n2;have hw:=oF (L3 hpc);have Y3:B1 K H4 t ((z.1::z.2).map V.str):=.of (S4 _ _ E3);have o0:(keysP (C6 (R.take i)++((P3 z).take j).map fun p=>(p,jobD z.1))).length<=10000:=by
     have h1:=wV (C6 (R.take i)++((P3 z).take j).map fun p=>(p,jobD z.1));have h2:=congrArg f6 e2;rw [F7] at h2;lia
    walk_at "rd";refine ⟨_,.inr Y3,V.str z.1,M3 _ _,Sum.inr z.1,rfl,V.str (jobD z.1),wW hw,d,pc,jobD z.1,fg,_,g,rfl,X1,n4,fun hk=>⟨n1.symm,n2 ((rZ _ _).mp hk)⟩,n3,fun H5 S5=>⟨false,rfl,iteF ⟨_,.inr (Y3.same S5),V.str z.1,M3 _ _,Sum.inr z.1,rfl,V.str (jobD z.1),wW hw,_,cM (k:=Sum.inr pc) (S5 _ _ X1) (by rw [l6];exact L6 'a'),(o6.same S5).dput (S5 _ _ X1),(S4.trans S5).put uK,?_⟩⟩⟩;rw [A3,M6 hpc,D0,<- X3];rw [show ([pc].map fun p=>(p,jobD z.1))=[(pc,jobD z.1)] from rfl,aiP];unfold dd
    by_cases F6:pc∈keysP (C6 (R.take i)++((P3 z).take j).map fun p=>(p,jobD z.1))
    .rw [if_pos F6,oB _ F6];refine congrArg (fun x=>some (HO.dK x)) (V4 fun t _=>?_)
     by_cases e:t=pc
     .rw [if_pos e,e,n1]
     .rw [if_neg e]
    .rw [if_neg F6,eU _ F6];refine congrArg (fun x=>some (HO.dK x)) (V4 fun t _=>?_)
     by_cases e:t=pc
     .rw [if_pos e,e,n1]
     .rw [if_neg e]
   .rintro Y H4 ⟨v,rfl,o6,S4,X1⟩;walk_at "rd";refine ⟨S4,?_⟩;rw [afc hz];rw [A6,L7] at X1;exact X1
  .rintro Y H2 ⟨u,v,rfl,S,hd⟩;rw [A6,hR.len,L7] at hd;walk_at "rd";refine ⟨a,ts,R, "blanks",rfl,hR.same S,hl,fun H3 S3=>⟨hasW R "blanks",rfl,?_⟩⟩;have R0:=S3 _ _ hd;have hkn:(" " : Str)∉keysP (C6 R):=fun h=>hbl ((rZ _ _).mp h)
   have o0:=wV (C6 R);have hg:∀ t∈keysP (C6 R),V.str (g t)=jobG g t:=fun t ht=>by
    unfold jobG;rw [if_neg (fun e=>hkn (by rw [<- e];exact ht))]
   by_cases hb:hasW R "blanks"=true
   .rw [hb];refine iteT ⟨_,cM (k:=Sum.inr (" " : Str)) R0 (by rw [l6];exact L6 'a'),q d _ uK ((S.trans S3).put uK) ?_⟩;rw [A3,eU _ hkn];unfold W9;rw [if_pos hb];refine congrArg (fun x=>some (HO.dK x)) (V4 fun t ht=>?_);unfold jobG
    by_cases e:t=(" " : Str)
    .simp only [if_pos e]
    .simp only [if_neg e]
   .rw [cF] at hb;rw [hb];refine iteF (q d _ uK (S.trans S3) ?_);unfold W9;rw [hb,if_neg L8,M8,R0];exact congrArg (fun x=>some (HO.dK x)) (V4 hg)
theorem sc_misused:FnScope ["rule", "jobs", "first"] ["rule", "jobs"] (C1 cQ):=E7
abbrev agL:List Str:=["rule", "jobs", "first"]
theorem oZ:VS agL cQ "rule" 0:=vq
theorem va8:VS agL cQ "first" 2:=vq
theorem va9:LS cQ "first":=lq
theorem ai9(F:FunD K "misused" "misused" cQ f fd)(T:Txt P w K mg C):FnOk P w K mg base E1 1 f fd ["rule", "jobs"] (am2 K):=by
 refine F.ok sc_misused ?_ ?_
 .rintro _ _ _ _ ⟨t,d,z,ks,g,rfl,_⟩;rfl
 .intro cdv A outer s H vs Q E hr h;have B5:=hu_of hr;have hu:=hr.units;refine ⟨_,QSs.out (A4 (qs_if (E2 (q_eq (K:=K) hu) (qe_ix (K:=K) (vi oZ) A1) M5) (A5 (D1 (g7  (V5:CompOk ["rule", "jobs", "first"] (C1 cQ).names _ ["piece", "jobs"] 1 [1]) (eT (K:=K) (M9 (K:=K) (vi oZ) (L1 A1) (L1 A1))) (fun _ _ _ _ _=>D3 (n:=0) (show List.Nodup (["piece", "jobs"]:List Str) by decide +kernel) rfl (Or.inl rfl)) (fun _ _ _ _ _=>(kQ (E2 (q_ne (K:=K) hu) (rY B5 (qv 1) (qv 0)) M5))) (fun _ _ _ _ _=>(qv 0))))) G5)
   (A4 (qs_if (E2 (q_eq (K:=K) hu) (qe_ix (K:=K) (vi oZ) A1) M5) (A4 (nX (n:=2) sc_misused.nd rfl va9 (V5:CompOk ["rule", "jobs", "first"] (C1 cQ).names _ ["piece", "jobs"] 1 [1]) (eT (K:=K) (M9 (K:=K) (vi oZ) (L1 A1) (L1 A1))) (fun _ _ _ _ _=>D3 (n:=0) (show List.Nodup (["piece", "jobs"]:List Str) by decide +kernel) rfl (Or.inl rfl)) (fun _ _ _ _ _=>(kQ (E2 (q_ne (K:=K) hu) (rY B5 (qv 1) (qv 0)) M5))) (fun _ _ _ _ _=>(qv 0)))
   (A5 (D1 (qe_op (q_add (K:=K)) (vi va8) (g7  (V5:CompOk ["rule", "jobs", "first"] (C1 cQ).names _ ["piece", "jobs"] 1 [1]) (eT (K:=K) (M9 (K:=K) (vi oZ) (L1 A1) Q3)) (fun _ _ _ _ _=>D3 (n:=0) (show List.Nodup (["piece", "jobs"]:List Str) by decide +kernel) rfl (Or.inl rfl)) (fun _ _ _ _ _=>(kQ (E2 (aj2 (K:=K) hu) (rY B5 (qv 1) (qv 0)) (F9 (qa_c M5 (qa_c M5 A2)))))) (fun _ _ _ _ _=>(qv 0))))))) G5)
   (A5 (D1 (R7 A2))))),?_⟩
  obtain ⟨t,d,z,ks,g,rfl,ht,hd,us,hl,q⟩:=h;have hT:B1 K H t ((z.1::z.2).map V.str):=.of ht;walk_at "rd";refine ⟨_,.inr hT,V.str z.1,M3 _ _,?_⟩;walk_at "rd"
  by_cases h1:z.1=("great" : Str)
  .rw [decide_eq_true h1];have A9:1<=((z.1::z.2).map V.str).length:=by rw [A6,L0];lia
   refine iteT (rSlR.t hT (aZ (k:=1) (by decide) A9) fun s ns=>?_);have ecut:cutV ((z.1::z.2).map V.str) (some 1) (some 2)=(z.2.take 1).map V.str:=by
    rw [show cutV ((z.1::z.2).map V.str) (some 1) (some 2)=_ from sD ((z.1::z.2).map V.str) (i:=1) (j:=2) (by decide),G0,List.drop_succ_cons,List.drop_zero,<- v7]
   rw [ecut];have S1:Same H (A0 H s (.tup ((z.2.take 1).map V.str))):=Same.new ns;have hs:A0 H s (.tup ((z.2.take 1).map V.str)) s=some (.tup ((z.2.take 1).map V.str)):=A3;generalize A0 H s (.tup ((z.2.take 1).map V.str))=H1 at S1 hs;refine ⟨s,rfl,⟨_,.of hs⟩,compT (xs:=(z.2.take 1).map V.str) [some (.ref d)] rfl (fun D i ys H2=>ys=[]/\Same H1 H2) (fun D nD=>⟨rfl,Same.new nD⟩) (by rintro D i ys H2 nD _ ⟨_,S⟩;exact .of (S _ _ hs)) ?_ ?_⟩
   .rintro D i y ys H2 nD hi hy ⟨rfl,S⟩ hD Q1;obtain ⟨p,hp,rfl⟩:=J8 hy;obtain ⟨m1,m2⟩:=us.gr h1 p (L3 hp);have U1:=S _ _ (S1 _ _ hd);walk_at "rd";refine ⟨.inl ⟨_,.inl U1⟩,_,g4 (k:=Sum.inr p) U1,?_⟩;rw [Q4,if_pos m1,Option.getD_some,m2];refine ⟨_,rfl,?_⟩;rw [show ∀ v:Str,(!decide (v=v))=false by intro v;simp];exact iteF ⟨hD,hi,G4 _,⟨_,rfl⟩,rfl,S⟩
   .rintro D ys H2 nD ⟨rfl,S⟩ hD Q1;exact q D H2 (S1.free nD) (S1.trans S) hD
  rw [decide_eq_false h1];refine iteF ⟨_,.inr hT,V.str z.1,M3 _ _,?_⟩;walk_at "rd"
  by_cases h2:z.1=("as" : Str)
  .rw [decide_eq_true h2];have A9:1<=((z.1::z.2).map V.str).length:=by rw [A6,L0];lia
   refine iteT (rSlR.t hT (aZ (k:=2) (by decide) A9) fun s ns=>?_);have ecut:cutV ((z.1::z.2).map V.str) (some 2) (some 3)=((z.2.drop 1).take 1).map V.str:=by
    rw [show cutV ((z.1::z.2).map V.str) (some 2) (some 3)=_ from sD ((z.1::z.2).map V.str) (i:=2) (j:=3) (by decide),G0,List.drop_succ_cons,<- cD,<- v7]
   rw [ecut];have S1:Same H (A0 H s (.tup (((z.2.drop 1).take 1).map V.str))):=Same.new ns;have hs:A0 H s (.tup (((z.2.drop 1).take 1).map V.str)) s=some (.tup (((z.2.drop 1).take 1).map V.str)):=A3;generalize A0 H s (.tup (((z.2.drop 1).take 1).map V.str))=H1 at S1 hs;refine ⟨s,rfl,⟨_,.of hs⟩,compT (xs:=((z.2.drop 1).take 1).map V.str) [some (.ref d)] rfl (fun D i ys H2=>ys=[]/\Same H1 H2) (fun D nD=>⟨rfl,Same.new nD⟩) (by rintro D i ys H2 nD _ ⟨_,S⟩;exact .of (S _ _ hs)) ?_ ?_⟩
   .rintro D i y ys H2 nD hi hy ⟨rfl,S⟩ hD Q1;obtain ⟨p,hp,rfl⟩:=J8 hy;obtain ⟨m1,m2⟩:=us.a1 h2 p (L3 hp);have U1:=S _ _ (S1 _ _ hd);walk_at "rd";refine ⟨.inl ⟨_,.inl U1⟩,_,g4 (k:=Sum.inr p) U1,?_⟩;rw [Q4,if_pos m1,Option.getD_some,m2];refine ⟨_,rfl,?_⟩;rw [show ∀ v:Str,(!decide (v=v))=false by intro v;simp];exact iteF ⟨hD,hi,G4 _,⟨_,rfl⟩,rfl,S⟩
   rintro D ys H2 nD ⟨rfl,S⟩ hD Q1;have S2:=S1.trans S;have hT2:B1 K H2 t ((z.1::z.2).map V.str):=.of (S2 _ _ ht);refine rSlR.t hT2 (aZ (k:=3) (by decide) A9) fun s2 ns2=>?_
   have ecut2:cutV ((z.1::z.2).map V.str) (some 3) none=(z.2.drop 2).map V.str:=by
    rw [show cutV ((z.1::z.2).map V.str) (some 3) none=_ from x6 ((z.1::z.2).map V.str) 3,G0,List.drop_succ_cons,<- cD]
   rw [ecut2];have S3:Same H2 (A0 H2 s2 (.tup ((z.2.drop 2).map V.str))):=Same.new ns2;have dC:A0 H2 s2 (.tup ((z.2.drop 2).map V.str)) s2=some (.tup ((z.2.drop 2).map V.str)):=A3;generalize A0 H2 s2 (.tup ((z.2.drop 2).map V.str))=H3 at S3 dC;refine ⟨s2,rfl,⟨_,.of dC⟩,compT (xs:=(z.2.drop 2).map V.str) [some (.ref d)] rfl (fun D i ys H4=>ys=[]/\Same H3 H4) (fun D nD=>⟨rfl,Same.new nD⟩) (by rintro D i ys H4 nD _ ⟨_,S⟩;exact .of (S _ _ dC)) ?_ ?_⟩
   .rintro D2 i y ys H4 nD2 hi hy ⟨rfl,S4⟩ hD2 hyl2;obtain ⟨p,hp,rfl⟩:=J8 hy;obtain ⟨m1,m2⟩:=us.a2 h2 p (L3 hp);have X1:=S4 _ _ (S3 _ _ (S2 _ _ hd));walk_at "rd";refine ⟨.inl ⟨_,.inl X1⟩,_,g4 (k:=Sum.inr p) X1,?_⟩;rw [Q4,if_pos m1,Option.getD_some];refine ⟨by decide,fun v nv=>?_⟩;have fin:eP (g p) [V.str (Str.ofString "letter"),V.str (Str.ofString "mark")]=true/\flatV (g p)=true:=by
     rcases m2 with m2 | m2 <;> rw [m2] <;> exact ⟨by decide +kernel,rfl⟩
    refine rInR.l (.inr (.of A3)) fin.2 rfl ?_;rw [fin.1,Bool.true_xor];exact ⟨_,rfl,iteF ⟨C8 hD2 nv,hi,G4 _,⟨_,rfl⟩,rfl,S4.trans (Same.new nv)⟩⟩
   rintro D2 ys H4 nD2 ⟨rfl,S4⟩ hD2 hyl2;have hD4:=S4 _ _ (S3 _ _ hD);refine rAddR.l hD4 hD2 (by decide) fun l nl=>?_
   exact q l _ ((S2.trans (S3.trans S4)).free nl) ((S2.trans (S3.trans S4)).trans (Same.new nl)) A3
  rw [decide_eq_false h2];exact iteF fun p np=>q p _ np (Same.new np) A3
theorem sc_check_letters:FnScope ["rules", "jobs", "rule", "wrong"] ["rules", "jobs"] (C1 cR):=E7
abbrev tF:List Str:=["rules", "jobs", "rule", "wrong"]
theorem vba:VS tF cR "rules" 0:=vq
theorem vbb:VS tF cR "jobs" 1:=vq
theorem vbc:VS tF cR "rule" 2:=vq
theorem vbd:VS tF cR "wrong" 3:=vq
theorem vbe:LS cR "rule":=lq
theorem vbf:LS cR "wrong":=lq
theorem ad9(F:FunD K "check_letters" "check_letters" cR f fd)(T:Txt P w K mg C)(G_misused:FO P w K mg base 1 "misused" ["rule", "jobs"] [] (am2 K)):FnOk P w K mg base E1 2 f fd ["rules", "jobs"] (ah4 K):=by
 refine F.ok sc_check_letters ?_ ?_
 .rintro _ _ _ _ ⟨a,d,ts,R,ks,g,rfl,_⟩;rfl
 .intro cdv A outer s H vs Q E hr h;have B5:=hu_of hr;have hu:=hr.units;refine ⟨_,QSs.out (A5 (N0 PassesOwn.never (P7 (K:=K) (vi vba)) (D3 (n:=2) sc_check_letters.nd rfl vbe (.inl rfl)) (A4 (C4 (n:=3) sc_check_letters.nd rfl vbf (C9 G_misused (hm hr) (qa_c (vi vbc) (qa_c (vi vbb) A2))))
   (A5 (qs_if (X5 (K:=K) (vi vbd)) (A5 kO) G5))))),?_⟩
  obtain ⟨a,d,ts,R,ks,g,rfl,hR,hd,hw,q⟩:=h;walk_at "rd";refine ⟨⟨_,.of hR.top⟩,forL (xs:=ts.map V.ref) (fun i Y H2=>∃ (u v:Option V),Y=[some (.ref a),some (.ref d),u,v]/\Same H H2) ⟨none,none,rfl,cK H⟩ (by rintro i Y H2 _ ⟨_,_,_,S⟩;exact .of (S _ _ hR.top)) ?_ ?_⟩
  .rintro i x Y H2 hx ⟨u,v,rfl,S⟩;obtain ⟨t,ht,rfl⟩:=J8 hx;obtain ⟨z,hz,E3⟩:=Paired.at hR.row ht;obtain ⟨n1,n2⟩:=hw z (L3 hz);walk_at "rd";refine ⟨t,d,z,ks,g,rfl,S _ _ E3,S _ _ hd,n1,n2,fun p H3 np S3 hp=>⟨_,wL hp,iteF (S.trans S3)⟩⟩
  .rintro Y H2 ⟨u,v,rfl,S⟩;exact q H2 S
theorem aja:FnScope ["rules", "word"] ["rules", "word"] (C1 oR):=E7
abbrev ak6:List Str:=["rules", "word"]
theorem vbg:VS ak6 oR "rules" 0:=vq
theorem ajb(F:FunD K "line_of" "line_of" oR f fd)(T:Txt P w K mg C)(G_lined_up:FO P w K mg base 3 "lined_up" ["rows"] [] akf):FnOk P w K mg base E1 4 f fd ["rules", "word"] (am0 K):=by
 refine F.ok aja ?_ ?_
 .rintro _ _ _ _ ⟨a,ts,R,w,rank,rfl,_⟩;rfl
 .intro cdv A outer s H vs Q E hr h;have B5:=hu_of hr;have hu:=hr.units;refine ⟨_,QSs.out (A5 (D1 (C9 G_lined_up (hm hr) (qa_c (g7  (V5:CompOk ["rules", "word"] (C1 oR).names _ ["rule", "word"] 1 [1]) (P7 (K:=K) (vi vbg)) (fun _ _ _ _ _=>D3 (n:=0) (show List.Nodup (["rule", "word"]:List Str) by decide +kernel) rfl (Or.inl rfl)) (fun _ _ _ _ _=>(kQ (E2 (q_eq (K:=K) hu) (qe_ix (K:=K) (qv 0) A1) (qv 1)))) (fun _ _ _ _ _=>(qe_cT (nY (K:=K) (calm:=true)) T.b_list kM (qa_c (M9 (K:=K) (qv 0) (L1 A1) Q3) A2)))) A2)))),?_⟩;obtain ⟨a,ts,R,w,rank,rfl,hR,hl,dO,aE,q⟩:=h;walk_at "rd";refine ⟨⟨_,.of hR.top⟩,compL (xs:=ts.map V.ref) [some (.str w)] rfl (fun D i ys H4=>∃ qs:List Addr,ys=qs.map V.ref/\RowsAt H H4 D qs (rowsW (R.take i) w)) (fun D nD=>⟨[],rfl,⟨⟨A3,.nil⟩,by simp,fun r hr=>by rw [E5.mp hr];exact nD,Same.new nD⟩⟩)
   (by rintro D i ys H4 nD _ ⟨qs,_,RA⟩;exact .of (RA.same _ _ hR.top)) ?_ ?_⟩
  .rintro D i x ys H4 nD hi hx ⟨qs,rfl,RA⟩ hD hy;obtain ⟨t,ht,rfl⟩:=J8 hx;obtain ⟨z,hz,E3⟩:=Paired.at hR.row ht;have bQ:i<R.length:=(E6.mp hz).1;have Y3:B1 K H4 t ((z.1::z.2).map V.str):=.of (RA.same _ _ E3);have A9:1<=((z.1::z.2).map V.str).length:=by rw [A6,L0];lia
   walk_at "rd";refine ⟨_,.inr Y3,V.str z.1,M3 _ _,?_⟩;walk_at "rd";refine iteD (fun e=>rSlR.t Y3 (aZ (k:=1) (by decide) A9) fun p np=>?_) fun e=>⟨hD,wC hi hy ⟨qs,rfl,?_⟩⟩
   .rw [G0,wM];walk_at "rd";refine rListR.l (.inr (.of A3)) fun p2 np2=>⟨C8 (C8 hD np) np2,?_,CW.put hi hy ⟨qs++[p2],by rw [D0];rfl,?_⟩⟩
    .rw [A6] at hy;rw [A6];exact L6 'a'
    .rw [afd hz,if_pos e];have n2:H4 p2=none:=(Same.new np).free np2;exact RA.grow (fun b o h=>C8 (C8 h np) np2) n2 A3
   .rw [afd hz,if_neg e];exact RA
  rintro D ys H4 nD ⟨qs,rfl,RA⟩ hD hy;rw [A6,hR.len,L7] at RA;refine ⟨D,qs,rowsW R w,rank,rfl,RA.rows,dO,aE,fun l line H5 nl S5 hl5 run cov=>?_⟩;exact q l line H5 (RA.same.free nl) (RA.same.trans S5) hl5 run cov
theorem sc_forms_of:FnScope ["rules", "forms", "rule"] ["rules"] (C1 fA):=E7
abbrev yO:List Str:=["rules", "forms", "rule"]
theorem vbh:VS yO fA "rules" 0:=vq
theorem vbi:VS yO fA "forms" 1:=vq
theorem yP:VS yO fA "rule" 2:=vq
theorem vbk:LS fA "forms":=lq
theorem vbl:LS fA "rule":=lq
theorem ahr(F:FunD K "forms_of" "forms_of" fA f fd)(T:Txt P w K mg C):FnOk P w K mg base E1 1 f fd ["rules"] (ah3 K):=by
 refine F.ok sc_forms_of ?_ ?_
 .rintro _ _ _ _ ⟨a,ts,R,rfl,_⟩;rfl
 .intro cdv A outer s H vs Q E hr h;have B5:=hu_of hr;have hu:=hr.units;refine ⟨_,QSs.out (A4 (C4 (n:=1) sc_forms_of.nd rfl vbk gX)
   (A4 (N0 PassesOwn.never (P7 (K:=K) (vi vbh)) (D3 (n:=2) sc_forms_of.nd rfl vbl (.inl rfl)) (A5 (qs_if (E2 (q_eq (K:=K) hu) (qe_ix (K:=K) (vi yP) A1) M5) (A5 (R9 (qe_mB (K:=K) W3 PySem.F.slot_list_extend PySem.F.type_list_extend (akj (K:=K)) (al7 (vi vbi) (qe_ix (K:=K) (vi yP) A1) (R7 A2)) (qa_c (M9 (K:=K) (vi yP) (L1 A1) Q3) A2)))) G5)))
   (A5 (D1 (vi vbi))))),?_⟩
  obtain ⟨a,ts,R,rfl,hR,hg,hl,hf,q⟩:=h;walk_at "rd";intro d nd;refine ⟨⟨_,.of (C8 hR.top nd)⟩,forL (xs:=ts.map V.ref) (fun i Y H2=>∃ (u:Option V) (ad:Str->Addr),Y=[some (.ref a),some (.ref d),u]/\Same H H2/\H2 d=some (.dK (C2 (E4 (R.take i)) fun y=>.ref (ad y)))/\DL (A0 H d (.dK [])) H2 (E4 (R.take i)) ad (D9 (R.take i))) ⟨none,fun _=>d,rfl,Same.new nd,A3,⟨by simp [E4,K8,J7],by simp [E4,K8,J7],by simp [E4,K8,J7]⟩⟩ (by rintro i Y H2 _ ⟨_,_,_,S,_⟩;exact .of (S _ _ hR.top)) ?_ ?_⟩
  .rintro i x Y H2 hx ⟨u,ad,rfl,S,hd,dl⟩;obtain ⟨t,ht,rfl⟩:=J8 hx;obtain ⟨z,hz,E3⟩:=Paired.at hR.row ht;have hT:B1 K H2 t ((z.1::z.2).map V.str):=.of (S _ _ E3);walk_at "rd";refine ⟨_,.inr hT,V.str z.1,M3 _ _,?_⟩;walk_at "rd"
   by_cases Y4:z.1=("great" : Str)
   .rw [decide_eq_true Y4];refine iteT ?_;obtain ⟨w,ps⟩:=z;obtain rfl:w=("great" : Str):=Y4;obtain ⟨y,fs,rfl⟩:∃ y fs,ps=y::fs:=by
     cases ps with
     | nil=>exact absurd rfl (hg _ (L3 hz) rfl)
     | cons y fs=>exact ⟨y,fs,rfl⟩
    have etk:R.take (i+1)=R.take i++[(("great" : Str),y::fs)]:=M6 hz;have dO:(D9 (R.take i) y).length+fs.length<=10000:=by
     have:=hf (i+1) y
     rw [etk,xC,if_pos rfl,D6] at this;exact this
    have o0:(C2 (E4 (R.take i)) fun y=>V.ref (ad y)).length<=1000:=by
     rw [l6];unfold E4;have h1:=nU ((K8 (R.take i)).map (·.1)) [];have h2:(K8 (R.take i)).length<=(R.take i).length:=List.length_filterMap_le _ _;rw [A6,Z6] at h1;rw [F7] at h2;lia
    have V9:F8 (((("great" : Str),y::fs).1::(("great" : Str),y::fs).2).map V.str) 1=some (V.str y):=J9 (j:=1) rfl;have dS:cutV (((("great" : Str),y::fs).1::(("great" : Str),y::fs).2).map V.str) (some 2) none=fs.map V.str:=x6 _ 2;refine ⟨.inl ⟨_,.inl hd⟩,_,.inr hT,V.str y,V9,fun p np=>⟨_,C8 hd np,Nat.lt_of_le_of_lt o0 (by decide),Sum.inr y,rfl,fun v hv=>?_,fun hn=>?_⟩⟩
    .rw [Q4] at hv
     by_cases hy:y∈E4 (R.take i)
     .rw [if_pos hy] at hv;cases hv;have fY:=dl.row y hy;have ndy:ad y≠d:=fun e=>by have:=dl.new y hy;rw [e,A3] at this;cases this
      have nHy:H (ad y)=none:=by have:=dl.new y hy;rw [A7 ndy] at this;exact this
      have T1:Same H2 (A0 H2 p (.lst [])):=Same.new np;generalize A0 H2 p (.lst [])=H3 at T1;refine ⟨V2 (T1 _ _ fY),rSlR.t (hT.same T1) (aZ (k:=2) (by decide) 'c') fun s ns=>?_⟩;rw [dS];have T2:Same H3 (A0 H3 s (.tup (fs.map V.str))):=Same.new ns;have hs:A0 H3 s (.tup (fs.map V.str)) s=some (.tup (fs.map V.str)):=A3;generalize A0 H3 s (.tup (fs.map V.str))=H4 at T2 hs;have T:=T1.trans T2;refine ⟨ad y,s,_,_,rfl,rfl,T _ _ fY,.of hs,by rw [A6,A6];exact L9 'a',(S.trans T).put nHy,ad,?_,?_⟩
      .rw [A7 ndy.symm,T _ _ hd,etk,sC];unfold dd;rw [if_pos hy]
      .rw [etk,sC];unfold dd;rw [if_pos hy,<- D0];refine ((dl.same T).app hy (D9 (R.take i) y++fs)).congr fun x _=>?_
       rw [xC]
       by_cases bV:x=y
       .subst bV;simp
       .simp [bV]
     .rw [if_neg hy] at hv;cases hv
    .have hy:y∉E4 (R.take i):=fun hy=>by rw [Q4,if_pos hy] at hn;cases hn
     have ndp:d≠p:=fun e=>by rw [<- e,hd] at np;cases np
     have n0:A0 H d (.dK []) p=none:=by rw [A7 ndp.symm];exact S.free np
     have dl2:=dl.more hy np n0;have bU:=dl2.put (b:=d) (o:=.dK (C2 (E4 (R.take i)++[y]) fun t=>if t=y then V.ref p else V.ref (ad t))) (u:=.dK []) A3;rw [eU (V.ref p) hy];have uH:A0 (A0 H2 p (.lst [])) d (.dK (C2 (E4 (R.take i)++[y]) fun t=>if t=y then V.ref p else V.ref (ad t))) p=some (.lst []):=by rw [A7 ndp.symm,A3]
     have R0:A0 (A0 H2 p (.lst [])) d (.dK (C2 (E4 (R.take i)++[y]) fun t=>if t=y then V.ref p else V.ref (ad t))) d=some (.dK (C2 (E4 (R.take i)++[y]) fun t=>if t=y then V.ref p else V.ref (ad t))):=A3;have S3:Same H (A0 (A0 H2 p (.lst [])) d (.dK (C2 (E4 (R.take i)++[y]) fun t=>if t=y then V.ref p else V.ref (ad t)))):=(S.trans (Same.new np)).put nd;generalize A0 (A0 H2 p (.lst [])) d (.dK (C2 (E4 (R.take i)++[y]) fun t=>if t=y then V.ref p else V.ref (ad t)))=H3 at bU uH R0 S3;have hT3:B1 K H3 t (((("great" : Str),y::fs).1::(("great" : Str),y::fs).2).map V.str):=.of (S3 _ _ E3);refine ⟨V2 uH,rSlR.t hT3 (aZ (k:=2) (by decide) 'c') fun s ns=>?_⟩;rw [dS];have T2:Same H3 (A0 H3 s (.tup (fs.map V.str))):=Same.new ns;have hs:A0 H3 s (.tup (fs.map V.str)) s=some (.tup (fs.map V.str)):=A3;generalize A0 H3 s (.tup (fs.map V.str))=H4 at T2 hs;refine ⟨p,s,_,_,rfl,rfl,T2 _ _ uH,.of hs,by rw [A6];exact L9 (by simp;lia),(S3.trans T2).put (S.free np),fun t=>if t=y then p else ad t,?_,?_⟩
     .rw [A7 ndp,T2 _ _ R0,etk,sC];unfold dd;rw [if_neg hy];refine congrArg (fun z=>some (HO.dK z)) (V4 fun x _=>?_);show (if x=y then V.ref p else V.ref (ad x))=V.ref (if x=y then p else ad x)
      by_cases bV:x=y
      .rw [if_pos bV,if_pos bV]
      .rw [if_neg bV,if_neg bV]
     .rw [etk,sC];unfold dd;rw [if_neg hy,eE]
      have:=((bU.same T2).app (z:=y) 'c' fs).congr (G:=D9 (R.take i++[(("great" : Str),y::fs)])) fun x _=>by
       rw [xC]
       by_cases bV:x=y
       .subst bV;have e0:D9 (R.take i) x=[]:=by
         unfold D9;rw [mV.mpr fun e he=>?_]
         .rfl
         .intro h;have h:e.1=x:=by simpa using h
          refine hy ?_;unfold E4;rw [aY];exact .inr (D7.mpr ⟨e,he,h⟩)
        simp [e0]
       .simp [bV]
      rw [if_pos rfl] at this;exact this
   .rw [decide_eq_false Y4];refine iteF ⟨S,ad,?_,?_⟩
    .rw [show E4 (R.take (i+1))=E4 (R.take i) by unfold E4;rw [xA hz,eW Y4,M8]];exact hd
    .rw [show E4 (R.take (i+1))=E4 (R.take i) by unfold E4;rw [xA hz,eW Y4,M8]];refine dl.congr fun x _=>?_
     unfold D9;rw [xA hz,eW Y4,M8]
  .rintro Y H2 ⟨u,ad,rfl,S,hd,dl⟩;walk_at "rd";rw [A6,hR.len,L7] at hd dl;exact q d ad H2 nd S hd (dl.old (Same.new nd))
theorem sc_steps_of:FnScope ["rules", "letters", "marks", "steps", "place", "letter", "mark", "forms", "case", "form", "rule"] ["rules", "letters", "marks"] (C1 Q8):=E7
abbrev y9:List Str:=["rules", "letters", "marks", "steps", "place", "letter", "mark", "forms", "case", "form", "rule"]
theorem vbm:VS y9 Q8 "rules" 0:=vq
theorem vbn:VS y9 Q8 "letters" 1:=vq
theorem vbo:VS y9 Q8 "marks" 2:=vq
theorem lN:VS y9 Q8 "steps" 3:=vq
theorem vbq:VS y9 Q8 "place" 4:=vq
theorem yQ:VS y9 Q8 "letter" 5:=vq
theorem vbs:VS y9 Q8 "mark" 6:=vq
theorem vbt:VS y9 Q8 "forms" 7:=vq
theorem vbu:VS y9 Q8 "case" 8:=vq
theorem vbv:VS y9 Q8 "form" 9:=vq
theorem yR:VS y9 Q8 "rule" 10:=vq
theorem vbx:LS Q8 "steps":=lq
theorem vby:LS Q8 "place":=lq
theorem vbz:LS Q8 "letter":=lq
theorem vbA:LS Q8 "mark":=lq
theorem vbB:LS Q8 "forms":=lq
theorem vbC:LS Q8 "case":=lq
theorem vbD:LS Q8 "form":=lq
theorem vbE:LS Q8 "rule":=lq
theorem ahs(F:FunD K "steps_of" "steps_of" Q8 f fd)(T:Txt P w K mg C)(G_forms_of:FO P w K mg base 1 "forms_of" ["rules"] [] (ah3 K)):FnOk P w K mg base E1 2 f fd ["rules", "letters", "marks"] (ah6 K):=by
 refine F.ok sc_steps_of ?_ ?_
 .rintro _ _ _ _ ⟨a,b,c,ts,R,L,M,F,rfl,_⟩;rfl
 .intro cdv A outer s H vs Q E hr h;have B5:=hu_of hr;have hu:=hr.units;refine ⟨_,QSs.out (A4 (C4 (n:=3) sc_steps_of.nd rfl vbx gX)
   (A4 (N0 PassesOwn.never (wU T.b_enumerate (qa_c (vi vbn) A2)) (x5 (K:=K) (n:=2) (P6 ((D3 (n:=4) sc_steps_of.nd rfl vby (.inl rfl))) (P6 ((D3 (n:=5) sc_steps_of.nd rfl vbz (.inl rfl))) x4))) (A5 (r0 B5 (vi lN) (vi yQ) (F9 (qa_c (F9 (qa_c (gW T.g_LETTER) (qa_c (vi vbq) (qa_c A1 A2)))) A2)))))
   (A4 (N0 PassesOwn.never (wU T.b_enumerate (qa_c (vi vbo) A2)) (x5 (K:=K) (n:=2) (P6 ((D3 (n:=4) sc_steps_of.nd rfl vby (.inl rfl))) (P6 ((D3 (n:=6) sc_steps_of.nd rfl vbA (.inl rfl))) x4))) (A5 (r0 B5 (vi lN) (vi vbs) (F9 (qa_c (F9 (qa_c (gW T.g_MARK) (qa_c (vi vbq) (qa_c A1 A2)))) A2)))))
   (A4 (C4 (n:=7) sc_steps_of.nd rfl vbB (C9 G_forms_of (hm hr) (qa_c (vi vbm) A2)))
   (A4 (wO PassesOwn.never (vi vbt) (D3 (n:=5) sc_steps_of.nd rfl vbz (.inl rfl)) (A5 (N0 PassesOwn.never (amj T.b_enumerate (qa_c (g6 B5 (vi vbt) (vi yQ)) A2)) (x5 (K:=K) (n:=2) (P6 ((D3 (n:=8) sc_steps_of.nd rfl vbC (.inl rfl))) (P6 ((D3 (n:=9) sc_steps_of.nd rfl vbD (.inl rfl))) x4))) (A5 (r0 B5 (vi lN) (vi vbv) (F9 (qa_c (F9 (qa_c (gW T.g_LETTER) (qa_c (qe_ix (K:=K) (qe_ix (K:=K) (g6 B5 (vi lN) (vi yQ)) A1) A1) (qa_c (vi vbu) A2)))) A2)))))))
   (A4 (N0 PassesOwn.never (P7 (K:=K) (vi vbm)) (D3 (n:=10) sc_steps_of.nd rfl vbE (.inl rfl)) (A5 (qs_if (E2 (q_eq (K:=K) hu) (qe_ix (K:=K) (vi yR) A1) M5) (A5 (r0 B5 (vi lN) (qe_ix (K:=K) (vi yR) A1) (qe_cT (nZ (K:=K)) T.b_tuple nR (qa_c (g7  (V5:CompOk ["rules", "letters", "marks", "steps", "place", "letter", "mark", "forms", "case", "form", "rule"] (C1 Q8).names _ ["part", "steps"] 1 [3]) (eT (K:=K) (M9 (K:=K) (vi yR) (L1 A1) Q3)) (fun _ _ _ _ _=>D3 (n:=0) (show List.Nodup (["part", "steps"]:List Str) by decide +kernel) rfl (Or.inl rfl)) (fun _ _ _ _ _=>k9) (fun _ _ _ _ _=>(qe_ix (K:=K) (g6 B5 (qv 1) (qv 0)) A1))) A2)))) G5)))
   (A5 (D1 (vi lN))))))))),?_⟩
  obtain ⟨a,b,c,ts,R,L,M,F,rfl,hR,md,hb,hc,P9,hRl,dO,mQ,q⟩:=h;have A9:L.length+M.length+((E4 R).flatMap (D9 R)).length+(asKs R).length<=50000:=by
   unfold allKs at mQ;simp only [D6] at mQ;exact mQ
  walk_at "rd";intro d nd;have ndR:∀ {x:Addr} {o:HO},H x=some o->x≠d:=fun h e=>by rw [e,nd] at h;cases h
  refine ⟨⟨_,C8 hb nd⟩,forE (xs:=L.map V.str) (fun i Y H2=>∃ (u v w x y z r:Option V),Y=[some (.ref a),some (.ref b),some (.ref c),some (.ref d),u,v,w,x,y,z,r]/\StI H H2 d (L.take i) F)
   ⟨none,none,none,none,none,none,none,rfl,Same.new nd,fun _=>d,A3,by simp [J7]⟩ (by rintro i Y H2 ⟨_,_,_,_,_,_,_,_,S⟩;exact S.same _ _ hb) ?_ ?_⟩
  .rintro i x t Y H2 hx ⟨u,v,w,x',y,z,r,rfl,S⟩ nt;obtain ⟨l,hl,rfl⟩:=J8 hx;have hi:i<L.length:=(E6.mp hl).1;walk_at "rd";refine ⟨_,.of A3,rfl,_,_,rfl,_,_,rfl,rfl,by decide,fun p np=>⟨by decide,fun p1 Y5=>?_⟩⟩;rw [M6 hl];exact StI.put nd (((S.more (Same.new nt)).more (Same.new np)).more (Same.new Y5)) (by rw [F7];lia) (by
    rw [md.lt i l hl];exact StepAt.one A3 (C8 A3 Y5))
  rintro Y H2 ⟨u,v,w,x',y,z,r,rfl,S⟩;rw [A6,L7] at S;walk_at "rd";refine ⟨⟨_,S.same _ _ hc⟩,forE (xs:=M.map V.str) (fun i Y H2=>∃ (u v w x y z r:Option V),Y=[some (.ref a),some (.ref b),some (.ref c),some (.ref d),u,v,w,x,y,z,r]/\StI H H2 d (L++M.take i) F)
   ⟨u,v,w,x',y,z,r,rfl,by rw [eF,M8];exact S⟩ (by rintro i Y H2 ⟨_,_,_,_,_,_,_,_,S⟩;exact S.same _ _ hc) ?_ ?_⟩
  .clear S;rintro i x t Y H2 hx ⟨u,v,w,x',y,z,r,rfl,S⟩ nt;obtain ⟨l,hl,rfl⟩:=J8 hx;have hi:i<M.length:=(E6.mp hl).1;walk_at "rd";refine ⟨_,.of A3,rfl,_,_,rfl,_,_,rfl,rfl,by decide,fun p np=>⟨by decide,fun p1 Y5=>?_⟩⟩;rw [M6 hl,<- X3];exact StI.put nd (((S.more (Same.new nt)).more (Same.new np)).more (Same.new Y5)) (by rw [D6,F7];lia) (by
    rw [md.mr i l hl];exact StepAt.one A3 (C8 A3 Y5))
  clear S H2 u v w x' y z r;rintro Y H2 ⟨u,v,w,x',y,z,r,rfl,S⟩;rw [A6,L7] at S;walk_at "rd";refine ⟨a,ts,R,rfl,hR.same S.same,fun z hz e=>md.ne z hz (.inr e),hRl,dO,fun fd af H3 nfd S3 uL dl=>?_⟩;have nf0:H fd=none:=S.same.free nfd;have nf1:fd≠d:=fun e=>by
   obtain ⟨ad,h1,_⟩:=S.made;rw [<- e,nfd] at h1;cases h1
  have S':=S.more S3;have E3:=dl.row;clear S S3 dl nfd H2;refine ⟨fd,rfl,_,uL,fun o=>forD (fun i Y H4=>∃ (u v w y z r:Option V),Y=[some (.ref a),some (.ref b),some (.ref c),some (.ref d),u,v,w,some (.ref fd),y,z,r]/\FoI H H4 d fd o (E4 R) af (D9 R) (L++M++((E4 R).take i).flatMap (D9 R)) F)
   ⟨u,v,w,y,z,r,rfl,⟨A3,fun y hy=>by rw [A7 (fun e=>by have:=E3 y hy;rw [e,uL] at this;cases this)];exact E3 y hy,by rw [eF,List.flatMap_nil,M8];exact S'.frz uL nf0 nf1⟩⟩ (by rintro i Y H4 ⟨_,_,_,_,_,_,_,h⟩;exact h.frz) ?_ ?_⟩
  .rintro i k v' Y H4 hk ⟨u,v,w,y,z,r,rfl,J⟩;obtain ⟨l,hl,e⟩:=J8 (f:=fun t=>((Sum.inr t:B3),V.ref (af t))) hk;obtain ⟨rfl,rfl⟩:=Prod.mk.inj e;have qK:l∈E4 R:=L3 hl;have hlL:=md.gl l qK;have hfl2:(((E4 R).take i).flatMap (D9 R)).length+(D9 R l).length<=((E4 R).flatMap (D9 R)).length:=by
    have e:(E4 R).flatMap (D9 R)=((E4 R).take i).flatMap (D9 R)++D9 R l++((E4 R).drop (i+1)).flatMap (D9 R):=by
     have:=e8 (i+1) (E4 R)
     rw [M6 hl] at this;rw [<- this,e9,e9,o9,List.flatMap_nil,M8];rw [this]
    rw [e,D6,D6];lia
   walk_at "rd";refine ⟨V.ref (af l),.inl ⟨_,Sum.inr l,.inr ⟨o,J.frz⟩,rfl,by rw [Q4,if_pos qK]⟩,af l,rfl,⟨_,J.rows l qK⟩,forE1 (xs:=(D9 R l).map V.str) (fun j Y H5=>∃ (y z r:Option V),Y=[some (.ref a),some (.ref b),some (.ref c),some (.ref d),u,some (kV (Sum.inr l)),w,some (.ref fd),y,z,r]/\FoI H H5 d fd o (E4 R) af (D9 R) (L++M++((E4 R).take i).flatMap (D9 R)++(D9 R l).take j) F) ⟨y,z,r,rfl,by rw [eF,M8];exact J⟩ (by rintro j Y H5 ⟨_,_,_,_,h⟩;exact h.rows l qK) ?_ ?_⟩
   .clear J y z r;rintro j x t Y H5 hx ⟨y,z,r,rfl,J⟩ nt;obtain ⟨f,hf,rfl⟩:=J8 hx;have hj:j<(D9 R l).length:=(E6.mp hf).1;have T1:Same H5 (A0 H5 t (.tup [.int ((j+1:Nat):Int),.str f])):=Same.new nt;have ht:A0 H5 t (.tup [.int ((j+1:Nat):Int),.str f]) t=some (.tup [.int ((j+1:Nat):Int),.str f]):=A3;generalize A0 H5 t (.tup [.int ((j+1:Nat):Int),.str f])=H6 at T1 ht ⊢
    have J6:=J.more T1;obtain ⟨ad,h1,h2⟩:=J6.st.made;have F6:l∈J7 [] (L++M++((E4 R).take i).flatMap (D9 R)++(D9 R l).take j):=by
     rw [aY];exact .inr (Q2 _ (Q2 _ (Q2 _ hlL)))
    obtain ⟨tt,e1,e2⟩:=(h2 l F6).ex;rw [md.letter hlL] at e2;obtain ⟨t0,rfl,e3⟩:∃ t0,tt=[t0]/\H6 t0=some (tupT (2,(L.idxOf l:Int),0)):=by
     cases e2 with
     | cons h t=>cases t;exact ⟨_,rfl,h⟩
    walk_at "rd";refine ⟨_,.of ht,rfl,_,_,rfl,_,_,rfl,rfl,V.ref (ad l),.inl ⟨_,Sum.inr l,.inl h1,rfl,by rw [Q4,if_pos F6]⟩,?_⟩;walk_at "rd";refine ⟨_,.inr (.of e1),V.ref t0,M3 _ _,?_⟩;walk_at "rd";refine ⟨_,.inr (.of e3),V.int (L.idxOf l:Int),J9 (j:=1) rfl,by decide,fun p np=>⟨by decide,fun p1 Y5=>?_⟩⟩;rw [M6 hf,<- X3];exact FoI.put nd ((J6.more (Same.new np)).more (Same.new Y5)) (by simp only [D6,F7];lia) (by
     rw [md.gr l qK j f hf];exact StepAt.one A3 (C8 A3 Y5))
   .rintro Y H5 ⟨y,z,r,rfl,J⟩;rw [A6,L7] at J;refine ⟨⟨_,_,_,_,_,_,rfl⟩,?_⟩;rw [M6 hl,e9,o9,List.flatMap_nil,M8,<- X3];exact J
  rintro Y H4 ⟨u,v,w,y,z,r,rfl,J⟩;rw [l6,L7] at J;have S5:=J.st.thaw (o:=.dK (C2 (E4 R) fun y=>V.ref (af y))) J.frz nf0 nf1;generalize A0 H4 fd (.dK (C2 (E4 R) fun y=>V.ref (af y)))=H5 at S5 ⊢
  clear J uL E3;walk_at "rd";refine ⟨⟨_,.of (S5.same _ _ hR.top)⟩,forL (xs:=ts.map V.ref) (fun i Y H6=>∃ (r:Option V),Y=[some (.ref a),some (.ref b),some (.ref c),some (.ref d),u,v,w,some (.ref fd),y,z,r]/\StI H H6 d (L++M++(E4 R).flatMap (D9 R)++asKs (R.take i)) F) ⟨r,rfl,by rw [eF];rw [show asKs []=[] from rfl,M8];exact S5⟩ (by rintro i Y H6 _ ⟨_,_,S⟩;exact .of (S.same _ _ hR.top)) ?_ ?_⟩
  .clear S5 r;rintro i x Y H6 hx ⟨r,rfl,S⟩;obtain ⟨t,ht,rfl⟩:=J8 hx;obtain ⟨zz,hz,E3⟩:=Paired.at hR.row ht;have fZ:=L3 hz;have hT:B1 K H6 t ((zz.1::zz.2).map V.str):=.of (S.same _ _ E3);walk_at "rd";refine ⟨_,.inr hT,V.str zz.1,M3 _ _,?_⟩;walk_at "rd"
   by_cases has:zz.1=("as" : Str)
   .rw [decide_eq_true has];refine iteT ?_;obtain ⟨w1,ps⟩:=zz;obtain rfl:w1=("as" : Str):=has;obtain ⟨p,qs,rfl⟩:∃ p qs,ps=p::qs:=by
     cases ps with
     | nil=>exact absurd rfl (md.ne _ fZ (.inl rfl))
     | cons p qs=>exact ⟨p,qs,rfl⟩
    have dS:cutV (((("as" : Str),p::qs).1::(("as" : Str),p::qs).2).map V.str) (some 2) none=qs.map V.str:=x6 _ 2;have hql:qs.length<=1000:=by have:=P9 _ fZ;simp only [L0] at this;lia
    have hasl:=amn (R.take i);rw [F7] at hasl;refine rSlR.t hT (aZ (k:=2) (by decide) 'c') fun s ns=>?_
    rw [dS];have T1:Same H6 (A0 H6 s (.tup (qs.map V.str))):=Same.new ns;have hs:A0 H6 s (.tup (qs.map V.str)) s=some (.tup (qs.map V.str)):=A3;generalize A0 H6 s (.tup (qs.map V.str))=H7 at T1 hs;have S7:=S.more T1;have hT7:B1 K H7 t (((("as" : Str),p::qs).1::(("as" : Str),p::qs).2).map V.str):=B1.same T1 hT;clear hT S;refine ⟨s,rfl,⟨_,.of hs⟩,compT (xs:=qs.map V.str) [some (.ref d)] rfl (fun D j ys H8=>∃ gA:List Addr,ys=gA.map V.ref/\AsI H H7 H8 d (L++M++(E4 R).flatMap (D9 R)++asKs (R.take i)) F gA ((qs.take j).map fun q=>(F q).headD (0,0,0))) (fun D nD=>⟨[],rfl,S7.more (Same.new nD),.nil,Same.new nD⟩) (by rintro D j ys H8 nD _ ⟨_,_,h⟩;exact .of (h.sm _ _ hs)) ?_ ?_⟩
    .rintro D j yv ys H8 nD hi hy ⟨gA,rfl,J⟩ hD Q1;obtain ⟨qq,hq,rfl⟩:=J8 hy;have hqb:=md.pt _ fZ rfl qq (L3 hq);obtain ⟨st,b9⟩:=md.base hqb;obtain ⟨ad,h1,h2⟩:=J.st.made;have F6:qq∈J7 [] (L++M++(E4 R).flatMap (D9 R)++asKs (R.take i)):=by
      rw [aY];refine .inr (Q2 _ (Q2 _ (E8.mpr hqb)))
     obtain ⟨tt,e1,e2⟩:=(h2 qq F6).ex;rw [b9] at e2;obtain ⟨t0,rfl,e3⟩:∃ t0,tt=[t0]/\H8 t0=some (tupT st):=by
      cases e2 with
      | cons h t=>cases t;exact ⟨_,rfl,h⟩
     walk_at "rd";refine ⟨V.ref (ad qq),.inl ⟨_,Sum.inr qq,.inl h1,rfl,by rw [Q4,if_pos F6]⟩,?_⟩;walk_at "rd";have uJ:gA.length<=1000:=by
      have:=Paired.length J.pr
      rw [A6,F7] at this;lia
     refine ⟨_,.inr (.of e1),V.ref t0,M3 _ _,hD,by rw [A6];exact L6 'a',CW.put hi Q1 ⟨gA++[t0],by rw [D0];rfl,?_⟩⟩;refine AsI.putL (f:=D) ⟨J.st,?_,J.sm⟩ hD (S7.same.free nD) nD;rw [M6 hq,D0];refine Paired.snoc J.pr ?_;show H8 t0=some (tupT ((F qq).headD (0,0,0)));rw [b9];exact e3
    rintro D ys H8 nD ⟨gA,rfl,J⟩ hD Q1;rw [A6,L7] at J;rw [tup_r];refine rTupR.l (.of hD) fun p1 Y5=>?_
    have V9:F8 (((("as" : Str),p::qs).1::(("as" : Str),p::qs).2).map V.str) 1=some (V.str p):=J9 (j:=1) rfl;have S8:Same H8 (A0 H8 p1 (.tup (gA.map V.ref))):=Same.new Y5;refine ⟨_,.inr (B1.same (J.sm.trans S8) hT7),V.str p,V9,?_⟩;rw [agu hz,ah5,<- X3];refine StI.put nd (J.st.more S8) (by simp only [D6];lia) ?_;rw [md.as _ fZ rfl p qs rfl];exact ⟨gA,A3,O6 J.pr fun t s e=>S8 _ _ e⟩
   .rw [decide_eq_false has];refine iteF ?_;rw [agu hz,akt has,M8];exact S
  rintro Y H6 ⟨r,rfl,S⟩;rw [A6,hR.len,L7] at S;walk_at "rd";exact q d H6 nd S.same S.made
theorem adZ:FnScope ["self", "rules"] ["self", "rules"] (C1 fB):=E7
abbrev acT:List Str:=["self", "rules"]
theorem dA:VS acT fB "self" 0:=vq
theorem iD:VS acT fB "rules" 1:=vq
theorem ad0(F:FunD K "__init__" "Order.__init__" fB f fd)(T:Txt P w K mg C)(G_has_rule:FO P w K mg base 1 "has_rule" ["rules", "word"] [] (spHas K))(G_jobs_of:FO P w K mg base 3 "jobs_of" ["rules"] [] (amZ K))(G_check_letters:FO P w K mg base 2 "check_letters" ["rules", "jobs"] [] (ah4 K))(G_line_of:FO P w K mg base 4 "line_of" ["rules", "word"] [] (am0 K))(G_steps_of:FO P w K mg base 2 "steps_of" ["rules", "letters", "marks"] [] (ah6 K)):FnOk P w K mg base E1 5 f fd ["self", "rules"] (sH C):=by
 refine F.ok adZ ?_ ?_
 .rintro _ _ _ _ ⟨x,dx,a,ts,R,g,r1,r2,rfl,_⟩;rfl
 .intro cdv A outer s H vs Q E hr h;have B5:=hu_of hr;have hu:=hr.units;refine ⟨_,QSs.out (A4 (kP (K:=K) (vi dA) (C9 G_has_rule (hm hr) (qa_c (vi iD) (qa_c M5 A2))))
   (A4 (kP (K:=K) (vi dA) (C9 G_has_rule (hm hr) (qa_c (vi iD) (qa_c M5 A2))))
   (A4 (kP (K:=K) (vi dA) (C9 G_jobs_of (hm hr) (qa_c (vi iD) A2)))
   (A4 (R9 (C9 G_check_letters (hm hr) (qa_c (vi iD) (qa_c (aW (K:=K) (vi dA)) A2))))
   (A4 (kP (K:=K) (vi dA) (C9 G_line_of (hm hr) (qa_c (vi iD) (qa_c M5 A2))))
   (A4 (kP (K:=K) (vi dA) (C9 G_line_of (hm hr) (qa_c (vi iD) (qa_c M5 A2))))
   (A5 (kP (K:=K) (vi dA) (C9 G_steps_of (hm hr) (qa_c (vi iD) (qa_c (aW (K:=K) (vi dA)) (qa_c (aW (K:=K) (vi dA)) A2)))))))))))),?_⟩
  obtain ⟨x,dx,a,ts,R,g,r1,r2,rfl,hx,hR,pl,q⟩:=h;have lp:∀ (f:Str) (y:V) (fs:List (Str×V)),(putF f y fs).length<=fs.length+1:=vG;walk_at "rd";refine ⟨a,ts,R, "figures",rfl,hR,pl.len,fun H1 S1=>⟨C,dx,[],S1 _ _ hx,T.cl,T.na_figures,by decide,?_⟩⟩;generalize hF1:putF (Str.ofString "figures") (V.bl (hasW R (Str.ofString "figures"))) []=F1;have l1:F1.length<=1:=by rw [<- hF1];exact lp _ _ _
  have B2:SameBut x H (A0 H1 x (.ins C dx F1)):=(Same.but S1).at;have hx2:A0 H1 x (.ins C dx F1) x=some (.ins C dx F1):=A3;generalize A0 H1 x (.ins C dx F1)=H2 at B2 hx2;have hR2:=hR.but B2 hx;refine ⟨a,ts,R, "behind",rfl,hR2,pl.len,fun H3 S3=>⟨C,dx,F1,S3 _ _ hx2,T.cl,T.na_behind,by lia,?_⟩⟩;generalize hF2:putF (Str.ofString "behind") (V.bl (hasW R (Str.ofString "behind"))) F1=F2;have l2:F2.length<=2:=by rw [<- hF2];exact N5 (lp _ _ _) 'a'
  have B4:SameBut x H2 (A0 H3 x (.ins C dx F2)):=(Same.but S3).at;have mP:A0 H3 x (.ins C dx F2) x=some (.ins C dx F2):=A3;generalize A0 H3 x (.ins C dx F2)=H4 at B4 mP;have hR4:=hR2.but B4 hx2;refine ⟨a,ts,R,g,rfl,hR4,pl.len,pl.plen,pl.nc,pl.nb,fun j H5 nj S5 hj=>?_⟩;have njx:j≠x:=fun e=>by rw [e,mP] at nj;cases nj
  generalize hF3:putF (Str.ofString "jobs") (V.ref j) F2=F3;have l3:F3.length<=3:=by rw [<- hF3];exact N5 (lp _ _ _) 'a'
  have k3:F3.lookup (Str.ofString "jobs")=some (V.ref j):=by rw [<- hF3,P1,if_pos rfl]
  refine ⟨C,dx,F2,S5 _ _ mP,T.cl,T.na_jobs,by lia,?_⟩;rw [hF3];have B6:SameBut x H4 (A0 H5 x (.ins C dx F3)):=(Same.but S5).at;have qL:A0 H5 x (.ins C dx F3) x=some (.ins C dx F3):=A3;have hj6:A0 H5 x (.ins C dx F3) j=some (.dK (C2 (keysP (C6 R)++W9 R) (jobG g))):=by rw [A7 njx];exact hj
  generalize A0 H5 x (.ins C dx F3)=H6 at B6 qL hj6;have hR6:=hR4.but B6 mP;refine ⟨C,dx,F3,qL,T.cl,T.na_jobs,_,k3,a,j,ts,R,_,_,rfl,hR6,hj6,fun z hz=>⟨pl.used hz,pl.zl z hz⟩,fun H7 S7=>?_⟩;refine ⟨a,ts,R, "row",r1,rfl,hR6.same S7,pl.len,N5 pl.f1 (by decide),pl.a1,fun ll L H8 nll S8 hll run cov=>?_⟩;have uE:=S8 _ _ (S7 _ _ qL);have nlx:ll≠x:=fun e=>by rw [e,S7 _ _ qL] at nll;cases nll
  have llen:L.length<=10000:=by
   rw [rW (kS _) run cov];exact N5 (nV _) pl.f1
  generalize hF4:putF (Str.ofString "letter_line") (V.ref ll) F3=F4;have l4:F4.length<=4:=by rw [<- hF4];exact N5 (lp _ _ _) 'a'
  refine ⟨C,dx,F3,uE,T.cl,T.na_letter_line,by lia,?_⟩;rw [hF4];have B9:SameBut x H6 (A0 H8 x (.ins C dx F4)):=(Same.but (S7.trans S8)).at;have uM:A0 H8 x (.ins C dx F4) x=some (.ins C dx F4):=A3;have qM:A0 H8 x (.ins C dx F4) ll=some (.lst (L.map V.str)):=by rw [A7 nlx];exact hll
  generalize A0 H8 x (.ins C dx F4)=H9 at B9 uM qM;have hR9:=hR6.but B9 qL;refine ⟨a,ts,R, "marks",r2,rfl,hR9,pl.len,N5 pl.f2 (by decide),pl.a2,fun ml M j6 nml mR hml run2 cov2=>?_⟩;have nmx:ml≠x:=fun e=>by rw [e,uM] at nml;cases nml
  have mlen:M.length<=10000:=by
   rw [rW (kS _) run2 cov2];exact N5 (nV _) pl.f2
  generalize hF5:putF (Str.ofString "mark_line") (V.ref ml) F4=F5;have l5:F5.length<=5:=by rw [<- hF5];exact N5 (lp _ _ _) 'a'
  refine ⟨C,dx,F4,mR _ _ uM,T.cl,T.na_mark_line,by lia,?_⟩;rw [hF5];have B11:SameBut x H9 (A0 j6 x (.ins C dx F5)):=(Same.but mR).at;have o7:A0 j6 x (.ins C dx F5) x=some (.ins C dx F5):=A3;have aG:A0 j6 x (.ins C dx F5) ml=some (.lst (M.map V.str)):=by rw [A7 nmx];exact hml
  have aH:A0 j6 x (.ins C dx F5) ll=some (.lst (L.map V.str)):=by rw [A7 nlx];exact mR _ _ qM
  generalize A0 j6 x (.ins C dx F5)=H11 at B11 o7 aG aH;have hR11:=hR9.but B11 uM;have kl:F5.lookup (Str.ofString "letter_line")=some (V.ref ll):=by rw [<- hF5,P1,if_neg 'd',<- hF4,P1,if_pos rfl]
  have km:F5.lookup (Str.ofString "mark_line")=some (V.ref ml):=by rw [<- hF5,P1,if_pos rfl]
  refine ⟨C,dx,F5,o7,T.cl,T.na_letter_line,_,kl,C,dx,F5,o7,T.cl,T.na_mark_line,_,km,a,ll,ml,ts,R,L,M,stepF R L M,rfl,hR11,oK pl ⟨run,cov⟩ ⟨run2,cov2⟩,aH,aG,pl.zl,pl.len,akw pl,N5 (aoF pl ⟨run,cov⟩ ⟨run2,cov2⟩) (by decide),fun md H12 nmd u9 hmd=>⟨C,dx,F5,u9 _ _ o7,T.cl,T.na_made,by lia,?_⟩⟩;have nmdx:md≠x:=fun e=>by rw [e,o7] at nmd;cases nmd
  have B:SameBut x H (A0 H12 x (.ins C dx (putF (Str.ofString "made") (V.ref md) F5))):=((B2.trans B4).trans ((B6.trans B9).trans (B11.trans (Same.but u9)))).at;have fr:∀ {H':Hp} {y:Addr},SameBut x H H'->H' y=none->y≠x->H y=none:=fun {H' y} b n nx=>by
   cases e:H y with
   | none=>rfl
   | some o=>have:=b _ _ nx e;rw [n] at this;cases this
  have B44:=B2.trans B4;refine q j ll ml md L M _ (fr B44 nj njx) (fr ((B44.trans B6).trans (Same.but S7)) nll nlx) (fr ((B44.trans B6).trans B9) nml nmx) (fr (((B44.trans B6).trans B9).trans B11) nmd nmdx) B ⟨⟨dx,?_⟩,?_,?_,?_,hmd.mod (u9 _ _ o7) (by intro xs e;cases e) nmdx,⟨run,cov⟩,⟨run2,cov2⟩⟩
  .rw [A3,<- hF5,<- hF4,<- hF3,<- hF2,<- hF1];rfl
  .rw [A7 njx];exact u9 _ _ (B11 _ _ njx (B9 _ _ njx hj6))
  .rw [A7 nlx];exact u9 _ _ aH
  .rw [A7 nmx];exact u9 _ _ aG
theorem agM:FnScope ["self", "piece"] ["self", "piece"] (C1 fC):=E7
abbrev aeN:List Str:=["self", "piece"]
theorem vbH:VS aeN fC "self" 0:=vq
theorem vbI:VS aeN fC "piece" 1:=vq
theorem agN(F:FunD K "job" "Order.job" fC f fd)(T:Txt P w K mg C):FnOk P w K mg base E1 1 f fd ["self", "piece"] (xE C):=by
 refine F.ok agM ?_ ?_
 .rintro _ _ _ _ ⟨x,j,ll,ml,md,p,g,R,L,M,rfl,_⟩;rfl
 .intro cdv A outer s H vs Q E hr h;have B5:=hu_of hr;have hu:=hr.units;refine ⟨_,QSs.out (A5 (D1 (rY B5 (aW (K:=K) (vi vbH)) (vi vbI)))),?_⟩;obtain ⟨x,j,ll,ml,md,p,g,R,L,M,rfl,hO,q⟩:=h;obtain ⟨dx,h1⟩:=hO.ob;walk_at "rd";refine ⟨_,_,_,h1,T.cl,T.na_jobs,_,ags _ _ _ _ _ _,j,rfl,.inl ⟨_,.inl hO.jobs⟩,_,g4 (k:=Sum.inr p) hO.jobs,?_⟩;rw [Q4]
  by_cases hp:p∈keysP (C6 R)++W9 R
  .rw [if_pos hp] at q ⊢
   exact q
  .rw [if_neg hp] at q ⊢
   exact q
theorem sc_figures_at:FnScope ["text", "at", "end"] ["text", "at"] (C1 hG):=E7
abbrev yS:List Str:=["text", "at", "end"]
theorem yT:VS yS hG "text" 0:=vq
theorem vbK:VS yS hG "at" 1:=vq
theorem yU:VS yS hG "end" 2:=vq
theorem vbM:LS hG "end":=lq
theorem afR(F:FunD K "figures_at" "figures_at" hG f fd)(T:Txt P w K mg C)(G_is_figure:FO P w K mg base 1 "is_figure" ["sign"] [] kX):FnOk P w K mg base E1 2 f fd ["text", "at"] akA:=by
 refine F.ok sc_figures_at ?_ ?_
 .rintro _ _ _ _ ⟨z,pre,rest,rfl,_⟩;rfl
 .intro cdv A outer s H vs Q E hr h;have B5:=hu_of hr;have hu:=hr.units;refine ⟨_,QSs.out (A4 (C4 (n:=2) sc_figures_at.nd rfl vbM (vi vbK))
   (A4 (rR PassesOwn.never (QW.pt (cN (E2 q_lt (vi yU) (qe_cB (q_len (K:=K)) T.b_len W6 (qa_c (vi yT) A2))) (eS (X5 (K:=K) (C9 G_is_figure (hm hr) (qa_c (qe_ix (K:=K) (vi yT) (vi yU)) A2)))))) (A5 (wI (n:=2) sc_figures_at.nd rfl vbM A1 wK)))
   (A5 (D1 (M9 (K:=K) (vi yT) (L1 (vi vbK)) (L1 (vi yU))))))),?_⟩
  obtain ⟨z,pre,rest,rfl,hz,P9,q⟩:=h;walk_at "rd";have A9:z.length=pre.length+rest.length:=by
   have:=congrArg f6 P9
   simp [Str.length] at this ⊢
   lia
  have hsz:z.length<=sizeLine:=L9 'a';refine rS (fun m Y H2=>∃ (run left:List Nat),Y=[some (.str z),some (.int pre.length),some (.int ((pre++run).length:Nat))]/\H2=H/\rest=run++left/\rest.takeWhile figO=run++left.takeWhile figO/\m=left.length) rest.length ⟨[],rest,by simp,rfl,rfl,rfl,rfl⟩ ?_;rintro m Y H2 ⟨run,left,rfl,rfl,hr,htw,rfl⟩;have dU:z.cps.toList=pre++(run++left):=by rw [P9,hr]
  have hrl:rest.length=run.length+left.length:=by rw [hr,D6]
  have ecut:cutS z (some (pre.length:Int)) (some (((pre++run).length:Nat):Int))=⟨run.toArray⟩:=by
   have:=sI (y:=run) (rest:=left) dU
   rw [show (((pre++run).length:Nat):Int)=(pre.length:Int)+(run.length:Int) by rw [D6];lia];exact this
  have qN:(pre++run).length=pre.length+run.length:=D6;walk_at "rd";refine ⟨hsz,iteD (fun C5=>⟨hsz,?_⟩) fun hge=>⟨hsz,?_⟩⟩
  .cases left with
   | nil=>simp at hrl;lia
   | cons c l2=>
    refine ⟨c,?_,c,rfl,figO c,rfl,?_⟩
    .rw [dU,<- X3];exact akz
    by_cases hf:figO c=true
    .rw [hf];refine iteT ⟨_,fun _ _ h=>h,l2.length,by simp,run++[c],by simp;lia,rfl,l2,by rw [hr];simp,?_,rfl⟩;rw [htw,List.takeWhile_cons_of_pos hf]
     simp
    .rw [cF] at hf;rw [hf];refine iteF ⟨hsz,?_⟩;rw [ecut];rw [htw,List.takeWhile_cons_of_neg (by simp [hf]),M8] at q;exact q
  .have tX:left=[]:=aL.mp 'a';rw [htw,tX,List.takeWhile_nil,M8] at q;rw [ecut];exact q
theorem sc_part_at:FnScope ["known", "text", "at", "figures", "two"] ["known", "text", "at", "figures"] (C1 cS):=E7
abbrev pA:List Str:=["known", "text", "at", "figures", "two"]
theorem vbN:VS pA cS "known" 0:=vq
theorem pB:VS pA cS "text" 1:=vq
theorem lO:VS pA cS "at" 2:=vq
theorem vbQ:VS pA cS "figures" 3:=vq
theorem vbR:VS pA cS "two" 4:=vq
theorem vbS:LS cS "two":=lq
theorem ajc(F:FunD K "part_at" "part_at" cS f fd)(T:Txt P w K mg C)(G_is_figure:FO P w K mg base 1 "is_figure" ["sign"] [] kX)(G_figures_at:FO P w K mg base 2 "figures_at" ["text", "at"] [] akA):FnOk P w K mg base E1 3 f fd ["known", "text", "at", "figures"] akB:=by
 refine F.ok sc_part_at ?_ ?_
 .rintro _ _ _ _ ⟨d,z,g,pre,c,r,w,y,rfl,_⟩;rfl
 .intro cdv A outer s H vs Q E hr h;have B5:=hu_of hr;have hu:=hr.units;refine ⟨_,QSs.out (A4 (qs_if (QW.pt (cN (X5 (K:=K) (vi vbQ)) (eS (X5 (K:=K) (C9 G_is_figure (hm hr) (qa_c (qe_ix (K:=K) (vi pB) (vi lO)) A2)))))) (A5 (D1 (C9 G_figures_at (hm hr) (qa_c (vi pB) (qa_c (vi lO) A2))))) G5)
   (A4 (C4 (n:=4) sc_part_at.nd rfl vbS (M9 (K:=K) (vi pB) (L1 (vi lO)) (L1 (qe_op (q_add (K:=K)) (vi lO) A1))))
   (A4 (qs_if (E2 (q_in (K:=K) hu) (vi vbR) (vi vbN)) (A5 (D1 (vi vbR))) G5)
   (A4 (qs_if (E2 (q_in (K:=K) hu) (qe_ix (K:=K) (vi pB) (vi lO)) (vi vbN)) (A5 (D1 (qe_ix (K:=K) (vi pB) (vi lO)))) G5)
   (A5 kO))))),?_⟩
  obtain ⟨d,z,g,pre,c,r,w,y,rfl,hd,hz,P9,hp,q⟩:=h;have hsz:z.length<=sizeLine:=L9 'a';have ha:F8 z.cps.toList (pre.length:Int)=some c:=by rw [P9];exact akz
  rw [lC] at hp
  cases w with
  | false=>
   rw [Bool.false_and,if_neg L8] at hp;walk_at "rd"
   cases r with
   | nil=>
    rw [lA] at hp
    by_cases h1:one c∈g
    .rw [if_pos h1] at hp;obtain rfl:=Option.some.inj hp;rw [agA P9];refine ⟨hsz,rInR.d (g4 (k:=Sum.inr (one c)) hd) ⟨_,rfl,?_⟩⟩;rw [kZ,gK,decide_eq_true h1];exact iteT q
    .rw [if_neg h1] at hp;cases hp
   | cons e r=>
    rw [lB] at hp;have ec:cutS z (some (pre.length:Int)) (some ((pre.length:Int)+2))=two c e:=sI (y:=[c,e]) (rest:=r) P9;rw [ec];refine ⟨hsz,rInR.d (g4 (k:=Sum.inr (two c e)) hd) ⟨_,rfl,?_⟩⟩;rw [kZ,gK];refine iteD (fun h=>?_) fun h=>⟨hsz,c,ha,rInR.d (g4 (k:=Sum.inr (one c)) hd) ⟨_,rfl,?_⟩⟩
    .rw [if_pos h] at hp;obtain rfl:=Option.some.inj hp;exact q
    .rw [if_neg h] at hp
     by_cases h1:one c∈g
     .rw [if_pos h1] at hp;obtain rfl:=Option.some.inj hp;rw [kZ,gK,decide_eq_true h1];exact iteT ⟨hsz,c,ha,q⟩
     .rw [if_neg h1] at hp;cases hp
  | true=>
   rw [Bool.true_and] at hp;walk_at "rd";refine ⟨hsz,c,ha,c,rfl,figO c,rfl,?_⟩
   by_cases hf:figO c=true
   .rw [hf];rw [if_pos hf] at hp;obtain rfl:=Option.some.inj hp;exact iteT ⟨z,pre,c::r,rfl,hz,P9,q⟩
   rw [if_neg hf] at hp;rw [cF] at hf;rw [hf];refine iteF ?_
   cases r with
   | nil=>
    rw [lA] at hp
    by_cases h1:one c∈g
    .rw [if_pos h1] at hp;obtain rfl:=Option.some.inj hp;rw [agA P9];refine ⟨hsz,rInR.d (g4 (k:=Sum.inr (one c)) hd) ⟨_,rfl,?_⟩⟩;rw [kZ,gK,decide_eq_true h1];exact iteT q
    .rw [if_neg h1] at hp;cases hp
   | cons e r=>
    rw [lB] at hp;have ec:cutS z (some (pre.length:Int)) (some ((pre.length:Int)+2))=two c e:=sI (y:=[c,e]) (rest:=r) P9;rw [ec];refine ⟨hsz,rInR.d (g4 (k:=Sum.inr (two c e)) hd) ⟨_,rfl,?_⟩⟩;rw [kZ,gK];refine iteD (fun h=>?_) fun h=>⟨hsz,c,ha,rInR.d (g4 (k:=Sum.inr (one c)) hd) ⟨_,rfl,?_⟩⟩
    .rw [if_pos h] at hp;obtain rfl:=Option.some.inj hp;exact q
    .rw [if_neg h] at hp
     by_cases h1:one c∈g
     .rw [if_pos h1] at hp;obtain rfl:=Option.some.inj hp;rw [kZ,gK,decide_eq_true h1];exact iteT ⟨hsz,c,ha,q⟩
     .rw [if_neg h1] at hp;cases hp
theorem sc_cut:FnScope ["known", "text", "figures", "pieces", "parts", "at", "part"] ["known", "text", "figures"] (C1 s_cut):=E7
abbrev n_cut:List Str:=["known", "text", "figures", "pieces", "parts", "at", "part"]
theorem vbT:VS n_cut s_cut "known" 0:=vq
theorem vbU:VS n_cut s_cut "text" 1:=vq
theorem vbV:VS n_cut s_cut "figures" 2:=vq
theorem vbW:VS n_cut s_cut "pieces" 3:=vq
theorem vbX:VS n_cut s_cut "parts" 4:=vq
theorem vbY:VS n_cut s_cut "at" 5:=vq
theorem vbZ:VS n_cut s_cut "part" 6:=vq
theorem vb0:LS s_cut "pieces":=lq
theorem vb1:LS s_cut "parts":=lq
theorem vb2:LS s_cut "at":=lq
theorem vb3:LS s_cut "part":=lq
theorem anl(F:FunD K "cut" "cut" s_cut f fd)(T:Txt P w K mg C)(G_part_at:FO P w K mg base 3 "part_at" ["known", "text", "at", "figures"] [] akB):FnOk P w K mg base E1 4 f fd ["known", "text", "figures"] (sJ K):=by
 refine F.ok sc_cut ?_ ?_
 .rintro _ _ _ _ ⟨a,z,ks,w,rfl,_⟩;rfl
 .intro cdv A outer s H vs Q E hr h;have B5:=hu_of hr;have hu:=hr.units;refine ⟨_,QSs.out (A4 (C4 (n:=3) sc_cut.nd rfl vb0 (qe_cT (aj9 (K:=K) (calm:=true)) T.b_dict ajR (qa_c (g7  (V5:CompOk ["known", "text", "figures", "pieces", "parts", "at", "part"] (C1 s_cut).names _ ["piece"] 1 []) (P7 (K:=K) (vi vbT)) (fun _ _ _ _ _=>D3 (n:=0) (show List.Nodup (["piece"]:List Str) by decide +kernel) rfl (Or.inl rfl)) (fun _ _ _ _ _=>k9) (fun _ _ _ _ _=>(F9 (qa_c (qv 0) (qa_c qe_bl A2))))) A2)))
   (A4 (C4 (n:=4) sc_cut.nd rfl vb1 (R7 A2))
   (A4 (C4 (n:=5) sc_cut.nd rfl vb2 A1)
   (A4 (rR PassesOwn.never (E2 q_lt (vi vbY) (qe_cB (q_len (K:=K)) T.b_len W6 (qa_c (vi vbU) A2))) (A4 (C4 (n:=6) sc_cut.nd rfl vb3 (C9 G_part_at (hm hr) (qa_c (vi vbW) (qa_c (vi vbU) (qa_c (vi vbY) (qa_c (vi vbV) A2))))))
   (A4 (R9 (qe_mB (K:=K) W3 g0 f9 g8 (vi vbX) (qa_c (vi vbZ) A2)))
   (A5 (wI (n:=5) sc_cut.nd rfl vb2 (qe_cB (q_len (K:=K)) T.b_len W6 (qa_c (vi vbZ) A2)) wK)))))
   (A5 (D1 (vi vbX))))))),?_⟩
  obtain ⟨a,z,ks,w,rfl,hS,o0,hz,hw,q⟩:=h;walk_at "rd";refine ⟨⟨_,hS⟩,compL (xs:=ks.map V.str) [] rfl (fun D i ys H4=>∃ ts:List Addr,ys=ts.map V.ref/\Paired (fun t k=>H4 t=some (.tup [V.str k,V.bl true])) ts (ks.take i)/\Same H H4) (fun D nD=>⟨[],rfl,.nil,Same.new nD⟩) (by rintro D i ys H4 nD _ ⟨_,_,_,S⟩;exact S.seq hS) ?_ ?_⟩
  .rintro D i x ys H4 nD hi hx ⟨ts,rfl,P,S⟩ hD hy;obtain ⟨k,hk,rfl⟩:=J8 hx;rw [A6] at hi;walk_at "rd";refine ⟨by decide,fun t nt=>⟨C8 hD nt,L6 'a',CW.put (by rw [A6];exact hi) hy ⟨ts++[t],by rw [D0];rfl,?_,Same.put (fun b o h=>C8 (S b o h) nt) nD⟩⟩⟩;have hDt:D≠t:=fun e=>by rw [e,nt] at hD;cases hD
   rw [v6,hk,Option.toList_some];refine Paired.snoc (O6 P fun r k h=>?_) (by rw [A7 hDt.symm,A3]);rw [A7 (fun e=>by rw [e,hD] at h;cases h)];exact C8 h nt
  rintro D ys H4 nD ⟨ts,rfl,P,S⟩ hD hy;rw [A6,L7] at P;have P2:Paired (fun t (kx:B3×V)=>B1 K H4 t [kV kx.1,kx.2]) ts (kvOf ks):=by
   clear hD hy nD S o0 hS q hw
   induction P with
   | nil=>exact .nil
   | cons h t ih=>exact .cons (.of h) ih
  refine ⟨rfl,D,ts,kvOf ks,rfl,.of hD,P2,fun d nd=>?_⟩;rw [show Z0 [] (kvOf ks)=kvOf (J7 [] ks) from afg ks []];have S1:Same H (A0 H4 d (.dK (kvOf (J7 [] ks)))):=fun b o h=>C8 (S b o h) nd
  have hd:A0 H4 d (.dK (kvOf (J7 [] ks))) d=some (.dK (kvOf (J7 [] ks))):=A3;generalize A0 H4 d (.dK (kvOf (J7 [] ks)))=H5 at S1 hd;have hcg:∀ l,cutF w (J7 [] ks) l=cutF w ks l:=aiY fun x=>by rw [aY];simp
  generalize J7 [] ks=g at hd hcg;refine fun p np=>rS (fun m Y H6=>∃ (pre rest:List Nat) (ps:List Str) (u:Option V),Y=[some (.ref a),some (.str z),some (.bl w),some (.ref d),some (.ref p),some (.int pre.length),u]/\Same H5 H6/\H6 p=some (.lst (ps.map V.str))/\z.cps.toList=pre++rest/\(cutF w g z.cps.toList).1=pre.length+(cutF w g rest).1/\(cutF w g z.cps.toList).2=ps++(cutF w g rest).2/\ps.length<=pre.length/\m=rest.length) z.cps.toList.length
   ⟨[],z.cps.toList,[],none,rfl,Same.new np,A3,rfl,by simp,rfl,G4 _,rfl⟩ ?_
  rintro m Y H6 ⟨pre,rest,ps,u,rfl,S6,h6,P9,o5,N2,X0,rfl⟩;have A9:z.length=pre.length+rest.length:=by
   have:=congrArg f6 P9
   simp [Str.length] at this ⊢
   lia
  walk_at "rd";refine ⟨L9 'a',iteD (fun C5=>?_) fun hge=>?_⟩
  .cases rest with
   | nil=>simp at A9;lia
   | cons c r=>
    cases hy:partF w g (c::r) with
    | none=>
     exfalso
     rw [oN hy] at o5;have hw2:=hw;unfold bB at hw2;rw [<- hcg,o5] at hw2;simp at A9 hw2;lia
    | some y=>
     refine ⟨_,fun _ _ h=>h,d,z,g,pre,c,r,w,y,rfl,S6 _ _ hd,hz,P9,hy,?_⟩;obtain ⟨rest',e1,e2,e3⟩:=lD hy;rw [e2] at o5 N2;have el:y.cps.toList.length=y.length:=by simp [Str.length]
     have erl:(c::r).length=y.length+rest'.length:=by rw [e1,D6,el]
     refine ⟨V2 h6,appOk h6 (by rw [A6];exact L6 'a') ?_⟩;walk_at "rd";refine ⟨L9 'a',rest'.length,by rw [L0] at erl;lia,pre++y.cps.toList,by rw [D6,el];lia,S6.put np,rest',ps++[y],by rw [A3,D0];rfl,P9.trans (by rw [X3];exact congrArg (pre++·) e1),by rw [D6,el,o5];dsimp only;lia,by rw [N2,X3];rfl,by rw [D6,D6,el,X2];lia,rfl⟩
  .have hr:rest=[]:=aL.mp 'a';rw [hr] at o5 N2;refine q p H6 (S1.free np) (S1.trans S6) ?_;rw [h6,<- hcg,N2];show some (HO.lst (ps.map V.str))=some (HO.lst ((ps++[]).map V.str));rw [M8]
theorem aeV:FnScope ["self"] ["self"] (C1 hJ):=E7
abbrev afS:List Str:=["self"]
theorem vb4:VS afS hJ "self" 0:=vq
theorem aeW(F:FunD K "known" "Order.known" hJ f fd)(T:Txt P w K mg C):FnOk P w K mg base E1 1 f fd ["self"] (xH C):=by
 refine F.ok aeV ?_ ?_
 .rintro _ _ _ _ ⟨x,j,ll,ml,md,g,R,L,M,rfl,_⟩;rfl
 .intro cdv A outer s H vs Q E hr h;have B5:=hu_of hr;have hu:=hr.units;refine ⟨_,QSs.out (A5 (D1 (qe_cT (nY (K:=K) (calm:=true)) T.b_list kM (qa_c (aW (K:=K) (vi vb4)) A2)))),?_⟩;obtain ⟨x,j,ll,ml,md,g,R,L,M,rfl,hO,q⟩:=h;obtain ⟨dx,h1⟩:=hO.ob;walk_at "rd";refine ⟨_,_,_,h1,T.cl,T.na_jobs,_,ags _ _ _ _ _ _,?_⟩;walk_at "rd";refine rListR.d (.of hO.jobs) fun l nl=>?_
  rw [show (C2 (keysP (C6 R)++W9 R) (jobG g)).map (fun kv=>kV kv.1)=(G6 R).map V.str by unfold C2 G6;rw [R3];rfl];exact q l nl
theorem aeX:FnScope ["self", "piece"] ["self", "piece"] (C1 fD):=E7
abbrev adK:List Str:=["self", "piece"]
theorem vb5:VS adK fD "self" 0:=vq
theorem vb6:VS adK fD "piece" 1:=vq
theorem aeY(F:FunD K "steps" "Order.steps" fD f fd)(T:Txt P w K mg C):FnOk P w K mg base E1 1 f fd ["self", "piece"] (oP C):=by
 refine F.ok aeX ?_ ?_
 .rintro _ _ _ _ ⟨x,j,ll,ml,md,p,g,R,L,M,rfl,_⟩;rfl
 .intro cdv A outer s H vs Q E hr h;have B5:=hu_of hr;have hu:=hr.units;refine ⟨_,QSs.out (A5 (D1 (al2 B5 (aW (K:=K) (vi vb5)) (vi vb6) (F9 A2)))),?_⟩;obtain ⟨x,j,ll,ml,md,p,g,R,L,M,rfl,hO,q⟩:=h;obtain ⟨dx,h1⟩:=hO.ob;obtain ⟨ad,a1,a2⟩:=hO.made;walk_at "rd";refine ⟨_,_,_,h1,T.cl,T.na_made,_,akC _ _ _ _ _ _,md,rfl,.inl ⟨_,.inl a1⟩,fun e ne=>⟨_,g4 (k:=Sum.inr p) (C8 a1 ne),?_⟩⟩;rw [Q4];have S:Same H (A0 H e (.tup [])):=Same.new ne
  by_cases hp:p∈J7 [] (allKs R L M)
  .rw [if_pos hp];exact q _ _ S ((a2 p hp).same S)
  .rw [if_neg hp];refine q _ _ S ⟨[],A3,?_⟩;rw [aiZ fun h=>hp ((aY _ _ _).mpr (.inr h))];exact .nil
theorem aht:FnScope ["order", "text"] ["order", "text"] (C1 oS):=E7
abbrev afn:List Str:=["order", "text"]
theorem vb7:VS afn oS "order" 0:=vq
theorem vb8:VS afn oS "text" 1:=vq
theorem ahu(F:FunD K "parts_of" "parts_of" oS f fd)(T:Txt P w K mg C)(G3_cut:FO P w K mg base 4 "cut" ["known", "text", "figures"] [] (sJ K))(G_Order_known:MO P w K mg base 1 C "known" ["self"] (xH C)):FnOk P w K mg base E1 5 f fd ["order", "text"] (ah9 C):=by
 refine F.ok aht ?_ ?_
 .rintro _ _ _ _ ⟨x,j,ll,ml,md,z,g,R,L,M,rfl,_⟩;rfl
 .intro cdv A outer s H vs Q E hr h;have B5:=hu_of hr;have hu:=hr.units;refine ⟨_,QSs.out (A5 (D1 (C9 G3_cut (hm hr) (qa_c (amf (vi vb7) G_Order_known (hm hr)) (qa_c (vi vb8) (qa_c (aW (K:=K) (vi vb7)) A2)))))),?_⟩;obtain ⟨x,j,ll,ml,md,z,g,R,L,M,rfl,hO,hk,hz,hw,q⟩:=h;obtain ⟨dx,h1⟩:=hO.ob;walk_at "rd";refine ⟨_,_,h1,oG _ _ _ _ _ _ 'd',x,j,ll,ml,md,g,R,L,M,rfl,hO,fun l nl=>?_⟩;have S:Same H (A0 H l (.lst ((G6 R).map V.str))):=Same.new nl;exact ⟨_,_,_,S _ _ h1,T.cl,T.na_figures,_,ad7 _ _ _ _ _ _,l,z,G6 R,_,rfl,.of A3,hk,hz,hw,fun l2 H2 n2 S2 h2=>q l2 H2 (S.free n2) (S.trans S2) h2⟩
theorem ahv:FnScope ["order", "part"] ["order", "part"] (C1 oT):=E7
abbrev afo:List Str:=["order", "part"]
theorem vb9:VS afo oT "order" 0:=vq
theorem yV:VS afo oT "part" 1:=vq
theorem ahw(F:FunD K "steps_by" "steps_by" oT f fd)(T:Txt P w K mg C)(G_is_figure:FO P w K mg base 1 "is_figure" ["sign"] [] kX)(G_Order_steps:MO P w K mg base 1 C "steps" ["self", "piece"] (oP C)):FnOk P w K mg base E1 2 f fd ["order", "part"] (agB C):=by
 refine F.ok ahv ?_ ?_
 .rintro _ _ _ _ ⟨x,j,ll,ml,md,c,r,y,g,R,L,M,rfl,_⟩;rfl
 .intro cdv A outer s H vs Q E hr h;have B5:=hu_of hr;have hu:=hr.units;refine ⟨_,QSs.out (A4 (qs_if (QW.pt (cN (X5 (K:=K) (aW (K:=K) (vi vb9))) (eS (X5 (K:=K) (C9 G_is_figure (hm hr) (qa_c (qe_ix (K:=K) (vi yV) A1) A2)))))) (A5 (D1 (F9 (qa_c (F9 (qa_c (gW T.g_FIGURES) (qa_c (qe_cT am4 T.b_int amU (qa_c (vi yV) A2)) (qa_c A1 A2)))) A2)))) G5)
   (A5 (D1 (rX (vi vb9) G_Order_steps (hm hr) (qa_c (vi yV) A2))))),?_⟩
  obtain ⟨x,j,ll,ml,md,c,r,y,g,R,L,M,rfl,hy,Q1,hO,hf,q⟩:=h;obtain ⟨dx,h1⟩:=hO.ob;have hhd:y.cps.toList.headD 0=c:=by rw [hy];rfl
  walk_at "rd";refine ⟨_,_,_,h1,T.cl,T.na_figures,_,ad7 _ _ _ _ _ _,?_⟩;walk_at "rd";have fin:stepY R L M y=stepF R L M y->∃ x_5 x_6,H x=some (HO.ins C x_5 x_6)/\eG (Str.ofString "steps") x_6=none/\oP C [V.ref x,V.str y] H Q E0:=fun e=>⟨_,_,h1,oG _ _ _ _ _ _ 'd',x,j,ll,ml,md,y,g,R,L,M,rfl,hO,by rw [<- e];exact q⟩
  by_cases hw:hasW R "figures"=true
  .rw [if_pos hw];refine ⟨L9 'a',c,by rw [hy];exact M3 _ _,c,rfl,?_⟩
   by_cases hc:figO c=true
   .have hsy:stepY R L M y=[(1,((nF y.cps.toList:Nat):Int),0)]:=by unfold stepY;rw [hw,hhd,hc];rfl
    have hAD:=hf hw (by rw [hhd];exact hc);rw [hc];walk_at "rd";refine ⟨hAD,by rw [<- lenL,hy];simp,Q1,by decide,fun p np=>⟨by decide,fun p1 Y5=>?_⟩⟩;refine q p1 _ ((Same.new np).trans (Same.new Y5)) ?_;rw [hsy];exact StepAt.one A3 (C8 A3 Y5)
   .rw [cF] at hc;rw [hc];walk_at "rd";exact fin (by unfold stepY;rw [hhd,hc,Bool.and_false,if_neg L8])
  .rw [if_neg hw];rw [cF] at hw;exact fin (by rw [aia hw])
theorem ahx:FnScope ["made", "place"] ["made", "place"] (C1 oU):=E7
abbrev afp:List Str:=["made", "place"]
theorem yW:VS afp oU "made" 0:=vq
theorem vcc:VS afp oU "place" 1:=vq
theorem ahy(F:FunD K "add_mark" "add_mark" oU f fd)(T:Txt P w K mg C):FnOk P w K mg base E1 1 f fd ["made", "place"] (agC K):=by
 refine F.ok ahx ?_ ?_
 .rintro _ _ _ _ ⟨l,p,H0,es,U,rfl,_⟩;rfl
 .intro cdv A outer s H vs Q E hr h;have B5:=hu_of hr;have hu:=hr.units;refine ⟨_,QSs.out (cO (qs_if (wH (X5 (K:=K) (vi yW))) (A5 (R9 (qe_mB (K:=K) W3 g0 f9 g8 (vi yW) (qa_c (F9 (qa_c (gW T.g_MARK) (qa_c A1 (qa_c (R7 A2) (qa_c A1 A2))))) A2)))) G5)
   (A5 (R9 (qe_mB (K:=K) W3 g0 f9 g8 (qe_ix (K:=K) (qe_ix (K:=K) (vi yW) (qe_un q_neg A1)) A1) (qa_c (vi vcc) A2))))),?_⟩
  obtain ⟨l,p,H0,es,U,rfl,J,hU,hM,q⟩:=h;walk_at "rd";refine mid (fun Y H1=>∃ (es':List (Addr×Addr)) (e:Addr×Addr) (U':List G9) (u:G9),Y=[some (.ref l),some (.int p)]/\UnI H0 H1 l (es'++[e]) (U'++[u])/\addM U p=U'++[(u.1,u.2.1,u.2.2.1++[p],u.2.2.2)]/\u.2.2.1.length<=10000) ?_ ?_
  .walk_at "rd";refine ⟨_,wL J.top,?_⟩
   by_cases he:es=[]
   .subst he;have hU0:=ai2 J.row;subst hU0;simp only [List.map_nil,List.isEmpty_nil,Bool.not_true,Bool.not_false,if_true];refine ⟨V2 J.top,fun m nm=>⟨by decide,fun t nt=>appOk ((Same.new nm).trans (Same.new nt) _ _ J.top) (by decide) ⟨[],(t,m),[],(0,0,[],0),?_,rfl,by decide⟩⟩⟩;exact J.push nm nt
   .obtain ⟨es',e,rfl⟩:=xK he;have hUn:U≠[]:=fun h=>by subst h;have:=Paired.length J.row;simp at this
    obtain ⟨U',u,rfl⟩:=xK hUn;have G8:((es'++[e]).map fun e=>V.ref e.1).isEmpty=false:=by simp
    rw [G8];simp only [Bool.not_false,Bool.not_true,nB,if_false];refine ⟨es',e,U',u,J,?_,hM u 'c'⟩;unfold addM;rw [List.getLast?_append,List.getLast?_singleton]
    simp
  rintro Y H1 ⟨es',e,U',u,rfl,J1,ea,dW⟩;obtain ⟨hr,hu⟩:=wF J1.row;have V9:F8 ((es'++[e]).map fun e=>V.ref e.1) (-1)=some (V.ref e.1):=by rw [D0];exact alx _ _
  walk_at "rd";refine ⟨_,.inl (.of J1.top),_,V9,?_⟩;walk_at "rd";refine ⟨_,.inr (.of hu.1),V.ref e.2,J9 (j:=2) rfl,V2 hu.2,appOk hu.2 (by rw [A6];exact L6 'a') ?_⟩;refine q (es'++[e]) _ ?_;rw [ea];exact J1.mark p
theorem sc_add_part:FnScope ["order", "made", "part", "kind", "worth", "case"] ["order", "made", "part"] (C1 t5):=E7
abbrev lP:List Str:=["order", "made", "part", "kind", "worth", "case"]
theorem vcd:VS lP t5 "order" 0:=vq
theorem vce:VS lP t5 "made" 1:=vq
theorem vcf:VS lP t5 "part" 2:=vq
theorem vcg:VS lP t5 "kind" 3:=vq
theorem vch:VS lP t5 "worth" 4:=vq
theorem vci:VS lP t5 "case" 5:=vq
theorem vcj:LS t5 "kind":=lq
theorem vck:LS t5 "worth":=lq
theorem vcl:LS t5 "case":=lq
theorem ahz(F:FunD K "add_part" "add_part" t5 f fd)(T:Txt P w K mg C)(G_steps_by:FO P w K mg base 2 "steps_by" ["order", "part"] [] (agB C))(G_add_mark:FO P w K mg base 1 "add_mark" ["made", "place"] [] (agC K)):FnOk P w K mg base E1 3 f fd ["order", "made", "part"] (agD C):=by
 refine F.ok sc_add_part ?_ ?_
 .rintro _ _ _ _ ⟨x,l,j,ll,ml,md,c,r,y,g,R,L,M,H0,es,U,rfl,_⟩;rfl
 .intro cdv A outer s H vs Q E hr h;have B5:=hu_of hr;have hu:=hr.units;refine ⟨_,QSs.out (A5 (N0 PassesOwn.never (eT (K:=K) (C9 G_steps_by (hm hr) (qa_c (vi vcd) (qa_c (vi vcf) A2)))) (x5 (K:=K) (n:=3) (P6 ((D3 (n:=3) sc_add_part.nd rfl vcj (.inl rfl))) (P6 ((D3 (n:=4) sc_add_part.nd rfl vck (.inl rfl))) (P6 ((D3 (n:=5) sc_add_part.nd rfl vcl (.inl rfl))) x4)))) (A5 (qs_if (E2 (q_eq (K:=K) hu) (vi vcg) (gW T.g_MARK)) (A5 (R9 (C9 G_add_mark (hm hr) (qa_c (vi vce) (qa_c (vi vch) A2))))) (A5 (R9 (qe_mB (K:=K) W3 g0 f9 g8 (vi vce) (qa_c (F9 (qa_c (vi vcg) (qa_c (vi vch) (qa_c (R7 A2) (qa_c (vi vci) A2))))) A2)))))))),?_⟩;obtain ⟨x,l,j,ll,ml,md,c,r,y,g,R,L,M,H0,es,U,rfl,hy,Q1,hO,hf,J,hs,hU,hM,q⟩:=h;walk_at "rd";refine ⟨x,j,ll,ml,md,c,r,y,g,R,L,M,rfl,hy,Q1,hO.same J.same,hf,fun a H1 S1 b9=>?_⟩;obtain ⟨ts,e1,e2⟩:=b9.ex;obtain ⟨H0',B0,J0,tp⟩:=(J.more S1).cut;have e1':=tp _ _ e1;have e2':=O6 e2 fun t s (e:H1 t=some (tupT s))=>(show H0' t=some (tupT s) from tp _ _ e)
  generalize stepY R L M y=ss at hs e2 e2' q;refine ⟨a,rfl,⟨_,.of e1⟩,forT (xs:=ts.map V.ref) (fun i Y H2=>∃ (u v w:Option V) (es:List (Addr×Addr)),Y=[some (.ref x),some (.ref l),some (.str y),u,v,w]/\UnI H0' H2 l es ((ss.take i).foldl addS U)) ⟨none,none,none,es,rfl,J0⟩ (by rintro i Y H2 _ ⟨_,_,_,_,_,h⟩;exact .of (h.same _ _ e1')) ?_ ?_⟩
  .rintro i v Y H2 hv ⟨u1,u2,u3,es,rfl,J2⟩;obtain ⟨t,ht,rfl⟩:=J8 hv;obtain ⟨s',uB,bT⟩:=Paired.at e2' ht;have hi:i<ss.length:=(E6.mp uB).1;have V8:=xI (ss.take i) U;have dL:=xJ (ss.take i) U 9000 hM;rw [F7] at V8 dL;have et:(ss.take (i+1)).foldl addS U=addS ((ss.take i).foldl addS U) s':=by rw [M6 uB,aN];rfl
   have htt:B1 K H2 t [V.int s'.1,V.int s'.2.1,V.int s'.2.2]:=.of (J2.same _ _ bT);walk_at "rd";refine ⟨_,htt,rfl,_,_,rfl,_,_,rfl,_,_,rfl,rfl,?_⟩;walk_at "rd";rw [et];generalize (ss.take i).foldl addS U=U2 at J2 V8 dL;refine iteD (fun e=>⟨l,s'.2.1,H0',es,U2,rfl,J2,by lia,fun u hu=>by have:=dL u hu;lia,fun es' H3 J3=>?_⟩) fun e=>⟨V2 J2.top,fun m nm=>⟨by decide,fun t2 jJ=>appOk ((Same.new nm).trans (Same.new jJ) _ _ J2.top) (by rw [A6,Paired.length J2.row];exact L6 'a') ?_⟩⟩
   .unfold addS;rw [if_pos e];exact ⟨es',J3⟩
   .unfold addS;rw [if_neg e];exact ⟨_,J2.push nm jJ⟩
  rintro Y H2 ⟨u1,u2,u3,es,rfl,J2⟩;rw [A6,Paired.length e2,L7] at J2;exact q es H2 (J2.base B0)
theorem sc_units:FnScope ["order", "text", "made", "part"] ["order", "text"] (C1 bF):=E7
abbrev tG:List Str:=["order", "text", "made", "part"]
theorem vcm:VS tG bF "order" 0:=vq
theorem vcn:VS tG bF "text" 1:=vq
theorem vco:VS tG bF "made" 2:=vq
theorem vcp:VS tG bF "part" 3:=vq
theorem vcq:LS bF "made":=lq
theorem vcr:LS bF "part":=lq
theorem amG(F:FunD K "units" "units" bF f fd)(T:Txt P w K mg C)(G_parts_of:FO P w K mg base 5 "parts_of" ["order", "text"] [] (ah9 C))(G_add_part:FO P w K mg base 3 "add_part" ["order", "made", "part"] [] (agD C)):FnOk P w K mg base E1 6 f fd ["order", "text"] (akD C):=by
 refine F.ok sc_units ?_ ?_
 .rintro _ _ _ _ ⟨x,j,ll,ml,md,z,g,R,L,M,rfl,_⟩;rfl
 .intro cdv A outer s H vs Q E hr h;have B5:=hu_of hr;have hu:=hr.units;refine ⟨_,QSs.out (A4 (C4 (n:=2) sc_units.nd rfl vcq (R7 A2))
   (A4 (N0 PassesOwn.never (P7 (K:=K) (C9 G_parts_of (hm hr) (qa_c (vi vcm) (qa_c (vi vcn) A2)))) (D3 (n:=3) sc_units.nd rfl vcr (.inl rfl)) (A5 (R9 (C9 G_add_part (hm hr) (qa_c (vi vcm) (qa_c (vi vco) (qa_c (vi vcp) A2)))))))
   (A5 (D1 (g7  (V5:CompOk ["order", "text", "made", "part"] (C1 bF).names _ ["kind", "worth", "marks", "case"] 4 []) (P7 (K:=K) (vi vco)) (fun _ _ _ _ _=>(x5 (K:=K) (n:=4) (P6 (D3 (n:=0) (show List.Nodup (["kind", "worth", "marks", "case"]:List Str) by decide +kernel) rfl (Or.inl rfl)) (P6 (D3 (n:=1) (show List.Nodup (["kind", "worth", "marks", "case"]:List Str) by decide +kernel) rfl (Or.inl rfl)) (P6 (D3 (n:=2) (show List.Nodup (["kind", "worth", "marks", "case"]:List Str) by decide +kernel) rfl (Or.inl rfl)) (P6 (D3 (n:=3) (show List.Nodup (["kind", "worth", "marks", "case"]:List Str) by decide +kernel) rfl (Or.inl rfl)) x4)))))) (fun _ _ _ _ _=>k9) (fun _ _ _ _ _=>(F9 (qa_c (qv 0) (qa_c (qv 1) (qa_c (qe_cT (nZ (K:=K)) T.b_tuple nR (qa_c (qv 2) A2)) (qa_c (qv 3) A2))))))))))),?_⟩
  obtain ⟨x,j,ll,ml,md,z,g,R,L,M,rfl,hO,hk,hz,hw,hs,q⟩:=h;have hf:=aib (w:=hasW R "figures") (g:=G6 R) _ z.cps.toList (C3 _);have G8:=akE (w:=hasW R "figures") (g:=G6 R) _ z.cps.toList (C3 _);have uN:=(xG (w:=hasW R "figures") (g:=G6 R) _ z.cps.toList (C3 _)).2.1;rw [lenL] at uN;have aI:=agF (w:=hasW R "figures") (g:=G6 R) _ z.cps.toList (C3 _);rw [lenL] at aI;walk_at "rd";intro l nl;have S1:Same H (A0 H l (.lst [])):=Same.new nl;have dH:A0 H l (.lst []) l=some (.lst []):=A3;generalize A0 H l (.lst [])=H1 at S1 dH;refine ⟨x,j,ll,ml,md,z,g,R,L,M,rfl,hO.same S1,hk,by lia,hw,fun a H2 na S2 ha=>?_⟩;generalize (cutF (hasW R "figures") (G6 R) z.cps.toList).2=ps at ha hf G8 uN aI q;have nal:a≠l:=fun e=>by rw [e,dH] at na;cases na
  have C0:UnI (cutH H2 [l]) H2 l [] []:=⟨S2 _ _ dH,.nil,by simp,fun b hb=>by unfold cutH;exact if_pos (by simpa using hb),agE _ _⟩
  have S0:Same H (cutH H2 [l]):=fun b o hb=>by
   unfold cutH;rw [if_neg (fun e=>by rw [E5.mp e,nl] at hb;cases hb)];exact S2 _ _ (S1 _ _ hb)
  have ha0:cutH H2 [l] a=some (.lst (ps.map V.str)):=by
   unfold cutH;rw [if_neg (fun e=>nal (E5.mp e))];exact ha
  have hO0:=hO.same S0;generalize cutH H2 [l]=H0 at C0 S0 ha0 hO0;refine ⟨a,rfl,⟨_,.of ha⟩,forLs (xs:=ps.map V.str) (fun i Y H3=>∃ (u:Option V) (es:List (Addr×Addr)),Y=[some (.ref x),some (.str z),some (.ref l),u]/\UnI H0 H3 l es (Q7 (stepY R L M) (ps.take i))) ⟨none,[],rfl,C0⟩ (by rintro i Y H3 _ ⟨_,_,_,h⟩;exact .of (h.same _ _ ha0)) ?_ ?_⟩
  .rintro P' Bk hP i v Y H3 hv ⟨u,es,rfl,J⟩;obtain ⟨y,hy,rfl⟩:=J8 hv;have hi:i<ps.length:=(E6.mp hy).1;have hym:=L3 hy;obtain ⟨B5,fP⟩:=xM (S:=stepY R L M) hs (ps.take i);rw [F7] at B5 fP;obtain ⟨c,r,hcr⟩:∃ c r,y.cps.toList=c::r:=by
    have:=G8 y hym
    rw [<- lenL] at this;cases e:y.cps.toList with
    | nil=>rw [e] at this;simp at this
    | cons c r=>exact ⟨c,r,rfl⟩
   have Q1:y.length<=640:=by have:=aI y hym;lia
   walk_at "rd";refine ⟨x,l,j,ll,ml,md,c,r,y,g,R,L,M,H0,es,_,rfl,hcr,Q1,hO0,hf y hym,J,by have:=hs y;lia,by lia,fun v hv=>by have:=fP v hv;lia,fun es' H4 J4=>?_⟩;rw [<- ahc hy] at J4;exact hP _ _ _ ⟨_,es',rfl,J4⟩
  rintro Y H3 ⟨u,es,rfl,J⟩;rw [A6,L7] at J;obtain ⟨B5,fP⟩:=xM (S:=stepY R L M) hs ps;have o4:=Paired.length J.row;generalize Q7 (stepY R L M) ps=U at J B5 fP o4 q;walk_at "rd";refine ⟨⟨_,.of J.top⟩,arz (xs:=es.map fun e=>V.ref e.1) [] rfl (fun D i ys H4=>∃ fs:List (Addr×Addr),ys=fs.map (fun e=>V.ref e.1)/\Same H3 H4/\Paired (fun e (u:G9)=>H4 e.1=some (.tup [.int u.1,.int u.2.1,.ref e.2,.int u.2.2.2])/\H4 e.2=some (.tup (u.2.2.1.map V.int))) fs (U.take i)) (fun D nD=>⟨[],rfl,Same.new nD,.nil⟩) (by rintro D i ys H4 nD _ ⟨_,_,S,_⟩;exact .of (S _ _ J.top)) ?_ ?_⟩
  .rintro D i v ys H4 nD hi hv ⟨fs,rfl,S4,P⟩ hD Q1;obtain ⟨e,he,rfl⟩:=J8 hv;obtain ⟨w,hw,gB⟩:=Paired.at J.row he;have dO:fs.length<=7500:=by
    have:=Paired.length P
    rw [F7] at this;lia
   refine ⟨e.1,_,_,_,_,rfl,.of (S4 _ _ gB.1),?_⟩;walk_at "rd";refine rTupR.l (.of (S4 _ _ gB.2)) fun m nm=>⟨by decide,fun t nt=>?_⟩
   have S5:Same H4 (A0 (A0 H4 m (.tup (w.2.2.1.map V.int))) t (.tup [V.int w.1,V.int w.2.1,V.ref m,V.int w.2.2.2])):=(Same.new nm).trans (Same.new nt);have hm5:A0 (A0 H4 m (.tup (w.2.2.1.map V.int))) t (.tup [V.int w.1,V.int w.2.1,V.ref m,V.int w.2.2.2]) m=some (.tup (w.2.2.1.map V.int)):=C8 A3 nt;have ht5:A0 (A0 H4 m (.tup (w.2.2.1.map V.int))) t (.tup [V.int w.1,V.int w.2.1,V.ref m,V.int w.2.2.2]) t=some (.tup [V.int w.1,V.int w.2.1,V.ref m,V.int w.2.2.2]):=A3;generalize A0 (A0 H4 m (.tup (w.2.2.1.map V.int))) t (.tup [V.int w.1,V.int w.2.1,V.ref m,V.int w.2.2.2])=H5 at S5 hm5 ht5;have hD5:=S5 _ _ hD;have dn:∀ {b:Addr} {xs:List V},H5 b=some (.tup xs)->b≠D:=fun h q=>by rw [q,hD5] at h;cases h
   refine ⟨hD5,by rw [A6];exact L6 'a',hi,by rw [D6,X2];lia,⟨_,_,_,_,rfl⟩,fs++[(t,m)],by rw [D0];rfl,(S4.trans S5).put nD,?_⟩;rw [M6 hw];refine Paired.snoc (O6 P fun f w h=>⟨?_,?_⟩) ⟨?_,?_⟩
   .rw [A7 (dn (S5 _ _ h.1))];exact S5 _ _ h.1
   .rw [A7 (dn (S5 _ _ h.2))];exact S5 _ _ h.2
   .rw [A7 (dn ht5)];exact ht5
   .rw [A7 (dn hm5)];exact hm5
  rintro D ys H4 nD ⟨fs,rfl,S4,P⟩ hD Q1;rw [A6,o4,L7] at P;have SS:Same H H3:=S0.trans J.same;exact q D H4 (SS.free nD) (SS.trans S4) ⟨fs,hD,P⟩
theorem sc_looks:FnScope ["order", "text", "made", "marks"] ["order", "text"] (C1 t6):=E7
abbrev tH:List Str:=["order", "text", "made", "marks"]
theorem vcs:VS tH t6 "order" 0:=vq
theorem vct:VS tH t6 "text" 1:=vq
theorem yX:VS tH t6 "made" 2:=vq
theorem vcv:VS tH t6 "marks" 3:=vq
theorem vcw:LS t6 "made":=lq
theorem vcx:LS t6 "marks":=lq
theorem amH(F:FunD K "looks" "looks" t6 f fd)(T:Txt P w K mg C)(G_units:FO P w K mg base 6 "units" ["order", "text"] [] (akD C)):FnOk P w K mg base E1 7 f fd ["order", "text"] (akL C):=by
 refine F.ok sc_looks ?_ ?_
 .rintro _ _ _ _ ⟨x,j,ll,ml,md,z,g,R,L,M,rfl,_⟩;rfl
 .intro cdv A outer s H vs Q E hr h;have B5:=hu_of hr;have hu:=hr.units;refine ⟨_,QSs.out (A4 (C4 (n:=2) sc_looks.nd rfl vcw (C9 G_units (hm hr) (qa_c (vi vcs) (qa_c (vi vct) A2))))
   (A4 (nX (n:=3) sc_looks.nd rfl vcx (V5:CompOk ["order", "text", "made", "marks"] (C1 t6).names _ ["unit"] 1 []) (P7 (K:=K) (vi yX)) (fun _ _ _ _ _=>D3 (n:=0) (show List.Nodup (["unit"]:List Str) by decide +kernel) rfl (Or.inl rfl)) (fun _ _ _ _ _=>k9) (fun _ _ _ _ _=>(qe_ix (K:=K) (qv 0) A1)))
   (cO (qs_if (X5 (K:=K) (aW (K:=K) (vi vcs))) (A5 (R9 (qe_m0 (K:=K) W3 PySem.F.slot_list_reverse PySem.F.type_list_reverse aj4 (vi vcv)))) G5)
   (A5 (D1 (R7 (qa_c (g7  (V5:CompOk ["order", "text", "made", "marks"] (C1 t6).names _ ["unit"] 1 []) (P7 (K:=K) (vi yX)) (fun _ _ _ _ _=>D3 (n:=0) (show List.Nodup (["unit"]:List Str) by decide +kernel) rfl (Or.inl rfl)) (fun _ _ _ _ _=>k9) (fun _ _ _ _ _=>(M9 (K:=K) (qv 0) Q3 (L1 A1)))) (qa_c (vi vcv) (qa_c (g7  (V5:CompOk ["order", "text", "made", "marks"] (C1 t6).names _ ["unit"] 1 []) (P7 (K:=K) (vi yX)) (fun _ _ _ _ _=>D3 (n:=0) (show List.Nodup (["unit"]:List Str) by decide +kernel) rfl (Or.inl rfl)) (fun _ _ _ _ _=>k9) (fun _ _ _ _ _=>(qe_ix (K:=K) (qv 0) A1))) (qa_c (vi vct) A2)))))))))),?_⟩
  obtain ⟨x,j,ll,ml,md,z,g,R,L,M,rfl,hO,hk,hz,hw,hs,q⟩:=h;obtain ⟨b1,b2,b3⟩:=ahe hs (w:=hasW R "figures") (ks:=G6 R) (y:=z) hz;walk_at "rd";refine ⟨x,j,ll,ml,md,z,g,R,L,M,rfl,hO,hk,hz,hw,hs,fun u H1 nu S1 hU=>?_⟩;generalize Q7 (stepY R L M) (cutF (hasW R "figures") (G6 R) z.cps.toList).2=U at *;obtain ⟨es,e1,e2⟩:=hU;have o4:=Paired.length e2;walk_at "rd";refine ⟨⟨_,.of e1⟩,compL (xs:=es.map fun e=>V.ref e.1) [] rfl (fun D i ys H2=>Same H1 H2/\ys=(es.take i).map fun e=>V.ref e.2) (fun D nD=>⟨Same.new nD,rfl⟩) (by rintro D i ys H2 nD _ ⟨S,_⟩;exact .of (S _ _ e1)) ?_ ?_⟩
  .rintro D i y ys H2 nD hi hy ⟨S2,rfl⟩ hD Q1;obtain ⟨e,he,rfl⟩:=J8 (f:=fun e:Addr×Addr=>V.ref e.1) hy;obtain ⟨w,uO,gB⟩:=Paired.at e2 he;have Y2:i<es.length:=(E6.mp he).1;walk_at "rd";refine ⟨_,.inr (.of (S2 _ _ gB.1)),V.ref e.2,J9 (j:=2) rfl,hD,by simp only [A6,F7];exact L6 'a',CW.put hi Q1 ⟨S2.put nD,?_⟩⟩;rw [M6 he,D0];rfl
  rintro D ys H2 nD ⟨S2,rfl⟩ hD _;rw [A6,L7] at hD;have fR:=ad8 e2;refine mid (fun Y H'=>Y=[some (.ref x),some (.str z),some (.ref u),some (.ref D)]/\Same H1 H'/\∃ qF:List Addr,H' D=some (.lst (qF.map V.ref))/\Paired (fun c (x:List Int)=>H1 c=some (.tup (x.map V.int))) qF ((if hasW R "behind"=true then U.reverse else U).map fun u=>u.2.2.1)) ?_ ?_
  .obtain ⟨dx,ho⟩:=hO.ob;walk_at "rd";refine ⟨_,_,_,S2 _ _ (S1 _ _ ho),T.cl,T.na_behind,_,aeC _ _ _ _ _ _,_,rfl,?_⟩
   by_cases hb:hasW R "behind"=true
   .rw [if_pos hb,if_pos hb];refine ⟨V2 hD,D,_,rfl,rfl,hD,S2.put nD,(es.map (·.2)).reverse,?_,?_⟩
    .rw [A3,List.map_reverse,R3];rfl
    .rw [List.map_reverse];exact xN fR
   .rw [if_neg hb,if_neg hb];refine ⟨S2,es.map (·.2),?_,fR⟩;rw [hD,R3];rfl
  rintro Y H3 ⟨rfl,S3,qF,hD3,hP3⟩;clear hD S2 fR;have mE:=S3 _ _ e1;walk_at "rd";refine ⟨⟨_,.of mE⟩,compL (xs:=es.map fun e=>V.ref e.1) [] rfl (fun D i ys H2=>Same H3 H2/\∃ as:List Addr,ys=as.map V.ref/\Paired (fun c (x:List Int)=>H2 c=some (.tup (x.map V.int))/\H3 c=none/\c≠D) as ((U.take i).map fun u=>[u.1,u.2.1])) (fun D nD=>⟨Same.new nD,[],rfl,.nil⟩) (by rintro D i ys H2 nD _ ⟨S,_⟩;exact .of (S _ _ mE)) ?_ ?_⟩
  .rintro D i y ys H2 nD2 hi hy ⟨S2,as,rfl,hP⟩ hD Q1;obtain ⟨e,he,rfl⟩:=J8 (f:=fun e:Addr×Addr=>V.ref e.1) hy;obtain ⟨w,uO,gB⟩:=Paired.at e2 he;have Y2:i<es.length:=(E6.mp he).1;have mQ:=Paired.length hP;rw [A6,F7] at mQ;walk_at "rd";refine rSlR.t (.of (S2 _ _ (S3 _ _ gB.1))) (by simp [HT.sIx]) fun p np=>?_
   rw [show cutV [V.int w.1,V.int w.2.1,V.ref e.2,V.int w.2.2.2] none (some 2)=[w.1,w.2.1].map V.int from aX _ 2];have S4:Same H2 (A0 H2 p (.tup ([w.1,w.2.1].map V.int))):=Same.new np;have o6:A0 H2 p (.tup ([w.1,w.2.1].map V.int)) p=some (.tup ([w.1,w.2.1].map V.int)):=A3;have hpD:p≠D:=fun e=>by rw [e,hD] at np;cases np
   generalize A0 H2 p (.tup ([w.1,w.2.1].map V.int))=H4 at S4 o6;refine ⟨S4 _ _ hD,by rw [A6];exact L6 'a',CW.put hi Q1 ⟨(S2.trans S4).put nD2,as++[p],by rw [D0];rfl,?_⟩⟩;rw [M6 uO,D0];exact Paired.snoc (O6 hP fun c x ⟨h1,h2,h3⟩=>⟨by rw [A7 h3];exact S4 _ _ h1,h2,h3⟩) ⟨by rw [A7 hpD];exact o6,S2.free np,hpD⟩
  rintro D4 ys H4 nD4 ⟨S4,as1,rfl,hP4⟩ hD4 _;rw [A6,o4,L7] at hP4;have gC:=S4 _ _ mE;refine ⟨⟨_,.of gC⟩,compL (xs:=es.map fun e=>V.ref e.1) [] rfl (fun D i ys H2=>Same H4 H2/\ys=((U.take i).map fun u=>u.2.2.2).map V.int) (fun D nD=>⟨Same.new nD,rfl⟩) (by rintro D i ys H2 nD _ ⟨S,_⟩;exact .of (S _ _ gC)) ?_ ?_⟩
  .rintro D i y ys H2 nD2 hi hy ⟨S2,rfl⟩ hD Q1;obtain ⟨e,he,rfl⟩:=J8 (f:=fun e:Addr×Addr=>V.ref e.1) hy;obtain ⟨w,uO,gB⟩:=Paired.at e2 he;have Y2:i<es.length:=(E6.mp he).1;walk_at "rd";refine ⟨_,.inr (.of (S2 _ _ (S4 _ _ (S3 _ _ gB.1)))),V.int w.2.2.2,J9 (j:=3) rfl,hD,by simp only [A6,F7];exact L6 'a',CW.put hi Q1 ⟨S2.put nD2,?_⟩⟩;rw [M6 uO,D0,D0];rfl
  rintro D5 ys H5 nD5 ⟨S5,rfl⟩ hD5 _;rw [A6,o4,L7] at hD5;refine ⟨by decide,fun p np=>?_⟩;have S6:Same H5 (A0 H5 p (.lst [V.ref D4,V.ref D,V.ref D5,V.str z])):=Same.new np;have S36:=S4.trans (S5.trans S6);refine q p _ ((S1.trans (S3.trans (S4.trans S5))).free np) (S1.trans (S3.trans S36)) ⟨_,A3,.cons ?_ (.cons ?_ (.cons ?_ (.cons rfl .nil)))⟩
  .exact ⟨D4,as1,rfl,(S5.trans S6) _ _ hD4,O6 hP4 fun c x h=>(S5.trans S6) _ _ h.1⟩
  .exact ⟨D,qF,rfl,S36 _ _ hD3,O6 hP3 fun c x h=>S36 _ _ (S3 _ _ h)⟩
  .exact ⟨D5,rfl,S6 _ _ hD5⟩
theorem sc_compare:FnScope ["order", "one", "other", "strength", "ours", "theirs", "level"] ["order", "one", "other", "strength"] (C1 Z2):=E7
abbrev iE:List Str:=["order", "one", "other", "strength", "ours", "theirs", "level"]
theorem vcy:VS iE Z2 "order" 0:=vq
theorem vcz:VS iE Z2 "one" 1:=vq
theorem vcA:VS iE Z2 "other" 2:=vq
theorem vcB:VS iE Z2 "strength" 3:=vq
theorem vcC:VS iE Z2 "ours" 4:=vq
theorem vcD:VS iE Z2 "theirs" 5:=vq
theorem tI:VS iE Z2 "level" 6:=vq
theorem vcF:LS Z2 "ours":=lq
theorem vcG:LS Z2 "theirs":=lq
theorem vcH:LS Z2 "level":=lq
theorem afq(F:FunD K "compare" "compare" Z2 f fd)(T:Txt P w K mg C)(G_looks:FO P w K mg base 7 "looks" ["order", "text"] [] (akL C)):FnOk P w K mg base E1 8 f fd ["order", "one", "other", "strength"] (hX C):=by
 refine F.ok sc_compare ?_ ?_
 .rintro _ _ _ _ ⟨x,j,ll,ml,md,z,z',n,g,R,L,M,rfl,_⟩;rfl
 .intro cdv A outer s H vs Q E hr h;have B5:=hu_of hr;have hu:=hr.units;refine ⟨_,QSs.out (A4 (C4 (n:=4) sc_compare.nd rfl vcF (C9 G_looks (hm hr) (qa_c (vi vcy) (qa_c (vi vcz) A2))))
   (A4 (C4 (n:=5) sc_compare.nd rfl vcG (C9 G_looks (hm hr) (qa_c (vi vcy) (qa_c (vi vcA) A2))))
   (A4 (N0 PassesOwn.never (qi_r1 T.b_range (qa_c (vi vcB) A2)) (D3 (n:=6) sc_compare.nd rfl vcH (.inl rfl)) (A5 (qs_if (E2 (q_ne (K:=K) hu) (qe_ix (K:=K) (vi vcC) (vi tI)) (qe_ix (K:=K) (vi vcD) (vi tI))) (A5 (D1 (ahV (E2 (q_ltK hu (K:=K)) (qe_ix (K:=K) (vi vcC) (vi tI)) (qe_ix (K:=K) (vi vcD) (vi tI))) (qe_un q_neg A1) A1))) G5)))
   (A5 (D1 A1))))),?_⟩
  obtain ⟨x,j,ll,ml,md,z,z',n,g,R,L,M,rfl,hn,hO,hk,hz,c9,hw,hw',hs,q⟩:=h;walk_at "rd";refine ⟨x,j,ll,ml,md,z,g,R,L,M,rfl,hO,hk,hz,hw,hs,fun l H1 nl S1 hl=>?_⟩;refine ⟨x,j,ll,ml,md,z',g,R,L,M,rfl,hO.same S1,hk,c9,hw',hs,fun l' H2 nl' S2 fT=>?_⟩;have uP:=ahi (hasW R "behind") (hasW R "behind") (Q7 (stepY R L M) (cutF (hasW R "figures") (G6 R) z.cps.toList).2) (Q7 (stepY R L M) (cutF (hasW R "figures") (G6 R) z'.cps.toList).2) z z';have V8:=hl.same S2;have A9:(i7 (hasW R "behind") (Q7 (stepY R L M) (cutF (hasW R "figures") (G6 R) z.cps.toList).2) z).length=4:=rfl;have hlen':(i7 (hasW R "behind") (Q7 (stepY R L M) (cutF (hasW R "figures") (G6 R) z'.cps.toList).2) z').length=4:=rfl;unfold i8 at q;generalize i7 (hasW R "behind") (Q7 (stepY R L M) (cutF (hasW R "figures") (G6 R) z.cps.toList).2) z=ds at *;generalize i7 (hasW R "behind") (Q7 (stepY R L M) (cutF (hasW R "figures") (G6 R) z'.cps.toList).2) z'=ds' at *;obtain ⟨vs,v1,v2⟩:=V8;obtain ⟨vs',w1,w2⟩:=fT;have z1:=Paired.length v2;have z2:=Paired.length w2;refine ⟨by lia,by lia,forRs (fun i Y H'=>(∃ u:Option V,Y=[some (.ref x),some (.str z),some (.str z'),some (.int n),some (.ref l),some (.ref l'),u])/\H'=H2/\∀ k<i,ds[k]?=ds'[k]?) ⟨⟨none,rfl⟩,rfl,by simp⟩ ?_ ?_⟩
  .rintro P' Bk hP i Y H' hi ⟨⟨u,rfl⟩,rfl,bR⟩;have F6:i<n:=by simpa using hi
   have a1:vs[i]?=some vs[i]:=J5 'a';have a2:vs'[i]?=some vs'[i]:=J5 'a';obtain ⟨d,hd,ld⟩:=Paired.at v2 a1;obtain ⟨d',iP,ld'⟩:=Paired.at w2 a2;have kd:=uP i d d' hd iP;generalize vs[i]=v at *;generalize vs'[i]=v' at *;have i1:F8 vs (0+(i:Int))=some v:=by rw [aT];exact J9 a1
   have i2:F8 vs' (0+(i:Int))=some v':=by rw [aT];exact J9 a2
   walk_at "rd";refine ⟨_,.inl (.of v1),_,i1,_,.inl (.of w1),_,i2,LvAt.ne ld ld' kd ⟨_,rfl,?_⟩⟩
   by_cases qO:d=d'
   .rw [if_neg (by simp [qO])];refine hP _ _ _ ⟨⟨_,rfl⟩,rfl,fun k hk=>?_⟩
    by_cases jE:k=i
    .rw [jE,hd,iP,qO]
    .exact bR k 'a'
   .rw [if_pos (by simp [qO])];have hq:=q H' (S1.trans S2);rw [amA F6 hd iP bR qO] at hq;unfold cmpD at hq;rw [if_neg qO] at hq;refine ⟨_,.inl (.of v1),_,i1,_,.inl (.of w1),_,i2,LvAt.lt ld ld' kd ⟨_,rfl,?_⟩⟩
    by_cases C5:d.lt d'=true
    .rw [if_pos C5] at hq ⊢
     exact hq
    .rw [if_neg C5] at hq ⊢
     exact hq
  rintro Y H' ⟨⟨u,rfl⟩,rfl,bR⟩;walk_at "rd"
  have:=q H' (S1.trans S2)
  rw [akM (by simpa using bR)] at this;exact this
theorem sc_difference:FnScope ["order", "x", "y", "strength", "level", "sign"] ["order", "x", "y", "strength"] (C1 i5):=E7
abbrev lQ:List Str:=["order", "x", "y", "strength", "level", "sign"]
theorem vcI:VS lQ i5 "order" 0:=vq
theorem vcJ:VS lQ i5 "x" 1:=vq
theorem vcK:VS lQ i5 "y" 2:=vq
theorem vcL:VS lQ i5 "strength" 3:=vq
theorem vcM:VS lQ i5 "level" 4:=vq
theorem vcN:VS lQ i5 "sign" 5:=vq
theorem vcO:LS i5 "level":=lq
theorem vcP:LS i5 "sign":=lq
theorem adL(F:FunD K "difference" "difference" i5 f fd)(T:Txt P w K mg C)(G3_compare:FO P w K mg base 8 "compare" ["order", "one", "other", "strength"] [] (hX C)):FnOk P w K mg base E1 9 f fd ["order", "x", "y", "strength"] (spDif C):=by
 refine F.ok sc_difference ?_ ?_
 .rintro _ _ _ _ ⟨x,z,z',n,R,L,M,rfl,_⟩;rfl
 .intro cdv A outer s H vs Q E hr h;have B5:=hu_of hr;have hu:=hr.units;refine ⟨_,QSs.out (A4 (N0 PassesOwn.never (qi_r2 T.b_range (qa_c A1 (qa_c (qe_op (q_add (K:=K)) (vi vcL) A1) A2))) (D3 (n:=4) sc_difference.nd rfl vcO (.inl rfl)) (A4 (C4 (n:=5) sc_difference.nd rfl vcP (C9 G3_compare (hm hr) (qa_c (vi vcI) (qa_c (vi vcJ) (qa_c (vi vcK) (qa_c (vi vcM) A2))))))
   (A5 (qs_if (E2 (q_ne (K:=K) hu) (vi vcN) A1) (A5 (D1 (F9 (qa_c (vi vcM) (qa_c (vi vcN) A2))))) G5))))
   (A5 (D1 (F9 (qa_c A1 (qa_c A1 A2)))))),?_⟩
  obtain ⟨x,z,z',n,R,L,M,rfl,hn,hO,hz,c9,q⟩:=h;walk_at "rd";refine ⟨by decide,by decide,by lia,by lia,?_⟩;rw [show ((n:Int)+1-1).toNat=n by lia];refine forRs (fun i Y H2=>(∃ u v:Option V,Y=[some (.ref x),some (.str z),some (.str z'),some (.int n),u,v])/\Same H H2/\∀ k<i,cmpF (k+1) (i8 R L M z) (i8 R L M z')=0) ⟨⟨none,none,rfl⟩,cK _,by simp⟩ ?_ ?_
  .rintro P' Bk hP i Y H2 hi ⟨⟨u,v,rfl⟩,S,h0⟩;obtain ⟨j,ll,ml,md,O⟩:=hO.ex;walk_at "rd";refine ⟨x,j,ll,ml,md,z,z',i+1,_,R,L,M,by rw [show (1+(i:Int))=((i+1:Nat):Int) by lia],by lia,O.same S,hO.kn,hz.1,c9.1,hz.2,c9.2,hO.st,fun H3 S3=>?_⟩;walk_at "rd";refine iteN (fun G8=>⟨by decide,fun p np=>?_⟩) fun he=>hP _ _ _ ⟨⟨_,_,rfl⟩,S.trans S3,fun k hk=>?_⟩
   .refine q p _ ((S.trans S3).free np) ((S.trans S3).trans (Same.new np)) ?_;unfold difR;rw [A3,xS hi h0 G8,show (1+(i:Int))=((i+1:Nat):Int) by lia]
   .by_cases jE:k=i
    .rw [jE];exact he
    .exact h0 k 'a'
  rintro Y H2 ⟨⟨u,v,rfl⟩,S,h0⟩;walk_at "rd";refine ⟨by decide,fun p np=>q p _ (S.free np) (S.trans (Same.new np)) ?_⟩;unfold difR;rw [A3,xT h0]
theorem aeZ:FnScope ["one", "other", "x", "y", "strength"] ["one", "other", "x", "y", "strength"] (C1 x9):=E7
abbrev pC:List Str:=["one", "other", "x", "y", "strength"]
theorem vcQ:VS pC x9 "one" 0:=vq
theorem vcR:VS pC x9 "other" 1:=vq
theorem vcS:VS pC x9 "x" 2:=vq
theorem vcT:VS pC x9 "y" 3:=vq
theorem vcU:VS pC x9 "strength" 4:=vq
theorem ads(F:FunD K "differences" "differences" x9 f fd)(T:Txt P w K mg C)(G3_difference:FO P w K mg base 9 "difference" ["order", "x", "y", "strength"] [] (spDif C)):FnOk P w K mg base E1 10 f fd ["one", "other", "x", "y", "strength"] (sO C):=by
 refine F.ok aeZ ?_ ?_
 .rintro _ _ _ _ ⟨x,y,z,z',n,R,R',L,M,L',M',rfl,_⟩;rfl
 .intro cdv A outer s H vs Q E hr h;have B5:=hu_of hr;have hu:=hr.units;refine ⟨_,QSs.out (A5 (D1 (qe_op (q_add (K:=K)) (C9 G3_difference (hm hr) (qa_c (vi vcQ) (qa_c (vi vcS) (qa_c (vi vcT) (qa_c (vi vcU) A2))))) (C9 G3_difference (hm hr) (qa_c (vi vcR) (qa_c (vi vcS) (qa_c (vi vcT) (qa_c (vi vcU) A2)))))))),?_⟩;obtain ⟨x,y,z,z',n,R,R',L,M,L',M',rfl,hn,hO,hO',h1,h2,h3,h4,q⟩:=h;walk_at "rd";refine ⟨x,z,z',n,R,L,M,rfl,hn,hO,h1,h2,fun t H1 nt S1 ht=>⟨y,z,z',n,R',L',M',rfl,hn,hO'.same S1,h3,h4,fun t' H2 nt' S2 ht'=>?_⟩⟩;walk_at "rd";refine rAddR.t (.of (S2 _ _ ht)) (.of ht') 'c' (by simp only [L0,Z6];exact L9 'a') (fun e=>by cases e) fun _ p np=>q p _ ((S1.trans S2).free np) ((S1.trans S2).trans (Same.new np)) ?_
  rw [A3];rfl
theorem ak7:FnScope ["order", "so_far", "apart"] ["order", "so_far", "apart"] (C1 lE):=E7
abbrev yY:List Str:=["order", "so_far", "apart"]
theorem vcV:VS yY lE "order" 0:=vq
theorem pD:VS yY lE "so_far" 1:=vq
theorem lR:VS yY lE "apart" 2:=vq
theorem ak8(F:FunD K "stands" "stands" lE f fd)(T:Txt P w K mg C):FnOk P w K mg base E1 1 f fd ["order", "so_far", "apart"] (aig K C):=by
 refine F.ok ak7 ?_ ?_
 .rintro _ _ _ _ ⟨x,p,q',s,a,R,L,M,rfl,_⟩;rfl
 .intro cdv A outer s H vs Q E hr h;have B5:=hu_of hr;have hu:=hr.units;refine ⟨_,QSs.out (A4 (qs_if (E2 (q_eq (K:=K) hu) (qe_ix (K:=K) (vi lR) A1) A1) (A5 (D1 (vi pD))) G5)
   (A4 (qs_if (QW.pt (qw_or (E2 (q_eq (K:=K) hu) (qe_ix (K:=K) (vi pD) A1) A1) (nW (E2 q_gt (qe_ix (K:=K) (vi pD) A1) (qe_ix (K:=K) (vi lR) A1))))) (A5 (D1 (vi lR))) G5)
   (A4 (qs_if (QW.pt (cN (E2 (q_eq (K:=K) hu) (qe_ix (K:=K) (vi pD) A1) (qe_ix (K:=K) (vi lR) A1)) (cN (E2 (q_eq (K:=K) hu) (qe_ix (K:=K) (vi lR) A1) A1) (eS (X5 (K:=K) (aW (K:=K) (vi vcV))))))) (A5 (D1 (vi lR))) G5)
   (A5 (D1 (vi pD)))))),?_⟩
  obtain ⟨x,p,q',s,a,R,L,M,rfl,hO,hp,hq,q⟩:=h;obtain ⟨j,ll,ml,md,O⟩:=hO.ex;obtain ⟨dx,ho⟩:=O.ob;unfold O0 at hp hq;walk_at "rd";refine ⟨_,.inr hq,V.int a.1,M3 _ _,?_⟩;walk_at "rd";unfold bG at q;refine iteD (fun h0=>q p (by rw [if_pos h0];exact hp)) fun h0=>⟨_,.inr hp,V.int s.1,M3 _ _,?_⟩
  rw [if_neg h0] at q;walk_at "rd";have hA:(s.1=0\/a.1<s.1)->Q (V.ref q') H:=fun h=>q q' (by rw [if_pos h];exact hq)
  refine iteD (fun h1=>hA (.inl h1)) fun h1=>⟨_,.inr hp,V.int s.1,M3 _ _,_,.inr hq,V.int a.1,M3 _ _,?_⟩
  walk_at "rd";refine iteD (fun h2=>hA (.inr h2)) fun h2=>⟨_,.inr hp,V.int s.1,M3 _ _,_,.inr hq,V.int a.1,M3 _ _,?_⟩
  rw [if_neg (fun h=>h.elim h1 h2)] at q;walk_at "rd";have hS:¬ (s.1=a.1/\a.1=2/\hasW R "behind"=true)->Q (V.ref p) H:=fun h=>q p (by rw [if_neg h];exact hp)
  refine iteD (fun h3=>⟨_,.inr hq,V.int a.1,M3 _ _,?_⟩) fun h3=>hS (fun h=>h3 h.1)
  walk_at "rd";refine iteD (fun h4=>?_) fun h4=>hS (fun h=>h4 h.2.1)
  refine ⟨_,_,_,ho,T.cl,T.na_behind,_,aeC _ _ _ _ _ _,_,rfl,?_⟩
  by_cases hb:hasW R "behind"=true
  .rw [if_pos hb];exact q q' (by rw [if_pos ⟨h3,h4,hb⟩];exact hq)
  .rw [if_neg hb];exact hS (fun h=>hb h.2.2)
theorem ajd:FnScope ["one", "other", "room", "apart"] ["one", "other", "room", "apart"] (C1 hV):=E7
abbrev tJ:List Str:=["one", "other", "room", "apart"]
theorem vcY:VS tJ hV "one" 0:=vq
theorem vcZ:VS tJ hV "other" 1:=vq
theorem vc0:VS tJ hV "room" 2:=vq
theorem vc1:VS tJ hV "apart" 3:=vq
theorem aje(F:FunD K "goes_on" "goes_on" hV f fd)(T:Txt P w K mg C)(G_stands:FO P w K mg base 1 "stands" ["order", "so_far", "apart"] [] (aig K C)):FnOk P w K mg base E1 2 f fd ["one", "other", "room", "apart"] (anb K C):=by
 refine F.ok ajd ?_ ?_
 .rintro _ _ _ _ ⟨x,y,p,p',r,d,R,R',L,M,L',M',rfl,_⟩;rfl
 .intro cdv A outer s H vs Q E hr h;have B5:=hu_of hr;have hu:=hr.units;refine ⟨_,QSs.out (A5 (D1 (qe_op (q_add (K:=K)) (C9 G_stands (hm hr) (qa_c (vi vcY) (qa_c (M9 (K:=K) (vi vc0) Q3 (L1 A1)) (qa_c (M9 (K:=K) (vi vc1) Q3 (L1 A1)) A2)))) (C9 G_stands (hm hr) (qa_c (vi vcZ) (qa_c (M9 (K:=K) (vi vc0) (L1 A1) Q3) (qa_c (M9 (K:=K) (vi vc1) (L1 A1) Q3) A2))))))),?_⟩;obtain ⟨x,y,p,p',r,d,R,R',L,M,L',M',rfl,hO,hO',hp,hd,q⟩:=h;unfold V6 at hp hd;walk_at "rd";refine rSlR.t hp (by simp [HT.sIx]) fun l1 n1=>rSlR.t (fF (Same.new n1) hd) (by simp [HT.sIx]) fun l2 n2=>?_
  rw [show cutV [V.int r.1,V.int r.2.1,V.int r.2.2.1,V.int r.2.2.2] none (some 2)=O0 (r.1,r.2.1) from aX _ 2,show cutV [V.int d.1,V.int d.2.1,V.int d.2.2.1,V.int d.2.2.2] none (some 2)=O0 (d.1,d.2.1) from aX _ 2] at *;have S1:Same H (A0 (A0 H l1 (.tup (O0 (r.1,r.2.1)))) l2 (.tup (O0 (d.1,d.2.1)))):=(Same.new n1).trans (Same.new n2);have e1:A0 (A0 H l1 (.tup (O0 (r.1,r.2.1)))) l2 (.tup (O0 (d.1,d.2.1))) l1=some (.tup (O0 (r.1,r.2.1))):=C8 A3 n2;have e2:A0 (A0 H l1 (.tup (O0 (r.1,r.2.1)))) l2 (.tup (O0 (d.1,d.2.1))) l2=some (.tup (O0 (d.1,d.2.1))):=A3;generalize A0 (A0 H l1 (.tup (O0 (r.1,r.2.1)))) l2 (.tup (O0 (d.1,d.2.1)))=H2 at S1 e1 e2;refine ⟨x,l1,l2,_,_,R,L,M,rfl,hO.same S1,.of e1,.of e2,fun t ht=>?_⟩;refine rSlR.t (fF S1 hp) (by simp [HT.sIx]) fun l3 n3=>rSlR.t (fF (Same.new n3) (fF S1 hd)) (by simp [HT.sIx]) fun l4 n4=>?_
  rw [show cutV [V.int r.1,V.int r.2.1,V.int r.2.2.1,V.int r.2.2.2] (some 2) none=O0 (r.2.2.1,r.2.2.2) from x6 _ 2,show cutV [V.int d.1,V.int d.2.1,V.int d.2.2.1,V.int d.2.2.2] (some 2) none=O0 (d.2.2.1,d.2.2.2) from x6 _ 2] at *;have S3:Same H2 (A0 (A0 H2 l3 (.tup (O0 (r.2.2.1,r.2.2.2)))) l4 (.tup (O0 (d.2.2.1,d.2.2.2)))):=(Same.new n3).trans (Same.new n4);have e3:A0 (A0 H2 l3 (.tup (O0 (r.2.2.1,r.2.2.2)))) l4 (.tup (O0 (d.2.2.1,d.2.2.2))) l3=some (.tup (O0 (r.2.2.1,r.2.2.2))):=C8 A3 n4;have e4:A0 (A0 H2 l3 (.tup (O0 (r.2.2.1,r.2.2.2)))) l4 (.tup (O0 (d.2.2.1,d.2.2.2))) l4=some (.tup (O0 (d.2.2.1,d.2.2.2))):=A3;generalize A0 (A0 H2 l3 (.tup (O0 (r.2.2.1,r.2.2.2)))) l4 (.tup (O0 (d.2.2.1,d.2.2.2)))=H3 at S3 e3 e4;refine ⟨y,l3,l4,_,_,R',L',M',rfl,hO'.same (S1.trans S3),.of e3,.of e4,fun t' ht'=>?_⟩;walk_at "rd";refine rAddR.t (fF S3 ht) ht' (by simp [O0]) (by simp only [O0,L0,Z6];exact L9 'a') (fun e=>by cases e) fun _ p np=>q p _ ((S1.trans S3).free np) ((S1.trans S3).trans (Same.new np)) ?_
  rw [A3];rfl
theorem aeO:FnScope ["room"] ["room"] (C1 sM):=E7
abbrev ae0:List Str:=["room"]
theorem vc2:VS ae0 sM "room" 0:=vq
theorem aeP(F:FunD K "is_otherwise" "is_otherwise" sM f fd)(T:Txt P w K mg C):FnOk P w K mg base E1 1 f fd ["room"] (spOt K i9):=by
 refine F.ok aeO ?_ ?_
 .rintro _ _ _ _ ⟨p,r,rfl,_⟩;rfl
 .intro cdv A outer s H vs Q E hr h;have B5:=hu_of hr;have hu:=hr.units;refine ⟨_,QSs.out (A5 (D1 (k8 (q_ne (K:=K) hu) (qe_ix (K:=K) (vi vc2) A1) (qe_ix (K:=K) (vi vc2) A1)))),?_⟩;obtain ⟨p,r,rfl,hp,q⟩:=h;unfold V6 at hp;walk_at "rd";refine ⟨_,.inr hp,V.int r.2.1,J9 (j:=1) rfl,_,.inr hp,V.int r.2.2.2,J9 (j:=3) rfl,?_⟩;walk_at "rd";exact q
theorem agO:FnScope ["room"] ["room"] (C1 sN):=E7
abbrev ahA:List Str:=["room"]
theorem vc3:VS ahA sN "room" 0:=vq
theorem agP(F:FunD K "is_uneven" "is_uneven" sN f fd)(T:Txt P w K mg C):FnOk P w K mg base E1 1 f fd ["room"] (spOt K t8):=by
 refine F.ok agO ?_ ?_
 .rintro _ _ _ _ ⟨p,r,rfl,_⟩;rfl
 .intro cdv A outer s H vs Q E hr h;have B5:=hu_of hr;have hu:=hr.units;refine ⟨_,QSs.out (A5 (D1 (k8 (q_ne (K:=K) hu) (k8 (q_eq (K:=K) hu) (qe_ix (K:=K) (vi vc3) A1) A1) (k8 (q_eq (K:=K) hu) (qe_ix (K:=K) (vi vc3) A1) A1)))),?_⟩;obtain ⟨p,r,rfl,hp,q⟩:=h;unfold V6 at hp;walk_at "rd";refine ⟨_,.inr hp,V.int r.1,M3 _ _,?_⟩;walk_at "rd";refine ⟨_,.inr hp,V.int r.2.2.1,J9 (j:=2) rfl,?_⟩;walk_at "rd";exact q
theorem ahB:FnScope ["order", "sign"] ["order", "sign"] (C1 lF):=E7
abbrev afr:List Str:=["order", "sign"]
theorem vc4:VS afr lF "order" 0:=vq
theorem vc5:VS afr lF "sign" 1:=vq
theorem ahC(F:FunD K "is_plain" "is_plain" lF f fd)(T:Txt P w K mg C)(G_Order_steps:MO P w K mg base 1 C "steps" ["self", "piece"] (oP C)):FnOk P w K mg base E1 2 f fd ["order", "sign"] (anc C):=by
 refine F.ok ahB ?_ ?_
 .rintro _ _ _ _ ⟨x,z,R,L,M,rfl,_⟩;rfl
 .intro cdv A outer s H vs Q E hr h;have B5:=hu_of hr;have hu:=hr.units;refine ⟨_,QSs.out (A5 (D1 (k8 (q_eq (K:=K) hu) (qe_cB (q_len (K:=K)) T.b_len W6 (qa_c (g7  (V5:CompOk ["order", "sign"] (C1 lF).names _ ["step"] 1 []) (eT (K:=K) (rX (vi vc4) G_Order_steps (hm hr) (qa_c (vi vc5) A2))) (fun _ _ _ _ _=>D3 (n:=0) (show List.Nodup (["step"]:List Str) by decide +kernel) rfl (Or.inl rfl)) (fun _ _ _ _ _=>(kQ (E2 (q_eq (K:=K) hu) (qe_ix (K:=K) (qv 0) A1) (gW T.g_LETTER)))) (fun _ _ _ _ _=>(qv 0))) A2)) A1))),?_⟩;obtain ⟨x,z,R,L,M,rfl,hO,hl,q⟩:=h;obtain ⟨j,ll,ml,md,O⟩:=hO.ex;obtain ⟨dx,ho⟩:=O.ob;walk_at "rd";refine ⟨_,_,ho,oG _ _ _ _ _ _ 'd',x,j,ll,ml,md,z,_,R,L,M,rfl,O,fun r H1 S1 hs=>?_⟩;obtain ⟨ts,t1,t2⟩:=hs.ex;have pX:=Paired.length t2;generalize hss:stepF R L M z=ss at *;refine ⟨r,rfl,⟨_,.of t1⟩,compT (xs:=ts.map V.ref) [] rfl (fun D i ys H2=>Same H1 H2/\ys.length=letN (ss.take i)) (fun D nD=>⟨Same.new nD,rfl⟩) (by rintro D i ys H2 nD _ ⟨S,_⟩;exact .of (S _ _ t1)) ?_ ?_⟩
  .rintro D i y ys H2 nD hi hx ⟨S2,hn⟩ hD Q1;obtain ⟨t,ht,rfl⟩:=J8 hx;obtain ⟨u,fP,hut⟩:=Paired.at t2 ht;have Y2:i<ts.length:=(E6.mp ht).1;have est:letN (ss.take (i+1))=letN (ss.take i)+(if u.1=2 then 1 else 0):=by
    unfold letN;rw [M6 fP,cA,D6]
    by_cases h2:u.1=2
    .rw [if_pos h2];simp [h2]
    .rw [if_neg h2];simp [h2]
   have t3:H2 t=some (.tup [.int u.1,.int u.2.1,.int u.2.2]):=S2 _ _ hut;walk_at "rd";refine ⟨_,.inr (.of t3),V.int u.1,M3 _ _,?_⟩;walk_at "rd";refine iteD (fun h2=>⟨hD,L6 'a',CW.put hi Q1 ⟨S2.put nD,?_⟩⟩) fun h2=>⟨hD,wC hi Q1 ⟨S2,?_⟩⟩
   .rw [est,if_pos h2,D6,hn];rfl
   .rw [est,if_neg h2,hn];rfl
  rintro D ys H2 nD ⟨S2,hn⟩ hD _;rw [A6,pX,L7] at hn;walk_at "rd";refine ⟨ys.length,.inl ⟨_,.of hD,rfl⟩,?_⟩
  have:=q H2 (S1.trans S2)
  unfold fG at this;rw [hss] at this;rw [hn];rw [show decide ((letN ss:Int)=1)=decide (letN ss=1) from decide_eq_decide.mpr 'a'];exact this
theorem sc_check_plain:FnScope ["one", "other", "signs", "sign", "first", "second", "two"] ["one", "other", "signs"] (C1 i6):=E7
abbrev iF:List Str:=["one", "other", "signs", "sign", "first", "second", "two"]
theorem vc6:VS iF i6 "one" 0:=vq
theorem vc7:VS iF i6 "other" 1:=vq
theorem yZ:VS iF i6 "signs" 2:=vq
theorem vc9:VS iF i6 "sign" 3:=vq
theorem vda:VS iF i6 "first" 4:=vq
theorem vdb:VS iF i6 "second" 5:=vq
theorem vdc:VS iF i6 "two" 6:=vq
theorem vdd:LS i6 "sign":=lq
theorem vde:LS i6 "first":=lq
theorem vdf:LS i6 "second":=lq
theorem vdg:LS i6 "two":=lq
theorem ae1(F:FunD K "check_plain" "check_plain" i6 f fd)(T:Txt P w K mg C)(G_Order_job:MO P w K mg base 1 C "job" ["self", "piece"] (xE C))(G_is_plain:FO P w K mg base 2 "is_plain" ["order", "sign"] [] (anc C)):FnOk P w K mg base E1 3 f fd ["one", "other", "signs"] (spChk C):=by
 refine F.ok sc_check_plain ?_ ?_
 .rintro _ _ _ _ ⟨x,y,l,zs,R,R',L,M,L',M',rfl,_⟩;rfl
 .intro cdv A outer s H vs Q E hr h;have B5:=hu_of hr;have hu:=hr.units;refine ⟨_,QSs.out (A4 (N0 PassesOwn.never (P7 (K:=K) (vi yZ)) (D3 (n:=3) sc_check_plain.nd rfl vdd (.inl rfl)) (A5 (qs_if (QW.pt (qw_or (wH (X5 (K:=K) (C9 G_is_plain (hm hr) (qa_c (vi vc6) (qa_c (vi vc9) A2))))) (nW (wH (X5 (K:=K) (C9 G_is_plain (hm hr) (qa_c (vi vc7) (qa_c (vi vc9) A2)))))))) (A5 kO) G5)))
   (A5 (N0 PassesOwn.never (P7 (K:=K) (vi yZ)) (D3 (n:=4) sc_check_plain.nd rfl vde (.inl rfl)) (A5 (N0 PassesOwn.never (P7 (K:=K) (vi yZ)) (D3 (n:=5) sc_check_plain.nd rfl vdf (.inl rfl)) (A4 (C4 (n:=6) sc_check_plain.nd rfl vdg (qe_op (q_add (K:=K)) (vi vda) (vi vdb)))
   (A5 (qs_if (QW.pt (qw_or (E2 wJ (rX (vi vc6) G_Order_job (hm hr) (qa_c (vi vdc) A2)) gU) (nW (E2 wJ (rX (vi vc7) G_Order_job (hm hr) (qa_c (vi vdc) A2)) gU)))) (A5 kO) G5)))))))),?_⟩
  obtain ⟨x,y,l,zs,R,R',L,M,L',M',rfl,hO,hO',hl,hz,hc,q⟩:=h;unfold chkF at hc;obtain ⟨c1,c2⟩:=Option.or_eq_none_iff.mp hc;walk_at "rd";refine ⟨⟨_,.of hl⟩,forLs (xs:=zs.map V.str) (fun i Y H2=>∃ u:Option V,Y=[some (.ref x),some (.ref y),some (.ref l),u,none,none,none]/\Same H H2/\True) ⟨none,rfl,cK _,trivial⟩ (by rintro i Y H2 _ ⟨_,_,S,_⟩;exact .of (S _ _ hl)) ?_ ?_⟩
  .rintro P' Bk hP i a Y H2 ha ⟨u,rfl,S2,_⟩;obtain ⟨z,Y4,rfl⟩:=J8 ha;have fZ:=hz z (L3 Y4);have hb:(!fG R L M z || !fG R' L' M' z)=false:=by have:=aM.mp c1 z (L3 Y4);rwa [cF] at this
   rw [Bool.or_eq_false_iff,nA,nA] at hb;walk_at "rd";refine ⟨x,z,R,L,M,rfl,hO.same S2,fZ.2.1,fun H3 S3=>⟨_,rfl,?_⟩⟩;rw [hb.1];refine iteF ⟨y,z,R',L',M',rfl,hO'.same (S2.trans S3),fZ.2.2,fun H4 S4=>⟨_,rfl,?_⟩⟩;rw [hb.2];exact iteF (hP _ _ _ ⟨_,rfl,S2.trans (S3.trans S4),trivial⟩)
  rintro Y H2 ⟨u,rfl,S2,_⟩;have kn:∀ {R:List Rl} {g:Str->Str} {t:Str},(!decide ((if t∈keysP (C6 R)++W9 R then jobG g t else V.non)=V.non))=decide (t∈G6 R):=fun {R g t}=>by
   unfold G6 jobG
   by_cases h:t∈keysP (C6 R)++W9 R
   .rw [if_pos h,decide_eq_true h,decide_eq_false (by split <;> simp)];rfl
   .rw [if_neg h,decide_eq_false h];rfl
  walk_at "rd";refine ⟨⟨_,.of (S2 _ _ hl)⟩,forLs (xs:=zs.map V.str) (fun i Y H3=>∃ u v w r:Option V,Y=[some (.ref x),some (.ref y),some (.ref l),u,v,w,r]/\Same H H3) ⟨u,none,none,none,rfl,S2⟩ (by rintro i Y H2 _ ⟨_,_,_,_,_,S⟩;exact .of (S _ _ hl)) ?_ fun Y H3 ⟨_,_,_,_,e,S⟩=>q H3 S⟩;clear S2 H2;rintro P' Bk hP i a Y H2 ha ⟨u,v,w,r,rfl,S2⟩;obtain ⟨z,Y4,rfl⟩:=J8 ha;have fZ:=hz z (L3 Y4);walk_at "rd";refine ⟨⟨_,.of (S2 _ _ hl)⟩,forLs (xs:=zs.map V.str) (fun k Y H3=>∃ w r:Option V,Y=[some (.ref x),some (.ref y),some (.ref l),u,some (.str z),w,r]/\Same H H3) ⟨w,r,rfl,S2⟩ (by rintro i Y H2 _ ⟨_,_,_,S⟩;exact .of (S _ _ hl)) ?_ fun Y H3 ⟨_,_,e,S⟩=>hP _ _ _ ⟨_,_,_,_,e,S⟩⟩;clear S2 H2;rintro P2 Bk2 hP2 k b Y H2 hb ⟨w,r,rfl,S2⟩;obtain ⟨z',hz2,rfl⟩:=J8 hb;have hzm':=hz z' (L3 hz2);have A9:(z++z').length=z.length+z'.length:=Array.size_append;have hk:=aM.mp c2 (z++z') (W0.mpr ⟨z,L3 Y4,D7.mpr ⟨z',L3 hz2,rfl⟩⟩);rw [cF,Bool.or_eq_false_iff] at hk;obtain ⟨j,ll,ml,md,O⟩:=(hO.same S2).ex;obtain ⟨j',ll',ml',md',O'⟩:=(hO'.same S2).ex;obtain ⟨dx,ho⟩:=O.ob;obtain ⟨dx',X9⟩:=O'.ob;walk_at "rd";refine ⟨L9 'a',_,_,ho,oG _ _ _ _ _ _ 'd',x,j,ll,ml,md,z++z',_,R,L,M,rfl,O,?_⟩;show if (!decide ((if z++z'∈keysP (C6 R)++W9 R then jobG (oM R) (z++z') else V.non)=V.non))=true then _ else _
  rw [kn,hk.1];refine iteF ⟨_,_,X9,oG _ _ _ _ _ _ 'd',y,j',ll',ml',md',z++z',_,R',L',M',rfl,O',?_⟩;show if (!decide ((if z++z'∈keysP (C6 R')++W9 R' then jobG (oM R') (z++z') else V.non)=V.non))=true then _ else _
  rw [kn,hk.2];exact iteF (hP2 _ _ _ ⟨_,_,rfl,S2⟩)
theorem sc_moves_by:FnScope ["one", "other", "signs", "strength", "moves", "x", "y"] ["one", "other", "signs", "strength"] (C1 l9):=E7
abbrev iG:List Str:=["one", "other", "signs", "strength", "moves", "x", "y"]
theorem vdh:VS iG l9 "one" 0:=vq
theorem vdi:VS iG l9 "other" 1:=vq
theorem vdj:VS iG l9 "signs" 2:=vq
theorem vdk:VS iG l9 "strength" 3:=vq
theorem vdl:VS iG l9 "moves" 4:=vq
theorem vdm:VS iG l9 "x" 5:=vq
theorem vdn:VS iG l9 "y" 6:=vq
theorem vdo:LS l9 "moves":=lq
theorem vdp:LS l9 "x":=lq
theorem vdq:LS l9 "y":=lq
theorem ahD(F:FunD K "moves_by" "moves_by" l9 f fd)(T:Txt P w K mg C)(G3_differences:FO P w K mg base 10 "differences" ["one", "other", "x", "y", "strength"] [] (sO C)):FnOk P w K mg base E1 11 f fd ["one", "other", "signs", "strength"] (spMvs C):=by
 refine F.ok sc_moves_by ?_ ?_
 .rintro _ _ _ _ ⟨x,y,l,zs,n,R,R',L,M,L',M',rfl,_⟩;rfl
 .intro cdv A outer s H vs Q E hr h;have B5:=hu_of hr;have hu:=hr.units;refine ⟨_,QSs.out (A4 (C4 (n:=4) sc_moves_by.nd rfl vdo (R7 A2))
   (A4 (N0 PassesOwn.never (P7 (K:=K) (vi vdj)) (D3 (n:=5) sc_moves_by.nd rfl vdp (.inl rfl)) (A5 (N0 PassesOwn.never (P7 (K:=K) (vi vdj)) (D3 (n:=6) sc_moves_by.nd rfl vdq (.inl rfl)) (A5 (R9 (qe_mB (K:=K) W3 g0 f9 g8 (vi vdl) (qa_c (F9 (qa_c (vi vdm) (qa_c (vi vdn) (qa_c (C9 G3_differences (hm hr) (qa_c (vi vdh) (qa_c (vi vdi) (qa_c (vi vdm) (qa_c (vi vdn) (qa_c (vi vdk) A2)))))) A2)))) A2)))))))
   (A5 (D1 (vi vdl))))),?_⟩
  obtain ⟨x,y,l,zs,n,R,R',L,M,L',M',rfl,hn,hO,hO',hl,P9,hz,q⟩:=h;walk_at "rd";intro t nt;refine ⟨⟨_,.of (C8 hl nt)⟩,forLs (xs:=zs.map V.str) (fun i Y H2=>∃ u v:Option V,Y=[some (.ref x),some (.ref y),some (.ref l),some (.int n),some (.ref t),u,v]/\Same H H2/\IsMv H2 t ((zs.take i).flatMap fun x=>zs.map fun y=>(x,y,join4 (difR R L M n x y) (difR R' L' M' n x y)))) ⟨none,none,rfl,Same.new nt,[],A3,.nil⟩ (by rintro i Y H2 _ ⟨_,_,_,S,_⟩;exact .of (S _ _ hl)) ?_ ?_⟩
  .rintro P' Bk hP i a Y H2 ha ⟨u,v,rfl,S2,hm⟩;obtain ⟨z,Y4,rfl⟩:=J8 ha;have hi:i<zs.length:=(E6.mp Y4).1;have tz:=hz z (L3 Y4);walk_at "rd";refine ⟨⟨_,.of (S2 _ _ hl)⟩,forLs (xs:=zs.map V.str) (fun k Y H3=>∃ v:Option V,Y=[some (.ref x),some (.ref y),some (.ref l),some (.int n),some (.ref t),some (.str z),v]/\Same H H3/\IsMv H3 t (((zs.take i).flatMap fun x=>zs.map fun y=>(x,y,join4 (difR R L M n x y) (difR R' L' M' n x y)))++(zs.take k).map fun y=>(z,y,join4 (difR R L M n z y) (difR R' L' M' n z y)))) ⟨v,rfl,S2,by simpa using hm⟩ (by rintro i Y H2 _ ⟨_,_,S,_⟩;exact .of (S _ _ hl)) ?_ ?_⟩
   .clear hm;rintro P2 Bk2 hP2 k b Y H3 hb ⟨v,rfl,S3,as,m1,m2⟩;obtain ⟨z',jK,rfl⟩:=J8 hb;have hk:k<zs.length:=(E6.mp jK).1;have tz':=hz z' (L3 jK);have mQ:as.length<=10*10+10:=by
     rw [Paired.length m2];simp only [D6,List.length_flatMap,A6,F7,List.map_const',List.sum_replicate_nat];have h1:min i zs.length*zs.length<=10*10:=Nat.mul_le_mul 'a' P9;lia
    walk_at "rd";refine ⟨V2 m1,x,y,z,z',n,R,R',L,M,L',M',rfl,hn,hO.same S3,hO'.same S3,tz.1,tz'.1,tz.2,tz'.2,fun d H4 nd S4 hd=>⟨by decide,fun p np=>?_⟩⟩;have S5:=S4.trans (Same.new (u:=HO.tup [V.str z,V.str z',V.ref d]) np);refine appOk (S5 _ _ m1) (by rw [A6];exact L6 'a') (hP2 _ _ _ ⟨_,rfl,(S3.trans S5).put nt,?_⟩);rw [M6 jK,D0,<- X3];exact IsMv.put (S5 _ _ m1) (O6 m2 fun _ _ ⟨d,e1,e2⟩=>⟨d,S5 _ _ e1,S5 _ _ e2⟩) A3 (C8 hd np)
   rintro Y H3 ⟨v,rfl,S3,hm3⟩;rw [A6,L7] at hm3;refine hP _ _ _ ⟨_,_,rfl,S3,?_⟩;rw [M6 Y4,e9]
   simpa using hm3
  rintro Y H2 ⟨u,v,rfl,S2,hm⟩;rw [A6,L7] at hm;walk_at "rd";exact q t H2 nt S2 hm
theorem agQ:FnScope ["sign", "room", "pair"] ["sign", "room", "pair"] (C1 lG):=E7
abbrev zA:List Str:=["sign", "room", "pair"]
theorem vdr:VS zA lG "sign" 0:=vq
theorem vds:VS zA lG "room" 1:=vq
theorem tK:VS zA lG "pair" 2:=vq
theorem agR(F:FunD K "longer_by" "longer_by" lG f fd)(T:Txt P w K mg C):FnOk P w K mg base E1 1 f fd ["sign", "room", "pair"] (spLg K):=by
 refine F.ok agQ ?_ ?_
 .rintro _ _ _ _ ⟨p,p',z,u,v,r,rfl,_⟩;rfl
 .intro cdv A outer s H vs Q E hr h;have B5:=hu_of hr;have hu:=hr.units;refine ⟨_,QSs.out (A4 (qs_if (E2 q_lt (qe_ix (K:=K) (vi vds) A1) A1) (A5 (D1 (F9 (qa_c (qe_op (q_add (K:=K)) (qe_ix (K:=K) (vi tK) A1) (vi vdr)) (qa_c (qe_ix (K:=K) (vi tK) A1) A2))))) G5)
   (A5 (D1 (F9 (qa_c (qe_ix (K:=K) (vi tK) A1) (qa_c (qe_op (q_add (K:=K)) (qe_ix (K:=K) (vi tK) A1) (vi vdr)) A2)))))),?_⟩
  obtain ⟨p,p',z,u,v,r,rfl,hp,hq,h1,h2,h3,q⟩:=h;unfold V6 at hp;unfold iA at q;walk_at "rd";refine ⟨_,.inr hp,V.int r.2.1,J9 (j:=1) rfl,?_⟩;walk_at "rd";refine iteD (fun h0=>?_) fun h0=>?_
  .rw [if_pos h0] at q;refine ⟨_,.inr (.of hq),V.str u,M3 _ _,?_⟩;walk_at "rd";exact ⟨L9 'a',_,.inr (.of hq),V.str v,J9 (j:=1) rfl,by decide,q⟩
  .rw [if_neg h0] at q;refine ⟨_,.inr (.of hq),V.str u,M3 _ _,_,.inr (.of hq),V.str v,J9 (j:=1) rfl,?_⟩;walk_at "rd";exact ⟨L9 'a',by decide,q⟩
theorem sc_beside:FnScope ["one", "other", "signs", "strength", "moves", "pairs", "rooms", "at", "room", "pair", "x", "y", "apart", "further"] ["one", "other", "signs", "strength"] (C1 N8):=E7
abbrev j3:List Str:=["one", "other", "signs", "strength", "moves", "pairs", "rooms", "at", "room", "pair", "x", "y", "apart", "further"]
theorem zB:VS j3 N8 "one" 0:=vq
theorem zC:VS j3 N8 "other" 1:=vq
theorem zD:VS j3 N8 "signs" 2:=vq
theorem vdx:VS j3 N8 "strength" 3:=vq
theorem vdy:VS j3 N8 "moves" 4:=vq
theorem zE:VS j3 N8 "pairs" 5:=vq
theorem tL:VS j3 N8 "rooms" 6:=vq
theorem vdB:VS j3 N8 "at" 7:=vq
theorem tM:VS j3 N8 "room" 8:=vq
theorem pE:VS j3 N8 "pair" 9:=vq
theorem vdE:VS j3 N8 "x" 10:=vq
theorem vdF:VS j3 N8 "y" 11:=vq
theorem vdG:VS j3 N8 "apart" 12:=vq
theorem tN:VS j3 N8 "further" 13:=vq
theorem vdI:LS N8 "moves":=lq
theorem vdJ:LS N8 "pairs":=lq
theorem vdK:LS N8 "rooms":=lq
theorem vdL:LS N8 "at":=lq
theorem vdM:LS N8 "room":=lq
theorem vdN:LS N8 "pair":=lq
theorem vdO:LS N8 "x":=lq
theorem vdP:LS N8 "y":=lq
theorem vdQ:LS N8 "apart":=lq
theorem vdR:LS N8 "further":=lq
theorem agS(F:FunD K "beside" "beside" N8 f fd)(T:Txt P w K mg C)(G_goes_on:FO P w K mg base 2 "goes_on" ["one", "other", "room", "apart"] [] (anb K C))(G_is_otherwise:FO P w K mg base 1 "is_otherwise" ["room"] [] (spOt K i9))(G_is_uneven:FO P w K mg base 1 "is_uneven" ["room"] [] (spOt K t8))(G_check_plain:FO P w K mg base 3 "check_plain" ["one", "other", "signs"] [] (spChk C))(G_moves_by:FO P w K mg base 11 "moves_by" ["one", "other", "signs", "strength"] [] (spMvs C))(G_longer_by:FO P w K mg base 1 "longer_by" ["sign", "room", "pair"] [] (spLg K)):FnOk P w K mg base E1 12 f fd ["one", "other", "signs", "strength"] (spBes K C):=by
 refine F.ok sc_beside ?_ ?_
 .rintro _ _ _ _ ⟨x,y,l,zs,n,R,R',L,M,L',M',rfl,_⟩;rfl
 .intro cdv A outer s H vs Q E hr h;have B5:=hu_of hr;have hu:=hr.units;obtain ⟨a_START,m_START,M_START⟩:=T.x_START;refine ⟨_,QSs.out (A4 (R9 (C9 G_check_plain (hm hr) (qa_c (vi zB) (qa_c (vi zC) (qa_c (vi zD) A2)))))
   (A4 (C4 (n:=4) sc_beside.nd rfl vdI (C9 G_moves_by (hm hr) (qa_c (vi zB) (qa_c (vi zC) (qa_c (vi zD) (qa_c (vi vdx) A2))))))
   (A4 (C4 (n:=5) sc_beside.nd rfl vdJ (amw (P:=P) (w:=w) (K:=K) B5 (kN m_START) (F9 (qa_c M5 (qa_c M5 A2)))))
   (A4 (C4 (n:=6) sc_beside.nd rfl vdK (R7 (qa_c (kN m_START) A2)))
   (A4 (C4 (n:=7) sc_beside.nd rfl vdL A1)
   (A4 (rR PassesOwn.never (E2 q_lt (vi vdB) (qe_cB (q_len (K:=K)) T.b_len W6 (qa_c (vi tL) A2))) (A4 (C4 (n:=8) sc_beside.nd rfl vdM (qe_ix (K:=K) (vi tL) (vi vdB)))
   (A4 (wI (n:=7) sc_beside.nd rfl vdL A1 wK)
   (A4 (C4 (n:=9) sc_beside.nd rfl vdN (amu (P:=P) (w:=w) (K:=K) B5 (vi zE) (vi tM)))
   (A4 (qs_if (X5 (K:=K) (C9 G_is_uneven (hm hr) (qa_c (vi tM) A2))) (A5 (D1 (F9 (qa_c (C9 G_longer_by (hm hr) (qa_c (qe_ix (K:=K) (vi zD) A1) (qa_c (vi tM) (qa_c (vi pE) A2)))) (qa_c gU A2))))) G5)
   (A5 (N0 PassesOwn.never (P7 (K:=K) (vi vdy)) (x5 (K:=K) (n:=3) (P6 ((D3 (n:=10) sc_beside.nd rfl vdO (.inl rfl))) (P6 ((D3 (n:=11) sc_beside.nd rfl vdP (.inl rfl))) (P6 ((D3 (n:=12) sc_beside.nd rfl vdQ (.inl rfl))) x4)))) (A4 (C4 (n:=13) sc_beside.nd rfl vdR (C9 G_goes_on (hm hr) (qa_c (vi zB) (qa_c (vi zC) (qa_c (vi tM) (qa_c (vi vdG) A2))))))
   (A4 (qs_if (X5 (K:=K) (C9 G_is_otherwise (hm hr) (qa_c (vi tN) A2))) (A5 (D1 (F9 (qa_c (F9 (qa_c (qe_op (q_add (K:=K)) (qe_ix (K:=K) (vi pE) A1) (vi vdE)) (qa_c (qe_op (q_add (K:=K)) (qe_ix (K:=K) (vi pE) A1) (vi vdF)) A2))) (qa_c gU A2))))) G5)
   (A5 (qs_if (E2 (arD (P:=P) (w:=w) (K:=K) B5) (vi tN) (vi zE)) (A4 (amv (P:=P) (w:=w) (K:=K) B5 (vi zE) (vi tN) (F9 (qa_c (qe_op (q_add (K:=K)) (qe_ix (K:=K) (vi pE) A1) (vi vdE)) (qa_c (qe_op (q_add (K:=K)) (qe_ix (K:=K) (vi pE) A1) (vi vdF)) A2))))
   (A5 (R9 (qe_mB (K:=K) W3 g0 f9 g8 (vi tL) (qa_c (vi tN) A2))))) G5)))))))))))
   (A5 (D1 (F9 (qa_c gU (qa_c (vi tL) A2))))))))))),?_⟩
  obtain ⟨x,y,l,zs,n,R,R',L,M,L',M',rfl,hn,hO,hO',hl,P9,hz,hc,htx,q⟩:=h;obtain ⟨aS,gS,hS⟩:=T.x_START;walk_at "rd";refine ⟨x,y,l,zs,R,R',L,M,L',M',rfl,hO,hO',hl,fun z h=>⟨by have:=(hz z h).1;lia,(hz z h).2⟩,hc,fun H1 S1=>?_⟩;have uQ:∀ m∈mvsF R L M R' L' M' n zs,cV m.2.2/\m.1∈zs/\m.2.1∈zs:=fun m h=>arH hn h
  refine ⟨x,y,l,zs,n,R,R',L,M,L',M',rfl,hn,hO.same S1,hO'.same S1,S1 _ _ hl,P9,htx,fun mv H2 nmv S2 hmv=>?_⟩;generalize mvsF R L M R' L' M' n zs=ms at *;have hO2:=hO.same (S1.trans S2);have hO2':=hO'.same (S1.trans S2);have V8:=(S1.trans S2) _ _ hl;have q2:∀ t H',H2 t=none->Same H2 H'->BesR K (hasW R "behind") (hasW R' "behind") ms zs H H' t->Q (.ref t) H':=fun t H' nt S' h=>q t H' ((S1.trans S2).free nt) ((S1.trans S2).trans S') h
  have fr:∀ a,H2 a=none->H a=none:=fun a h=>(S1.trans S2).free h
  clear q hO hO' hl S1 S2 hc htx nmv;clear H1;intro d nd;refine ⟨by decide,fun p0 fV=>⟨by rw [A7 (w6 A3 fV)];exact A3,N9 (0,0,0,0),M_START _,by decide,fun rl nrl=>?_⟩⟩;have hdp:p0≠d:=fun e=>by rw [e,A3] at fV;cases fV
  have B0:Bst P w K H2 (A0 (A0 (A0 (A0 H2 d (dX P w d [])) p0 (HO.tup [V.str (Str.ofString ""),V.str (Str.ofString "")])) d (dX P w d [(N9 (0,0,0,0),a_START,V.ref p0)])) rl (HO.lst [V.ref a_START])) d rl [⟨(0,0,0,0),a_START,p0, "", ""⟩]:=by
   have S3:Same H2 (A0 (A0 (A0 H2 d (dX P w d [])) p0 (HO.tup [V.str (Str.ofString ""),V.str (Str.ofString "")])) d (dX P w d [(N9 (0,0,0,0),a_START,V.ref p0)])):=((Same.new nd).trans (Same.new fV)).put nd;refine ⟨S3.trans (Same.new nrl),A3,C8 A3 nrl,fun e he=>?_,fun e he=>?_⟩
   .rw [E5.mp he];exact M_START _
   .rw [E5.mp he];exact C8 (by rw [A7 hdp];exact A3) nrl
  have nrl2:H2 rl=none:=(((Same.new nd).trans (Same.new fV)).put nd).free nrl;generalize A0 (A0 (A0 (A0 H2 d (dX P w d [])) p0 (HO.tup [V.str (Str.ofString ""),V.str (Str.ofString "")])) d (dX P w d [(N9 (0,0,0,0),a_START,V.ref p0)])) rl (HO.lst [V.ref a_START])=H3 at B0;clear fV nrl;have F0:Bfs (hasW R "behind") (hasW R' "behind") ms [⟨(0,0,0,0),a_START,p0, "", ""⟩] 0:=by
   refine ⟨by simp,fun e he=>?_,fun i h=>absurd h (Nat.not_lt_zero _),fun i e he=>?_,⟨_,rfl,rfl⟩⟩
   .rw [E5.mp he];exact .st
   .rw [E5.mp (L3 he)];exact ⟨G4 _,G4 _⟩
  refine rS (fun m Y H4=>∃ i:Nat,BwI P w K H2 x y l n mv d rl (hasW R "behind") (hasW R' "behind") ms i Y H4/\m=300-i) 300 ⟨0,⟨_,none,none,none,none,none,none,rfl,B0,F0,by simp⟩,rfl⟩ ?_;clear B0 F0 hdp p0 H3;rintro m Y H4 ⟨i,⟨es,u1,u2,u3,u4,u5,u6,rfl,B,F,hi⟩,rfl⟩;have dD:=F.few fun m h=>(uQ m h).1
  walk_at "rd";refine ⟨es.length,.inl ⟨_,.of B.ls,by rw [A6]⟩,?_⟩;refine iteD (fun C5=>?_) fun hge=>?_
  .have Y2:i<es.length:=by lia
   obtain ⟨e,he⟩:∃ e,es[i]?=some e:=⟨es[i],J5 Y2⟩
   have aJ:=L3 he;have hln:=F.ln i e he;have mS:=B.pt e aJ;refine ⟨BwI P w K H2 x y l n mv d rl (hasW R "behind") (hasW R' "behind") ms (i+1),fun σ' H' B'=>⟨300-(i+1),by lia,i+1,B',rfl⟩,?_⟩;refine ⟨_,.inl (.of B.ls),V.ref e.ra,J9 (by rw [R6,he];rfl),?_⟩;refine ⟨_,B.ds,B.keys,_,rfl,N9 e.r,B.rt e aJ,_,akP F.nd he,e.ra,e.r,rfl,B.rt e aJ,_,rfl,?_⟩
   by_cases hu:t8 e.r=true
   .rw [if_pos hu];obtain ⟨m,hm⟩:=(F.rc e aJ).any hu;have fQ:=(uQ m hm).2.1;obtain ⟨z,zs',rfl⟩:∃ z zs',zs=z::zs':=by
     cases zs with
     | nil=>cases fQ
     | cons z zs'=>exact ⟨z,zs',rfl⟩
    have Y4:=(hz z M7).1;refine ⟨_,.inl (.of (B.same _ _ V8)),V.str z,M3 _ _,e.ra,e.pa,z,e.u,e.v,e.r,rfl,B.rt e aJ,mS,by lia,by lia,by lia,fun t nt=>⟨by decide,fun t2 jJ=>?_⟩⟩;refine q2 t2 _ (B.same.free ((Same.new nt).free jJ)) (B.same.trans ((Same.new nt).trans (Same.new jJ))) (.inl ⟨t,_,_,A3,C8 A3 jJ,?_,?_,.inr ⟨e.r,e.u,e.v,z,F.rc e aJ,hu,rfl,rfl⟩⟩)
    .unfold iA;split <;> simp only [y0] <;> lia
    .unfold iA;split <;> simp only [y0] <;> lia
   rw [if_neg hu];rw [cF] at hu;obtain ⟨as,m1,m2⟩:=hmv;refine ⟨⟨_,.of (B.same _ _ m1)⟩,forLs (xs:=as.map V.ref) (fun k Y H5=>∃ (es:List BE) (u3 u4 u5 u6:Option V),(Y=[some (.ref x),some (.ref y),some (.ref l),some (.int n),some (.ref mv),some (.ref d),some (.ref rl),some (.int ((i+1:Nat):Int)),some (.ref e.ra),some (.ref e.pa),u3,u4,u5,u6]/\Bst P w K H2 H5 d rl es)/\Bfs (hasW R "behind") (hasW R' "behind") ms es i/\es[i]?=some e/\∀ m∈ms.take k,i9 (O9 (hasW R "behind") (hasW R' "behind") e.r m.2.2)=false/\O9 (hasW R "behind") (hasW R' "behind") e.r m.2.2∈es.map (·.r)) ⟨es,u3,u4,u5,u6,⟨rfl,B⟩,F,he,by simp⟩ (by rintro k Y H5 _ ⟨_,_,_,_,_,⟨_,B⟩,_⟩;exact .of (B.same _ _ m1)) ?_ ?_⟩
   .clear B F he aJ dD Y2 C5 hi mS;rintro P' Bk hP k a Y H5 ha ⟨es,u3,u4,u5,u6,⟨rfl,B⟩,F,he,hd⟩;have aJ:=L3 he;have mS:=B.pt e aJ;have dD:=F.few fun m h=>(uQ m h).1
    have Y2:i<es.length:=(E6.mp he).1;obtain ⟨c,hc,rfl⟩:=J8 ha;obtain ⟨m,hm,dm,fQ,dL⟩:=Paired.at m2 hc;have hmm:=L3 hm;obtain ⟨z1,z2⟩:=(uQ m hmm).2;have l1:=(hz _ z1).1;have l2:=(hz _ z2).1;walk_at "rd";refine ⟨_,.of (B.same _ _ fQ),rfl,_,_,rfl,_,_,rfl,_,_,rfl,rfl,?_⟩;refine ⟨x,y,e.ra,dm,e.r,m.2.2,R,R',L,M,L',M',rfl,hO2.same B.same,hO2'.same B.same,B.rt e aJ,.of (B.same _ _ dL),fun t H6 nt S6 ht=>?_⟩;have B6:=B.more S6;clear B;have dY:=S6 _ _ mS;refine ⟨t,_,rfl,.of ht,_,rfl,?_⟩
    by_cases ho:i9 (O9 (hasW R "behind") (hasW R' "behind") e.r m.2.2)=true
    .rw [if_pos ho];refine ⟨_,.inr (.of dY),V.str e.u,M3 _ _,?_⟩;walk_at "rd";refine ⟨L9 'a',_,.inr (.of dY),V.str e.v,J9 (j:=1) rfl,?_⟩;walk_at "rd";refine ⟨L9 'a',by decide,fun p np=>⟨by decide,fun p1 Y5=>?_⟩⟩;exact q2 p1 _ (B6.same.free ((Same.new np).free Y5)) (B6.same.trans ((Same.new np).trans (Same.new Y5))) (.inl ⟨p,_,_,A3,C8 A3 Y5,by rw [y0];lia,by rw [y0];lia,.inl ⟨e.r,e.u,e.v,m,hmm,F.rc e aJ,hu,ho,rfl,rfl⟩⟩)
    rw [if_neg ho];rw [cF] at ho;have hnx:∀ {es':List BE},(∀ r∈es.map (·.r),r∈es'.map (·.r))->O9 (hasW R "behind") (hasW R' "behind") e.r m.2.2∈es'.map (·.r)->∀ m'∈ms.take (k+1),i9 (O9 (hasW R "behind") (hasW R' "behind") e.r m'.2.2)=false/\O9 (hasW R "behind") (hasW R' "behind") e.r m'.2.2∈es'.map (·.r):=fun {es'} hs hg m' uD=>by
     rw [M6 hm] at uD
     rcases E8.mp uD with h | h
     .exact ⟨(hd m' h).1,hs _ (hd m' h).2⟩
     .rw [E5.mp h];exact ⟨ho,hg⟩
    walk_at "rd";refine ⟨_,B6.ds,B6.keys,N9 (O9 (hasW R "behind") (hasW R' "behind") e.r m.2.2),.of ht,?_⟩
    by_cases F6:O9 (hasW R "behind") (hasW R' "behind") e.r m.2.2∈es.map (·.r)
    .rw [if_neg (by
      cases hq:lookX (es.map fun e=>(N9 e.r,e.ra,V.ref e.pa)) (N9 (O9 (hasW R "behind") (hasW R' "behind") e.r m.2.2)) with
      | none=>exact absurd F6 (look_es.mp hq)
      | some v=>exact L8)]
     exact hP _ _ _ ⟨es,_,_,_,_,⟨rfl,B6⟩,F,he,hnx (fun _ h=>h) F6⟩
    have hq:=look_es.mpr F6;rw [if_pos (by rw [hq];rfl)];refine ⟨_,.inr (.of dY),V.str e.u,M3 _ _,?_⟩;walk_at "rd";refine ⟨L9 'a',_,.inr (.of dY),V.str e.v,J9 (j:=1) rfl,?_⟩;walk_at "rd";refine ⟨L9 'a',by decide,fun p np=>?_⟩;have B7:=B6.more (Same.new (u:=HO.tup [V.str (e.u++m.1),V.str (e.v++m.2.1)]) np);have ht7:A0 H6 p (.tup [V.str (e.u++m.1),V.str (e.v++m.2.1)]) t=some (.tup (V6 (O9 (hasW R "behind") (hasW R' "behind") e.r m.2.2))):=C8 ht np;have hp7:A0 H6 p (.tup [V.str (e.u++m.1),V.str (e.v++m.2.1)]) p=some (.tup [V.str (e.u++m.1),V.str (e.v++m.2.1)]):=A3;generalize A0 H6 p (.tup [V.str (e.u++m.1),V.str (e.v++m.2.1)])=H7 at B7 ht7 hp7;have B8:=B7.put nd nrl2 (.of ht7) hp7;have mO:A0 H7 d (dX P w d (es.map (fun e=>(N9 e.r,e.ra,V.ref e.pa))++[(N9 (O9 (hasW R "behind") (hasW R' "behind") e.r m.2.2),t,V.ref p)])) rl=some (.lst (es.map fun e=>V.ref e.ra)):=by rw [A7 (ne_of B7.ls B7.ds (fun z=>by cases z))];exact B7.ls
    refine ⟨_,B7.ds,B7.keys,N9 (O9 (hasW R "behind") (hasW R' "behind") e.r m.2.2),.of ht7,hq,by rw [A6];exact L6 'a',V2 mO,appOk mO (by rw [A6];exact L6 'a') (hP _ _ _ ⟨_,_,_,_,_,⟨rfl,B8⟩,F.put he hmm l1 l2 hu ho F6,by rw [eB Y2];exact he,hnx (fun r h=>by rw [D0];exact Q2 _ h) (by rw [D0];exact O4 _ M7)⟩)⟩
   rintro Y H5 ⟨es,u3,u4,u5,u6,⟨rfl,B⟩,F,he,hd⟩;rw [A6,Paired.length m2,L7] at hd;exact ⟨es,_,_,_,_,_,_,rfl,B,F.next he hu hd,(E6.mp he).1⟩
  .refine ⟨by decide,fun t nt=>q2 t _ (B.same.free nt) (B.same.trans (Same.new nt)) (.inr ⟨rl,es,A3,C8 B.ls nt,fun e he=>fF (Same.new nt) (B.rt e he),?_⟩)⟩;refine ⟨?_,fr _ nrl2⟩;rw [show es.length=i by lia];exact F
theorem ahE:FnScope ["_law_script", "_law_k"] ["_law_script", "_law_k"] (C1 oV):=E7
abbrev afs:List Str:=["_law_script", "_law_k"]
theorem vdS:VS afs oV "_law_script" 0:=vq
theorem vdT:VS afs oV "_law_k" 1:=vq
theorem ahF(F:FunD K "_law_number" "_law_number" oV f fd)(T:Txt P w K mg C):FnOk P w K mg base E1 1 f fd ["_law_script", "_law_k"] (iB K):=by
 refine F.ok ahE ?_ ?_
 .rintro _ _ _ _ ⟨a,ns,k,rfl,_⟩;rfl
 .intro cdv A outer s H vs Q E hr h;have B5:=hu_of hr;have hu:=hr.units;refine ⟨_,QSs.out (A4 (qs_if (E2 q_lt (vi vdT) (qe_cB (q_len (K:=K)) T.b_len W6 (qa_c (vi vdS) A2))) (A5 (D1 (qe_op q_mod (qe_op q_mul (qe_ix (K:=K) (vi vdS) (vi vdT)) A1) A1))) G5)
   (A5 (D1 A1))),?_⟩
  obtain ⟨a,ns,k,rfl,hS,hk,q⟩:=h;walk_at "rd";refine ⟨ns.length,.inl ⟨_,hS,by rw [A6]⟩,iteD (fun e=>⟨_,.inl hS,V.int (ns.getD k.toNat 0),?_,?_⟩) fun e=>?_⟩
  .obtain ⟨j,rfl⟩:∃ j:Nat,k=(j:Int):=⟨k.toNat,by lia⟩
   have hl:j<ns.length:=by lia
   refine J9 ?_;rw [R6,J5 hl];show some (V.int ns[j])=_;rw [aK,Int.toNat_natCast,J5 hl];rfl
  .walk_at "rd";unfold numF cellF at q;rw [if_pos e] at q;exact ⟨.inr ⟨by lia,by lia⟩,q⟩
  .unfold numF cellF at q;rw [if_neg e] at q;exact q
theorem sc_l_sign:FnScope ["_law_cell", "_law_k", "_law_signs", "_law_step"] ["_law_cell", "_law_k"] (C1 cT):=E7
abbrev tO:List Str:=["_law_cell", "_law_k", "_law_signs", "_law_step"]
theorem vdU:VS tO cT "_law_cell" 0:=vq
theorem vdV:VS tO cT "_law_k" 1:=vq
theorem vdW:VS tO cT "_law_signs" 2:=vq
theorem vdX:VS tO cT "_law_step" 3:=vq
theorem vdY:LS cT "_law_signs":=lq
theorem vdZ:LS cT "_law_step":=lq
theorem ak9(F:FunD K "_law_sign" "_law_sign" cT f fd)(T:Txt P w K mg C):FnOk P w K mg base E1 1 f fd ["_law_cell", "_law_k"] spSg8:=by
 refine F.ok sc_l_sign ?_ ?_
 .rintro _ _ _ _ ⟨n,k,rfl,_⟩;rfl
 .intro cdv A outer s H vs Q E hr h;have B5:=hu_of hr;have hu:=hr.units;refine ⟨_,QSs.out (A4 (C4 (n:=2) sc_l_sign.nd rfl vdY M5)
   (A4 (C4 (n:=2) sc_l_sign.nd rfl vdY (qe_op (q_add (K:=K)) (vi vdW) M5))
   (A4 (C4 (n:=3) sc_l_sign.nd rfl vdZ (qe_ix (K:=K) (R7 (qa_c A1 (qa_c A1 (qa_c A1 (qa_c A1 (qa_c A1 (qa_c A1 (qa_c A1 (qa_c A1 (qa_c A1 (qa_c A1 (qa_c A1 (qa_c A1 A2))))))))))))) (qe_op q_mod (qe_op W7 (vi vdU) A1) A1)))
   (A5 (D1 (qe_ix (K:=K) (vi vdW) (qe_op q_mod (qe_op (q_add (K:=K)) (vi vdU) (qe_op q_mul (vi vdV) (vi vdX))) A1))))))),?_⟩
  obtain ⟨n,k,rfl,hk,q⟩:=h;have b9:=aoR n;have h2:=(sS n k).1;rw [<- SS_eq] at h2;walk_at "rd";refine ⟨aop,by decide,fun p np=>⟨_,.inl (.of A3),_,(xV n).1,?_⟩⟩;walk_at "rd";exact ⟨.inr ⟨by lia,by lia⟩,aq7,_,h2,q _ (Same.new np)⟩
theorem sc_l_pool:FnScope ["_law_script", "_law_number_here"] ["_law_script"] (C1 lH):=E7
abbrev amI:List Str:=["_law_script", "_law_number_here"]
theorem vd0:VS amI lH "_law_script" 0:=vq
theorem vd1:LS lH "_law_number_here":=lq
theorem ala(F:FunD K "_law_pool" "_law_pool" lH f fd)(T:Txt P w K mg C)(G_l_number:FO P w K mg base 1 "_law_number" ["_law_script", "_law_k"] [] (iB K))(G_l_sign:FO P w K mg base 1 "_law_sign" ["_law_cell", "_law_k"] [] spSg8):FnOk P w K mg base E1 2 f fd ["_law_script"] (akY K 10):=by
 refine F.ok sc_l_pool ?_ ?_
 .rintro _ _ _ _ ⟨a,ns,rfl,_⟩;rfl
 .intro cdv A outer s H vs Q E hr h;have B5:=hu_of hr;have hu:=hr.units;refine ⟨_,QSs.out (A4 (C4 (n:=1) sc_l_pool.nd rfl vd1 (C9 G_l_number (hm hr) (qa_c (vi vd0) (qa_c A1 A2))))
   (A5 (D1 (g7  (V5:CompOk ["_law_script", "_law_number_here"] (C1 lH).names _ ["_law_k", "_law_number_here"] 1 [1]) (qi_r1 T.b_range (qa_c A1 A2)) (fun _ _ _ _ _=>D3 (n:=0) (show List.Nodup (["_law_k", "_law_number_here"]:List Str) by decide +kernel) rfl (Or.inl rfl)) (fun _ _ _ _ _=>k9) (fun _ _ _ _ _=>(C9 G_l_sign (hm hr) (qa_c (qv 1) (qa_c (qv 0) A2)))))))),?_⟩
  obtain ⟨a,ns,rfl,hS,q⟩:=h;walk_at "rd";refine ⟨a,ns,0,rfl,hS,by decide,?_⟩;walk_at "rd";generalize numF ns 0=n at *;refine ⟨by decide,by decide,compR [some (.int n)] rfl (fun D i ys H2=>Same H H2/\ys=(poolL n i).map V.str) (fun D nD=>⟨Same.new nD,rfl⟩) ?_ ?_⟩
  .rintro D i ys H2 nD hi ⟨S,rfl⟩ hD hy;walk_at "rd";refine ⟨n,_,rfl,by lia,fun H3 S3=>⟨S3 _ _ hD,by unfold poolL;rw [A6,A6,List.length_range];exact L6 (by have:i<10:=hi;lia),CW.put hi hy ⟨(S.trans S3).put nD,?_⟩⟩⟩;unfold poolL;rw [List.range_succ,D0,D0,aT];rfl
  rintro p ys H1 np ⟨S1,rfl⟩ hp _;exact q p H1 np S1 hp
theorem sc_l_digits:FnScope ["_law_script", "_law_digits_here", "_law_k"] ["_law_script"] (C1 fE):=E7
abbrev zF:List Str:=["_law_script", "_law_digits_here", "_law_k"]
theorem vd2:VS zF fE "_law_script" 0:=vq
theorem vd3:VS zF fE "_law_digits_here" 1:=vq
theorem vd4:VS zF fE "_law_k" 2:=vq
theorem vd5:LS fE "_law_digits_here":=lq
theorem vd6:LS fE "_law_k":=lq
theorem ahG(F:FunD K "_law_digits" "_law_digits" fE f fd)(T:Txt P w K mg C)(G_l_number:FO P w K mg base 1 "_law_number" ["_law_script", "_law_k"] [] (iB K)):FnOk P w K mg base E1 2 f fd ["_law_script"] (anh K 6):=by
 refine F.ok sc_l_digits ?_ ?_
 .rintro _ _ _ _ ⟨a,ns,rfl,_⟩;rfl
 .intro cdv A outer s H vs Q E hr h;have B5:=hu_of hr;have hu:=hr.units;refine ⟨_,QSs.out (A4 (C4 (n:=1) sc_l_digits.nd rfl vd5 (R7 A2))
   (A4 (N0 PassesOwn.never (qi_r1 T.b_range (qa_c A1 A2)) (D3 (n:=2) sc_l_digits.nd rfl vd6 (.inl rfl)) (A5 (R9 (qe_mB (K:=K) W3 g0 f9 g8 (vi vd3) (qa_c (C9 G_l_number (hm hr) (qa_c (vi vd2) (qa_c (qe_op (q_add (K:=K)) A1 (vi vd4)) A2))) A2)))))
   (A5 (D1 (vi vd3))))),?_⟩
  obtain ⟨a,ns,rfl,hS,q⟩:=h;walk_at "rd";intro p np;refine ⟨by decide,by decide,forRs (fun i Y H2=>∃ (u:Option V) (ds:List Int),Y=[some (.ref a),some (.ref p),u]/\Same H H2/\H2 p=some (.lst (ds.map V.int))/\ds.length=i) ⟨none,[],rfl,Same.new np,A3,rfl⟩ ?_ ?_⟩
  .rintro P' Bk hP i Y H2 hi ⟨u,ds,rfl,S,hp,hl⟩;have hi8:i<6:=hi;walk_at "rd";exact ⟨V2 hp,a,ns,_,rfl,S.seq hS,by lia,appOk hp (by rw [A6];exact L6 'a') (hP _ _ _ ⟨_,ds++[_],rfl,S.put np,by rw [A3,D0];rfl,by rw [D6,hl];rfl⟩)⟩
  rintro Y H2 ⟨u,ds,rfl,S,hp,hl⟩;walk_at "rd";exact q p H2 ds np S hp hl
theorem sc_l_row:FnScope ["_law_pool_here", "_law_digits_here", "_law_turned", "_law_row_here", "_law_k", "_law_at"] ["_law_pool_here", "_law_digits_here", "_law_turned"] (C1 m5):=E7
abbrev lS:List Str:=["_law_pool_here", "_law_digits_here", "_law_turned", "_law_row_here", "_law_k", "_law_at"]
theorem vd7:VS lS m5 "_law_pool_here" 0:=vq
theorem vd8:VS lS m5 "_law_digits_here" 1:=vq
theorem zG:VS lS m5 "_law_turned" 2:=vq
theorem lT:VS lS m5 "_law_row_here" 3:=vq
theorem zH:VS lS m5 "_law_k" 4:=vq
theorem vec:VS lS m5 "_law_at" 5:=vq
theorem ved:LS m5 "_law_turned":=lq
theorem vee:LS m5 "_law_row_here":=lq
theorem vef:LS m5 "_law_k":=lq
theorem veg:LS m5 "_law_at":=lq
theorem amJ(F:FunD K "_law_row" "_law_row" m5 f fd)(T:Txt P w K mg C):FnOk P w K mg base E1 1 f fd ["_law_pool_here", "_law_digits_here", "_law_turned"] (ani K 6 10):=by
 refine F.ok sc_l_row ?_ ?_
 .rintro _ _ _ _ ⟨p,d,t,n,ds,rfl,_⟩;rfl
 .intro cdv A outer s H vs Q E hr h;have B5:=hu_of hr;have hu:=hr.units;refine ⟨_,QSs.out (A4 (C4 (n:=3) sc_l_row.nd rfl vee (M9 (K:=K) (vi vd7) (L1 A1) (L1 A1)))
   (A4 (N0 PassesOwn.never (qi_r1 T.b_range (qa_c A1 A2)) (D3 (n:=4) sc_l_row.nd rfl vef (.inl rfl)) (A5 (qs_if (E2 (q_eq (K:=K) hu) (qe_op q_mod (qe_ix (K:=K) (vi vd8) (vi zH)) A1) A1) (A4 (C4 (n:=5) sc_l_row.nd rfl veg (qe_op q_mod (qe_op W7 (qe_ix (K:=K) (vi vd8) (vi zH)) A1) (qe_op (q_add (K:=K)) (qe_cB (q_len (K:=K)) T.b_len W6 (qa_c (vi lT) A2)) A1)))
   (A5 (C4 (n:=3) sc_l_row.nd rfl vee (qe_op (q_add (K:=K)) (qe_op (q_add (K:=K)) (M9 (K:=K) (vi lT) Q3 (L1 (vi vec))) (R7 (qa_c (qe_ix (K:=K) (vi vd7) (vi zH)) A2))) (M9 (K:=K) (vi lT) (L1 (vi vec)) Q3))))) G5)))
   (A4 (C4 (n:=2) sc_l_row.nd rfl ved (qe_op q_mod (vi zG) (qe_cB (q_len (K:=K)) T.b_len W6 (qa_c (vi lT) A2))))
   (A5 (D1 (qe_op (q_add (K:=K)) (M9 (K:=K) (vi lT) (L1 (vi zG)) Q3) (M9 (K:=K) (vi lT) Q3 (L1 (vi zG))))))))),?_⟩
  obtain ⟨p,d,t,n,ds,rfl,hp,hd,bS,q⟩:=h;walk_at "rd";refine rSlR.l (.of hp) fun l1 n1=>?_
  rw [show cutV ((poolL n 10).map V.str) (some 6) (some 8)=[p8 n 6,p8 n 7].map V.str from rfl];have S1:Same H (A0 H l1 (.lst ([p8 n 6,p8 n 7].map V.str))):=Same.new n1;have h1:A0 H l1 (.lst ([p8 n 6,p8 n 7].map V.str)) l1=some (.lst ([p8 n 6,p8 n 7].map V.str)):=A3;generalize A0 H l1 (.lst ([p8 n 6,p8 n 7].map V.str))=H1 at S1 h1;clear n1;refine ⟨by decide,by decide,forRs (fun i Y H2=>∃ (u v:Option V) (l:Addr) (ls:List Str),(Y=[some (.ref p),some (.ref d),some (.int t),some (.ref l),u,v]/\Same H H2)/\H2 l=some (.lst (ls.map V.str))/\Row8 n 6 i ds ls) ⟨none,none,l1,_,⟨rfl,S1⟩,h1,uab (by decide)⟩ ?_ ?_⟩
  .clear S1 h1;rintro P' Bk hP i Y H2 hi ⟨u,v,l,ls,⟨rfl,S⟩,hl,hr⟩;have gC:i<6:=hi;have ad:F8 (ds.map V.int) (0+(i:Int))=some (V.int (ds.getD i 0)):=by rw [aT];exact J9 (by rw [R6,aK,J5 'a'];rfl)
   have ap:F8 ((poolL n 10).map V.str) (0+(i:Int))=some (V.str (p8 n i)):=by rw [aT];exact J9 (by rw [R6,ain 'a'];rfl)
   have hle:=hr.le;walk_at "rd";refine ⟨_,.inl (.of (S _ _ hd)),_,ad,?_⟩;walk_at "rd";refine iteD (fun h0=>?_) fun h0=>hP _ _ _ ⟨_,_,l,ls,⟨rfl,S⟩,hl,hr.no h0⟩
   refine ⟨_,.inl (.of (S _ _ hd)),_,ad,?_⟩;walk_at "rd";refine ⟨ls.length,.inl ⟨_,.of hl,by rw [A6]⟩,by lia,?_⟩;obtain ⟨j,hj,hjl⟩:∃ j:Nat,ds.getD i 0 / 12 % ((ls.length:Int)+1)=j/\j<=ls.length:=by
    have h1:=Int.emod_nonneg (ds.getD i 0 / 12) (show ((ls.length:Int)+1)≠0 by lia);have h2:=nG (ds.getD i 0 / 12) (show (0:Int)<(ls.length:Int)+1 by lia);exact ⟨(ds.getD i 0 / 12 % ((ls.length:Int)+1)).toNat,by lia,by lia⟩
   rw [hj];refine rSlR.l (.of hl) fun l3 n3=>?_
   rw [aX,<- v7];have S3:=S.trans (Same.new (u:=HO.lst ((ls.take j).map V.str)) n3);have hl3:=C8 (u:=HO.lst ((ls.take j).map V.str)) hl n3;have h3:A0 H2 l3 (.lst ((ls.take j).map V.str)) l3=some (.lst ((ls.take j).map V.str)):=A3;generalize A0 H2 l3 (.lst ((ls.take j).map V.str))=H3 at S3 h3 hl3;refine ⟨_,.inl (.of (S3 _ _ hp)),_,ap,by decide,fun l4 n4=>?_⟩;walk_at "rd";refine rAddR.l (C8 h3 n4) A3 (by simp only [A6,F7,X2];exact L9 'a') fun l5 n5=>?_
   have S5:Same H3 (A0 (A0 H3 l4 (.lst [V.str (p8 n i)])) l5 (.lst ((ls.take j).map V.str++[V.str (p8 n i)]))):=(Same.new n4).trans (Same.new n5);have h5:A0 (A0 H3 l4 (.lst [V.str (p8 n i)])) l5 (.lst ((ls.take j).map V.str++[V.str (p8 n i)])) l5=some (.lst ((ls.take j++[p8 n i]).map V.str)):=by rw [A3,D0];rfl
   generalize A0 (A0 H3 l4 (.lst [V.str (p8 n i)])) l5 (.lst ((ls.take j).map V.str++[V.str (p8 n i)]))=H5 at S5 h5;refine rSlR.l (.of (S5 _ _ hl3)) fun l7 n7=>?_
   rw [x6,<- cD];walk_at "rd";refine rAddR.l (C8 h5 n7) A3 (by simp only [A6,D6,F7,k5,X2];exact L9 'a') fun l8 n8=>?_
   refine hP _ _ _ ⟨_,_,l8,ls.take j++[p8 n i]++ls.drop j,⟨rfl,(S3.trans S5).trans ((Same.new n7).trans (Same.new n8))⟩,by rw [A3,<- D0],hr.yes (by decide) gC h0 ?_⟩
   have:=List.perm_middle (a:=p8 n i) (l₁:=ls.take j) (l₂:=ls.drop j)
   rw [e8] at this;rw [X3];exact this
  rintro Y H2 ⟨u,v,l,ls,⟨rfl,S⟩,hl,hr⟩;have hle:ls.length<=2+6:=hr.le;have h0:0<ls.length:=qX ((hr.mm _).mpr (.inl rfl));walk_at "rd";refine ⟨ls.length,.inl ⟨_,.of hl,by rw [A6]⟩,by lia,?_⟩;obtain ⟨j,hj,hjl⟩:∃ j:Nat,t % (ls.length:Int)=j/\j<=ls.length:=by
   have h1:=Int.emod_nonneg t (show (ls.length:Int)≠0 by lia);have h2:=nG t (show (0:Int)<(ls.length:Int) by lia);exact ⟨(t % (ls.length:Int)).toNat,by lia,by lia⟩
  rw [hj];refine rSlR.l (.of hl) fun l3 n3=>?_
  rw [x6,<- cD];refine rSlR.l (.of (C8 hl n3)) fun l4 n4=>?_
  rw [aX,<- v7];walk_at "rd";refine rAddR.l (C8 A3 n4) A3 (by simp only [A6,F7,k5];exact L9 'a') fun l5 n5=>?_
  rw [<- D0];have S5:=S.trans (((Same.new n3).trans (Same.new n4)).trans (Same.new (u:=HO.lst ((ls.drop j++ls.take j).map V.str)) n5));refine q l5 _ (ls.drop j++ls.take j) (S.free ((Same.new n3).free ((Same.new n4).free n5))) S5 A3 (hr.perm ?_)
  have:=List.perm_append_comm (l₁:=ls.drop j) (l₂:=ls.take j)
  rw [e8] at this;exact this
theorem sc_l_made:FnScope ["_law_pool_here", "_law_digits_here", "_law_shape", "_law_row_here", "_law_marks", "_law_rules", "_law_table", "_law_k", "_law_forms", "_law_group", "_law_base", "_law_parts"] ["_law_pool_here", "_law_digits_here", "_law_shape"] (C1 P8):=E7
abbrev t9:List Str:=["_law_pool_here", "_law_digits_here", "_law_shape", "_law_row_here", "_law_marks", "_law_rules", "_law_table", "_law_k", "_law_forms", "_law_group", "_law_base", "_law_parts"]
theorem u7:VS t9 P8 "_law_pool_here" 0:=vq
theorem pF:VS t9 P8 "_law_digits_here" 1:=vq
theorem pG:VS t9 P8 "_law_shape" 2:=vq
theorem zI:VS t9 P8 "_law_row_here" 3:=vq
theorem vel:VS t9 P8 "_law_marks" 4:=vq
theorem pH:VS t9 P8 "_law_rules" 5:=vq
theorem lU:VS t9 P8 "_law_table" 6:=vq
theorem bJ:VS t9 P8 "_law_k" 7:=vq
theorem zJ:VS t9 P8 "_law_forms" 8:=vq
theorem tP:VS t9 P8 "_law_group" 9:=vq
theorem tQ:VS t9 P8 "_law_base" 10:=vq
theorem ves:VS t9 P8 "_law_parts" 11:=vq
theorem vet:LS P8 "_law_row_here":=lq
theorem veu:LS P8 "_law_marks":=lq
theorem vev:LS P8 "_law_rules":=lq
theorem vew:LS P8 "_law_table":=lq
theorem vex:LS P8 "_law_k":=lq
theorem vey:LS P8 "_law_forms":=lq
theorem vez:LS P8 "_law_group":=lq
theorem veA:LS P8 "_law_base":=lq
theorem veB:LS P8 "_law_parts":=lq
theorem alb(F:FunD K "_law_made" "_law_made" P8 f fd)(T:Txt P w K mg C)(G_Order___init__:KO P w K mg base 5 C "Order" ["self", "rules"] (sH C))(G_l_row:FO P w K mg base 1 "_law_row" ["_law_pool_here", "_law_digits_here", "_law_turned"] [] (ani K 6 10)):FnOk P w K mg base E1 7 f fd ["_law_pool_here", "_law_digits_here", "_law_shape"] (akZ C 6 10):=by
 refine F.ok sc_l_made ?_ ?_
 .rintro _ _ _ _ ⟨p,d,s',n,s0,s1,s2,ds,rfl,_⟩;rfl
 .intro cdv A outer s H vs Q E hr h;have B5:=hu_of hr;have hu:=hr.units;refine ⟨_,QSs.out (A4 (C4 (n:=3) sc_l_made.nd rfl vet (C9 G_l_row (hm hr) (qa_c (vi u7) (qa_c (vi pF) (qa_c (qe_ix (K:=K) (vi pG) A1) A2)))))
   (A4 (C4 (n:=4) sc_l_made.nd rfl veu (R7 (qa_c (qe_ix (K:=K) (vi u7) (qe_op (q_add (K:=K)) A1 (qe_ix (K:=K) (vi pG) A1))) (qa_c (qe_ix (K:=K) (vi u7) (qe_op q_sub A1 (qe_ix (K:=K) (vi pG) A1))) A2))))
   (cO (C4 (n:=5) sc_l_made.nd rfl vev (R7 (qa_c (qe_op (q_add (K:=K)) (F9 (qa_c M5 A2)) (qe_cT (nZ (K:=K)) T.b_tuple nR (qa_c (vi zI) A2))) (qa_c (qe_op (q_add (K:=K)) (F9 (qa_c M5 A2)) (qe_cT (nZ (K:=K)) T.b_tuple nR (qa_c (vi vel) A2))) A2))))
   (A4 (C4 (n:=6) sc_l_made.nd rfl vew gX)
   (A4 (N0 PassesOwn.never (qi_r1 T.b_range (qa_c (qe_cB (q_len (K:=K)) T.b_len W6 (qa_c (vi zI) A2)) A2)) (D3 (n:=7) sc_l_made.nd rfl vex (.inl rfl)) (A5 (r0 B5 (vi lU) (qe_ix (K:=K) (vi zI) (vi bJ)) (F9 (qa_c (vi bJ) (qa_c (F9 A2) (qa_c A1 A2)))))))
   (A4 (C4 (n:=8) sc_l_made.nd rfl vey (R7 (qa_c A1 (qa_c A1 A2))))
   (A4 (N0 PassesOwn.never (qi_r1 T.b_range (qa_c A1 A2)) (D3 (n:=7) sc_l_made.nd rfl vex (.inl rfl)) (A4 (C4 (n:=9) sc_l_made.nd rfl vez (qe_op q_mod (qe_op W7 (qe_ix (K:=K) (vi pF) (vi bJ)) A1) A1))
   (A4 (C4 (n:=10) sc_l_made.nd rfl veA (qe_ix (K:=K) (vi u7) (qe_op (q_add (K:=K)) A1 (vi tP))))
   (cO (C4 (n:=11) sc_l_made.nd rfl veB (qe_ix (K:=K) (R7 (qa_c (F9 A2) (qa_c (F9 A2) (qa_c (F9 A2) (qa_c (F9 (qa_c (qe_ix (K:=K) (vi u7) A1) A2)) (qa_c (F9 (qa_c (qe_ix (K:=K) (vi u7) A1) A2)) (qa_c (F9 (qa_c (qe_ix (K:=K) (vi u7) A1) (qa_c (qe_ix (K:=K) (vi u7) A1) A2))) A2))))))) (qe_op q_mod (qe_ix (K:=K) (vi pF) (vi bJ)) A1)))
   (A5 (qs_if (E2 (q_eq (K:=K) hu) (qe_op q_mod (qe_ix (K:=K) (vi pF) (vi bJ)) A1) A1) (A4 (gY (qe_op (q_add (K:=K)) (qe_ix (K:=K) (vi zJ) (vi tP)) A1) (sB (vi zJ) (vi tP)))
   (A4 (R9 (qe_mB (K:=K) W3 g0 f9 g8 (vi pH) (qa_c (F9 (qa_c M5 (qa_c (vi tQ) (qa_c (qe_ix (K:=K) (vi u7) (vi bJ)) A2)))) A2)))
   (A5 (r0 B5 (vi lU) (qe_ix (K:=K) (vi u7) (vi bJ)) (F9 (qa_c (qe_ix (K:=K) (g6 B5 (vi lU) (vi tQ)) A1) (qa_c (F9 A2) (qa_c (qe_ix (K:=K) (vi zJ) (vi tP)) A2)))))))) (A5 (qs_if (E2 (q_ne (K:=K) hu) (qe_op q_mod (qe_ix (K:=K) (vi pF) (vi bJ)) A1) A1) (A4 (R9 (qe_mB (K:=K) W3 g0 f9 g8 (vi pH) (qa_c (qe_op (q_add (K:=K)) (F9 (qa_c M5 (qa_c (qe_ix (K:=K) (vi u7) (vi bJ)) (qa_c (vi tQ) A2)))) (vi ves)) A2)))
   (A5 (r0 B5 (vi lU) (qe_ix (K:=K) (vi u7) (vi bJ)) (F9 (qa_c (qe_ix (K:=K) (g6 B5 (vi lU) (vi tQ)) A1) (qa_c (qe_cT (nZ (K:=K)) T.b_tuple nR (qa_c (g7  (V5:CompOk ["_law_pool_here", "_law_digits_here", "_law_shape", "_law_row_here", "_law_marks", "_law_rules", "_law_table", "_law_k", "_law_forms", "_law_group", "_law_base", "_law_parts"] (C1 P8).names _ ["_law_mark", "_law_marks"] 1 [4]) (eT (K:=K) (vi ves)) (fun _ _ _ _ _=>D3 (n:=0) (show List.Nodup (["_law_mark", "_law_marks"]:List Str) by decide +kernel) rfl (Or.inl rfl)) (fun _ _ _ _ _=>k9) (fun _ _ _ _ _=>(qe_mB (K:=K) W3 PySem.F.slot_list_index PySem.F.type_list_index amk (qv 1) (qa_c (qv 0) A2)))) A2)) (qa_c A1 A2))))))) G5))))))))
   (cO (qs_if (E2 (q_eq (K:=K) hu) (qe_ix (K:=K) (vi pG) A1) A1) (A5 (R9 (qe_mB (K:=K) W3 g0 f9 g8 (vi pH) (qa_c (F9 (qa_c M5 A2)) A2)))) G5)
   (A5 (D1 (F9 (qa_c (aoy G_Order___init__ (hm hr) (qa_c (qe_op (q_add (K:=K)) (M9 (K:=K) (vi pH) (L1 A1) Q3) (M9 (K:=K) (vi pH) Q3 (L1 A1))) A2)) (qa_c (vi lU) (qa_c (k8 (q_eq (K:=K) hu) (qe_ix (K:=K) (vi pG) A1) A1) A2)))))))))))))),?_⟩
  obtain ⟨p,d,s',n,s0,s1,s2,ds,rfl,hp,hd,hs,bS,hs1,q⟩:=h;have at_:∀ k:Nat,k<10->F8 ((poolL n 10).map V.str) (k:Int)=some (V.str (p8 n k)):=fun k hk=>J9 (by rw [R6,ain hk];rfl)
  obtain ⟨g1,dM⟩:∃ g:Nat,s1=g:=⟨s1.toNat,by lia⟩
  subst dM;have hg2:g1<=1:=by lia
  have am:∃ ms:List Str,lK n 6 ms/\∀ H1:Hp,[V.str (p8 n (8+g1)),V.str (p8 n (9-g1))]=ms.map V.str:=by
   rcases (show g1=0\/g1=1 by lia) with rfl | rfl
   .exact ⟨[p8 n 8,p8 n 9],.inl rfl,fun _=>rfl⟩
   .exact ⟨[p8 n 9,p8 n 8],.inr rfl,fun _=>rfl⟩
  obtain ⟨ms,fR,ems⟩:=am;walk_at "rd";refine ⟨_,.inl (.of hs),V.int s0,M3 _ _,p,d,s0,n,ds,rfl,hp,hd,bS,fun rw_ H1 ls nrw S1 hrw hr=>⟨_,.inl (.of (S1 _ _ hs)),V.int g1,J9 (j:=1) rfl,?_⟩⟩;walk_at "rd";refine ⟨_,.inl (.of (S1 _ _ hp)),V.str (p8 n (8+g1)),by rw [show (8:Int)+(g1:Int)=((8+g1:Nat):Int) by lia];exact at_ _ 'a',_,.inl (.of (S1 _ _ hs)),V.int g1,J9 (j:=1) rfl,_,rfl,_,.inl (.of (S1 _ _ hp)),V.str (p8 n (9-g1)),by rw [show (9:Int)-(g1:Int)=((9-g1:Nat):Int) by lia];exact at_ _ 'a',by decide,fun mk nmk=>?_⟩;rw [ems H1];have S2:=S1.trans (Same.new (u:=HO.lst (ms.map V.str)) nmk);have dZ:=C8 (u:=HO.lst (ms.map V.str)) hrw nmk;have jL:A0 H1 mk (.lst (ms.map V.str)) mk=some (.lst (ms.map V.str)):=A3;generalize A0 H1 mk (.lst (ms.map V.str))=H2 at S2 dZ jL;clear nmk nrw hrw S1 H1;have hle:ls.length<=2+6:=hr.le;have hlne:ls≠[]:=fun e=>by have:=(hr.mm (p8 n 6)).mpr (.inl rfl);rw [e] at this;cases this
  have qP:ms.length=2:=by rcases fR with rfl | rfl <;> rfl
  refine midS (fun Y H3=>∃ rl:Addr,(Y=[some (.ref p),some (.ref d),some (.ref s'),some (.ref rw_),some (.ref mk),some (.ref rl),none,none,none,none,none,none]/\Same H2 H3)/\H2 rl=none/\T8 H3 rl [(("row" : Str),ls),(("marks" : Str),ms)]) ?_ ?_
  .intro M' hM';walk_at "rd";refine ⟨by decide,fun p1 n1=>rTupR.l (.of (C8 dZ n1)) fun p2 n2=>?_⟩;walk_at "rd";refine rAddR.t (.of (C8 A3 n2)) (.of A3) 'c' (by simp only [A6,L0,Z6];exact L9 'a') (fun e=>absurd (List.map_eq_nil_iff.mp e) hlne) fun _ p3 n3=>?_
   have S3:Same H2 (A0 (A0 (A0 H2 p1 (.tup [V.str (Str.ofString "row")])) p2 (.tup (ls.map V.str))) p3 (.tup ([V.str (Str.ofString "row")]++ls.map V.str))):=((Same.new n1).trans (Same.new n2)).trans (Same.new n3);have h3:A0 (A0 (A0 H2 p1 (.tup [V.str (Str.ofString "row")])) p2 (.tup (ls.map V.str))) p3 (.tup ([V.str (Str.ofString "row")]++ls.map V.str)) p3=some (tupR (("row" : Str),ls)):=A3;generalize A0 (A0 (A0 H2 p1 (.tup [V.str (Str.ofString "row")])) p2 (.tup (ls.map V.str))) p3 (.tup ([V.str (Str.ofString "row")]++ls.map V.str))=H3 at S3 h3;refine ⟨by decide,fun p4 n4=>rTupR.l (.of (C8 (S3 _ _ jL) n4)) fun p5 n5=>?_⟩;walk_at "rd";refine rAddR.t (.of (C8 A3 n5)) (.of A3) 'c' (by simp only [A6,L0,Z6];exact L9 'a') (fun e=>by rw [List.map_eq_nil_iff.mp e] at qP;cases qP) fun _ p6 n6=>⟨by decide,fun rl nrl=>?_⟩
   have S6:Same H3 (A0 (A0 (A0 H3 p4 (.tup [V.str (Str.ofString "marks")])) p5 (.tup (ms.map V.str))) p6 (.tup ([V.str (Str.ofString "marks")]++ms.map V.str))):=((Same.new n4).trans (Same.new n5)).trans (Same.new n6);have h6:A0 (A0 (A0 H3 p4 (.tup [V.str (Str.ofString "marks")])) p5 (.tup (ms.map V.str))) p6 (.tup ([V.str (Str.ofString "marks")]++ms.map V.str)) p6=some (tupR (("marks" : Str),ms)):=A3;generalize A0 (A0 (A0 H3 p4 (.tup [V.str (Str.ofString "marks")])) p5 (.tup (ms.map V.str))) p6 (.tup ([V.str (Str.ofString "marks")]++ms.map V.str))=H6 at S6 h6 nrl;exact hM' _ _ ⟨rl,⟨rfl,(S3.trans S6).trans (Same.new nrl)⟩,(S3.trans S6).free nrl,[p3,p6],A3,.cons (C8 (S6 _ _ h3) nrl) (.cons (C8 h6 nrl) .nil)⟩
  rintro Y H3 ⟨rl,⟨rfl,S3⟩,nrl,hR⟩;walk_at "rd";intro tb ntb;have ntb2:H2 tb=none:=S3.free ntb;refine ⟨ls.length,.inl ⟨_,.of (C8 (S3 _ _ dZ) ntb),by rw [A6]⟩,by lia,by lia,?_⟩;rw [Int.toNat_natCast];refine forRs (fun i Y H4=>∃ (u:Option V) (ks:List Str),(Y=[some (.ref p),some (.ref d),some (.ref s'),some (.ref rw_),some (.ref mk),some (.ref rl),some (.ref tb),u,none,none,none,none]/\Same H2 H4)/\T8 H4 rl [(("row" : Str),ls),(("marks" : Str),ms)]/\IsTb (y7 n 6 ds ls ms) H4 tb ks/\ks.length<=i/\∀ y∈ls.take i,y∈ks) ⟨none,[],⟨rfl,S3.trans (Same.new ntb)⟩,hR.same (Same.new ntb),⟨fun _=>tb,fun _=>tb,fun _=>(0,[],0),A3,fun y hy=>by cases hy⟩,C3 _,by simp⟩ ?_ ?_
  .clear S3 hR ntb H3;rintro P' Bk hP i Y H4 hi ⟨u,ks,⟨rfl,S4⟩,hR,hT,o0,Z4⟩;have hy:ls[i]?=some ls[i]:=J5 hi;have ar:F8 (ls.map V.str) (0+(i:Int))=some (V.str ls[i]):=by rw [aT];exact J9 (by rw [R6,hy];rfl)
   have hidx:ls.idxOf ls[i]=i:=hr.nd.idxOf_getElem i hi;walk_at "rd";intro p1 n1;refine newQ (A0 _ _ (.tup [])) (Same.new n1) A3 fun K1 S5 e1=>?_
   refine ⟨by decide,fun p2 n2=>?_⟩;refine newQ (A0 _ _ (.tup [V.int (0+(i:Int)),V.ref p1,V.int 0])) (Same.new n2) A3 fun K2 S6 e2=>?_
   refine ⟨_,.inl (.of (((S4.trans S5).trans S6) _ _ dZ)),_,ar,?_⟩;have gD:=S5.trans S6;obtain ⟨kvs,U7,_⟩:=(hT.same gD).top;obtain ⟨x,h1,h2,o,rfl⟩:=(hT.same gD).put (l:=ls[i]) (p:=p2) (q:=p1) (e:=((ls.idxOf ls[i]:Int),[],0)) 'a' (.inl ⟨cC hi,rfl⟩) ⟨by rw [hidx];rw [aT] at e2;exact e2,S6 _ _ e1⟩;refine ⟨_,h1,hP _ _ _ ⟨_,_,⟨rfl,(S4.trans gD).put ntb2⟩,(hR.same gD).putD U7,h2,N5 (yC _ _) 'a',fun y aD=>?_⟩⟩;rw [M6 hy] at aD;rw [dd_mem]
   rcases E8.mp aD with h | h
   .exact .inl (Z4 y h)
   .exact .inr (E5.mp h)
  clear S3 hR ntb H3;rintro Y H3 ⟨u,ks,⟨rfl,S3⟩,hR,hT,o0,Z4⟩;rw [L7] at Z4;walk_at "rd";refine ⟨by decide,fun fo nfo=>⟨by decide,by decide,?_⟩⟩;have nfo2:H2 fo=none:=S3.free nfo;have I0:MdI H2 (A0 H3 fo (.lst [.int 0,.int 0])) rl tb fo (y7 n 6 ds ls ms) ks ([(("row" : Str),ls),(("marks" : Str),ms)]++X8 n 6 ds 0) (P0 n 6 ds 0 0) (P0 n 6 ds 0 1):=⟨S3.trans (Same.new nfo),hR.same (Same.new nfo),hT.same (Same.new nfo),A3,fun e=>by obtain ⟨ts,hR⟩:=hR;have:=hR.top;rw [<- e,nfo] at this;cases this⟩
  refine forRs (fun i Y H4=>∃ (u v w r:Option V) (ks:List Str),(Y=[some (.ref p),some (.ref d),some (.ref s'),some (.ref rw_),some (.ref mk),some (.ref rl),some (.ref tb),u,some (.ref fo),v,w,r]/\MdI H2 H4 rl tb fo (y7 n 6 ds ls ms) ks ([(("row" : Str),ls),(("marks" : Str),ms)]++X8 n 6 ds i) (P0 n 6 ds i 0) (P0 n 6 ds i 1))/\ks.length<=2+6+i/\(∀ y∈ls,y∈ks)/\∀ k<i,¬ ds.getD k 0 % 6=0->p8 n k∈ks) ⟨u,none,none,none,ks,⟨rfl,I0⟩,by lia,Z4,fun k hk=>absurd hk (Nat.not_lt_zero k)⟩ ?_ ?_
  .clear I0 S3 hR hT o0 Z4 nfo H3 u ks;rintro P' Bk hP i Y H4 hi ⟨u,v,w,r,ks,⟨rfl,I⟩,o0,Z4,uR⟩;have gC:i<6:=hi;obtain ⟨D,hD⟩:∃ D,ds.getD i 0=D:=⟨_,rfl⟩
   have ad:F8 (ds.map V.int) (0+(i:Int))=some (V.int D):=by rw [aT,<- hD];exact J9 (by rw [R6,aK,J5 'a'];rfl)
   have ap:F8 ((poolL n 10).map V.str) (0+(i:Int))=some (V.str (p8 n i)):=by rw [aT];exact at_ i 'a'
   obtain ⟨g,hg⟩:∃ g:Nat,D / 6 % 2=g:=⟨(D / 6 % 2).toNat,by lia⟩
   have dM:g<=1:=by lia
   have mT:=bs8_g (n:=n) (m:=6) hg;have hbk:p8 n (6+g)∈ks:=Z4 _ (by rw [<- mT];rcases (show g=0\/g=1 by lia) with rfl | rfl <;> rw [mT,hr.mm] <;> simp);have S2':=S2;walk_at "rd";refine ⟨_,.inl (.of ((S2.trans I.same) _ _ hd)),_,ad,?_⟩;walk_at "rd";rw [hg];refine ⟨_,.inl (.of ((S2.trans I.same) _ _ hp)),V.str (p8 n (6+g)),by rw [show (6:Int)+(g:Int)=((6+g:Nat):Int) by lia];exact at_ _ 'a',?_⟩;refine midS (fun Y H5=>∃ pt:Addr,(Y=[some (.ref p),some (.ref d),some (.ref s'),some (.ref rw_),some (.ref mk),some (.ref rl),some (.ref tb),some (.int (0+(i:Int))),some (.ref fo),some (.int g),some (.str (p8 n (6+g))),some (.ref pt)]/\Same H4 H5)/\H5 pt=some (.tup ((prt8 n 6 (D % 6)).map V.str))) ?_ ?_
   .intro M' hM';have o6:=(S2.trans I.same) _ _ hp;have X1:=(S2.trans I.same) _ _ hd;walk_at "rd";intro p1 n1;refine newQ (A0 _ _ (.tup [])) (Same.new n1) A3 fun K1 T1 e1=>?_
    intro p2 n2;refine newQ (A0 _ _ (.tup [])) (Same.new n2) A3 fun K2 T2 e2=>?_
    intro p3 n3;refine newQ (A0 _ _ (.tup [])) (Same.new n3) A3 fun K3 T3 e3=>?_
    have T13:=T1.trans (T2.trans T3);refine ⟨_,.inl (.of (T13 _ _ o6)),_,at_ 8 (by decide),by decide,fun p4 n4=>?_⟩;refine newQ (A0 _ _ (.tup [V.str (p8 n 8)])) (Same.new n4) A3 fun K4 T4 e4=>?_
    refine ⟨_,.inl (.of ((T13.trans T4) _ _ o6)),_,at_ 9 (by decide),by decide,fun p5 n5=>?_⟩;refine newQ (A0 _ _ (.tup [V.str (p8 n 9)])) (Same.new n5) A3 fun K5 T5 e5=>?_
    have T15:=T13.trans (T4.trans T5);refine ⟨_,.inl (.of (T15 _ _ o6)),_,at_ 8 (by decide),_,.inl (.of (T15 _ _ o6)),_,at_ 9 (by decide),by decide,fun p6 n6=>?_⟩;refine newQ (A0 _ _ (.tup [V.str (p8 n 8),V.str (p8 n 9)])) (Same.new n6) A3 fun K6 T6 e6=>?_
    refine ⟨by decide,fun p7 n7=>?_⟩;refine newQ (A0 _ _ (.lst [V.ref p1,V.ref p2,V.ref p3,V.ref p4,V.ref p5,V.ref p6])) (Same.new n7) A3 fun K7 T7 e7=>?_
    have T17:=T15.trans (T6.trans T7);refine ⟨_,.inl (.of (T17 _ _ X1)),_,ad,?_⟩;walk_at "rd";have T27:=T2.trans (T3.trans (T4.trans (T5.trans (T6.trans T7))))
    rcases (show D % 6=0\/D % 6=1\/D % 6=2\/D % 6=3\/D % 6=4\/D % 6=5 by lia) with e | e | e | e | e | e <;> rw [e]
    .exact ⟨_,.inl (.of e7),V.ref p1,rfl,hM' _ _ ⟨p1,⟨rfl,T17⟩,by rw [e];exact T27 _ _ e1⟩⟩
    .exact ⟨_,.inl (.of e7),V.ref p2,rfl,hM' _ _ ⟨p2,⟨rfl,T17⟩,by rw [e];exact (T3.trans (T4.trans (T5.trans (T6.trans T7)))) _ _ e2⟩⟩
    .exact ⟨_,.inl (.of e7),V.ref p3,rfl,hM' _ _ ⟨p3,⟨rfl,T17⟩,by rw [e];exact (T4.trans (T5.trans (T6.trans T7))) _ _ e3⟩⟩
    .exact ⟨_,.inl (.of e7),V.ref p4,rfl,hM' _ _ ⟨p4,⟨rfl,T17⟩,by rw [e];exact (T5.trans (T6.trans T7)) _ _ e4⟩⟩
    .exact ⟨_,.inl (.of e7),V.ref p5,rfl,hM' _ _ ⟨p5,⟨rfl,T17⟩,by rw [e];exact (T6.trans T7) _ _ e5⟩⟩
    .exact ⟨_,.inl (.of e7),V.ref p6,rfl,hM' _ _ ⟨p6,⟨rfl,T17⟩,by rw [e];exact T7 _ _ e6⟩⟩
   rintro Y H5 ⟨pt,⟨rfl,S5⟩,mS⟩
   replace I:=I.more S5
   clear S5;have hRl:([(("row" : Str),ls),(("marks" : Str),ms)]++X8 n 6 ds i).length<=1000:=by rw [D6];have:=sT n 6 ds i;simp only [L0,Z6];lia
   have kdd:∀ k<i+1,¬ ds.getD k 0 % 6=0->p8 n k∈dd ks (p8 n i):=fun k hk h0=>by
    rw [dd_mem]
    by_cases e:k=i
    .exact .inr (by rw [e])
    .exact .inl (uR k 'a' h0)
   walk_at "rd";refine ⟨_,.inl (.of ((S2.trans I.same) _ _ hd)),_,ad,?_⟩;walk_at "rd";refine iteD (fun h2=>?_) fun h2=>?_
   .have fy:=fun g' (h:g'<=1)=>aoT (n:=n) (m:=6) (ds:=ds) (i:=i) (g:=g) (g':=g') (by decide) (by rw [hD];exact h2) (by rw [hD];exact hg) h
    have ag:F8 [V.int (P0 n 6 ds i 0:Nat),V.int (P0 n 6 ds i 1:Nat)] (g:Int)=some (V.int (P0 n 6 ds i g:Nat)):=by rcases (show g=0\/g=1 by lia) with rfl | rfl <;> rfl
    have ig:X4 2 (g:Int)=some g:=by rcases (show g=0\/g=1 by lia) with rfl | rfl <;> rfl
    have sg:[V.int (P0 n 6 ds i 0:Nat),V.int (P0 n 6 ds i 1:Nat)].set g (V.int ((P0 n 6 ds i g:Nat)+1))=[V.int (P0 n 6 ds (i+1) 0:Nat),V.int (P0 n 6 ds (i+1) 1:Nat)]:=by
     rw [fy 0 (by decide),fy 1 (by decide)]
     rcases (show g=0\/g=1 by lia) with rfl | rfl <;> rfl
    have ag':F8 [V.int (P0 n 6 ds (i+1) 0:Nat),V.int (P0 n 6 ds (i+1) 1:Nat)] (g:Int)=some (V.int ((P0 n 6 ds i g+1:Nat):Int)):=by
     have:=fy g dM
     rw [if_pos rfl] at this;rw [<- this]
     rcases (show g=0\/g=1 by lia) with rfl | rfl <;> rfl
    have ex:X8 n 6 ds (i+1)=X8 n 6 ds i++[(("great" : Str),[p8 n (6+g),p8 n i])]:=by rw [fH,hD];unfold Q9;rw [if_neg 'a',if_pos h2,mT]
    refine ⟨_,.inl (.of I.fm),_,ag,?_⟩;walk_at "rd";refine ⟨_,I.fm,g,ig,?_⟩;rw [sg];have I1:=I.form (b0:=P0 n 6 ds (i+1) 0) (b1:=P0 n 6 ds (i+1) 1) nfo2;generalize A0 H5 fo (.lst [V.int (P0 n 6 ds (i+1) 0:Nat),V.int (P0 n 6 ds (i+1) 1:Nat)])=K1 at I1;obtain ⟨ts,hR1⟩:=id I1.ru;refine ⟨V2 hR1.top,_,.inl (.of ((S2.trans I1.same) _ _ hp)),_,ap,by decide,fun p1 n1=>?_⟩;refine newQ (A0 _ _ (.tup [V.str (Str.ofString "great"),V.str (p8 n (6+g)),V.str (p8 n i)])) (Same.new n1) A3 fun K2 T2 e2=>?_
    obtain ⟨xs,a1,a2,I2⟩:=(I1.more T2).rule (z:=(("great" : Str),[p8 n (6+g),p8 n i])) nrl hRl e2;refine appOk a1 a2 ?_;rw [X3,<- ex] at I2;generalize A0 K2 rl (.lst (xs++[V.ref p1]))=K3 at I2;obtain ⟨pp,qq,e,g1',g2',g3'⟩:=I2.tab.get hbk;have ee:=g2'.base (by decide) dM;refine ⟨_,g1',?_⟩;walk_at "rd";refine ⟨_,.inr (.of g3'.1),V.int e.1,M3 _ _,fun p2 n2=>?_⟩;refine newQ (A0 _ _ (.tup [])) (Same.new n2) A3 fun K4 T4 e4=>?_
    refine ⟨_,.inl (.of (T4 _ _ I2.fm)),_,ag',by decide,fun p3 n3=>?_⟩;refine newQ (A0 _ _ (.tup [V.int e.1,V.ref p2,V.int ((P0 n 6 ds i g+1:Nat):Int)])) (Same.new n3) A3 fun K5 T5 e5=>?_
    have I5:=I2.more (T4.trans T5);refine ⟨_,.inl (.of ((S2.trans I5.same) _ _ hp)),_,ap,?_⟩;obtain ⟨x,b1,b2⟩:=I5.put (l:=p8 n i) (p:=p3) (q:=p2) (e:=((ls.idxOf (p8 n (6+g)):Int),[],((P0 n 6 ds i g+1:Nat):Int))) ntb2 'a' (.inr ⟨i,gC,rfl,by rw [hD];lia,.inl ⟨by rw [hD];exact h2,by rw [hD,mT];rfl⟩⟩) ⟨by rw [ee] at e5;exact e5,T5 _ _ e4⟩;exact ⟨x,b1,hP _ _ _ ⟨_,_,_,_,_,⟨rfl,b2⟩,N5 (yC _ _) 'a',fun y hy=>dd_mem.mpr (.inl (Z4 y hy)),kdd⟩⟩
   have fn:=fun g'=>arJ (n:=n) (m:=6) (ds:=ds) (i:=i) (g:=g') (by rw [hD];exact h2)
   refine ⟨_,.inl (.of ((S2.trans I.same) _ _ hd)),_,ad,_,rfl,iteN (fun h0=>?_) fun h0=>hP _ _ _ ⟨_,_,_,_,ks,⟨rfl,by rw [fn 0,fn 1,fH,show Q9 n 6 (ds.getD i 0) i=[] by rw [hD];unfold Q9;rw [if_pos h0],M8];exact I⟩,by lia,Z4,fun k hk U7=>uR k (by have:k≠i:=fun e=>U7 (by rw [e,hD];exact h0);lia) U7⟩⟩;have X0:=amF n 6 (D % 6);obtain ⟨ts,hR1⟩:=id I.ru;refine ⟨V2 hR1.top,_,.inl (.of ((S2.trans I.same) _ _ hp)),_,ap,by decide,fun p1 n1=>?_⟩;refine newQ (A0 _ _ (.tup [V.str (Str.ofString "as"),V.str (p8 n i),V.str (p8 n (6+g))])) (Same.new n1) A3 fun K1 T1 e1=>?_
   have jM:=T1 _ _ mS;refine addT e1 jM 'c' (by simp only [A6,L0,Z6];exact L9 'a') fun t K2 T2 e2=>?_
   have ex:X8 n 6 ds (i+1)=X8 n 6 ds i++[(("as" : Str),p8 n i::p8 n (6+g)::prt8 n 6 (D % 6))]:=by rw [fH,hD];unfold Q9;rw [if_neg h0,if_neg h2,mT]
   obtain ⟨xs,a1,a2,I2⟩:=(I.more (T1.trans T2)).rule (z:=(("as" : Str),p8 n i::p8 n (6+g)::prt8 n 6 (D % 6))) nrl hRl e2;refine appOk a1 a2 ?_;rw [X3,<- ex] at I2;have jN:A0 K2 rl (.lst (xs++[V.ref t])) pt=some (.tup ((prt8 n 6 (D % 6)).map V.str)):=by rw [A7 (ne_of (T2 _ _ jM) a1 (fun z=>by cases z))];exact T2 _ _ jM
   generalize A0 K2 rl (.lst (xs++[V.ref t]))=K3 at I2 jN;obtain ⟨pp,qq,e,g1',g2',g3'⟩:=I2.tab.get hbk;have ee:=g2'.base (by decide) dM;refine ⟨_,g1',?_⟩;walk_at "rd";refine ⟨_,.inr (.of g3'.1),V.int e.1,M3 _ _,⟨_,.of jN⟩,compT (xs:=(prt8 n 6 (D % 6)).map V.str) [some (.ref mk)] rfl (fun D' j ys K4=>Same K3 K4/\ys=(((prt8 n 6 (D % 6)).take j).map fun q=>(ms.idxOf q:Int)).map V.int) (fun D' nD=>⟨Same.new nD,rfl⟩) (by rintro D' j ys K4 nD _ ⟨S,_⟩;exact .of (S _ _ jN)) ?_ ?_⟩
   .rintro D' j y ys K4 nD hj hy ⟨S,rfl⟩ hD' Q1;obtain ⟨z,hz,rfl⟩:=J8 hy;have qQ:=(I2.same.trans S) _ _ jL;walk_at "rd";refine ⟨V2 qQ,mk,ms,z,rfl,rfl,qQ,fR.mem.mpr (yA (L3 hz)),hD',by simp only [A6,F7];exact L6 'a',CW.put hj Q1 ⟨S.put nD,?_⟩⟩;rw [M6 hz,D0,D0];rfl
   rintro D' ys K4 nD ⟨S4,rfl⟩ hD' _;rw [A6,L7] at hD';walk_at "rd";refine rTupR.l (.of hD') fun p2 n2=>⟨by decide,fun p3 n3=>?_⟩
   obtain ⟨K5,q5,T5,e5⟩:=newT (o:=.tup (((prt8 n 6 (D % 6)).map fun q=>(ms.idxOf q:Int)).map V.int)) n2;rw [q5] at n3 ⊢
   refine newQ (A0 _ _ (.tup [V.int e.1,V.ref p2,V.int 0])) (Same.new n3) A3 fun K6 T6 e6=>?_
   have I6:=I2.more (S4.trans (T5.trans T6));refine ⟨_,.inl (.of ((S2.trans I6.same) _ _ hp)),_,ap,?_⟩;obtain ⟨x,b1,b2⟩:=I6.put (l:=p8 n i) (p:=p3) (q:=p2) (e:=((ls.idxOf (p8 n (6+g)):Int),(prt8 n 6 (D % 6)).map fun q=>(ms.idxOf q:Int),0)) ntb2 'a' (.inr ⟨i,gC,rfl,by rw [hD];exact h0,.inr ⟨by rw [hD];exact h2,by rw [hD,mT]⟩⟩) ⟨by rw [ee] at e6;exact e6,T6 _ _ e5⟩;exact ⟨x,b1,hP _ _ _ ⟨_,_,_,_,_,⟨rfl,by rw [fn 0,fn 1];exact b2⟩,N5 (yC _ _) 'a',fun y hy=>dd_mem.mpr (.inl (Z4 y hy)),kdd⟩⟩
  clear I0 S3 hR hT o0 Z4 nfo H3 u ks;rintro Y H3 ⟨u,v,w,r,ks,⟨rfl,I⟩,o0,Z4,uR⟩
  change MdI H2 H3 rl tb fo (y7 n 6 ds ls ms) ks ([(("row" : Str),ls),(("marks" : Str),ms)]++X8 n 6 ds 6) (P0 n 6 ds 6 0) (P0 n 6 ds 6 1) at I
  have hXl:=sT n 6 ds 6;have hS3:=(S2.trans I.same) _ _ hs;refine midS (fun Y H4=>(Y=[some (.ref p),some (.ref d),some (.ref s'),some (.ref rw_),some (.ref mk),some (.ref rl),some (.ref tb),u,some (.ref fo),v,w,r]/\Same H2 H4)/\T8 H4 rl ([(("row" : Str),ls),(("marks" : Str),ms)]++X8 n 6 ds 6++V7 "behind" (decide (s2=1)))/\IsTb (y7 n 6 ds ls ms) H4 tb ks) ?_ ?_
  .intro M' hM';walk_at "rd";refine ⟨_,.inl (.of hS3),V.int s2,J9 (j:=2) rfl,?_⟩;walk_at "rd";refine iteD (fun h=>?_) fun h=>hM' _ _ ⟨⟨rfl,I.same⟩,by rw [decide_eq_false h,show V7 "behind" false=[] from rfl,M8];exact I.ru,I.tab⟩
   obtain ⟨ts,hR1⟩:=id I.ru;refine ⟨V2 hR1.top,by decide,fun p1 n1=>?_⟩;refine newQ (A0 _ _ (.tup [V.str (Str.ofString "behind")])) (Same.new n1) A3 fun K1 T1 e1=>?_
   obtain ⟨xs,a1,a2,I2⟩:=(I.more T1).rule (z:=(("behind" : Str),[])) nrl (by rw [D6];simp only [L0,Z6];lia) e1;exact appOk a1 a2 (hM' _ _ ⟨⟨rfl,I2.same⟩,by rw [decide_eq_true h];exact I2.ru,I2.tab⟩)
  rintro Y H4 ⟨⟨rfl,S4⟩,⟨ts,hR⟩,hT⟩;have hR':Paired (fun t z=>H4 t=some (tupR z)) ts ((("row" : Str),ls)::((("marks" : Str),ms)::X8 n 6 ds 6++V7 "behind" (decide (s2=1)))):=hR.row;have qR:=hR.top;obtain ⟨t0,ts',rfl,ht0,bT⟩:∃ t0 ts',ts=t0::ts'/\H4 t0=some (tupR (("row" : Str),ls))/\Paired (fun t z=>H4 t=some (tupR z)) ts' ((("marks" : Str),ms)::X8 n 6 ds 6++V7 "behind" (decide (s2=1))):=by
   cases hR' with
   | cons h t=>exact ⟨_,_,rfl,h,t⟩
  have pX:ts'.length<=20:=by
   rw [Paired.length bT,gJ,L0,D6]
   have:(V7 "behind" (decide (s2=1))).length<=1:=by unfold V7;split <;> simp
   lia
  walk_at "rd";refine rSlR.l (.of qR) fun l1 n1=>?_
  rw [show cutV ((t0::ts').map V.ref) (some 1) none=ts'.map V.ref from wM _ _];refine rSlR.l (.of (C8 qR n1)) fun l2 n2=>?_
  rw [show cutV ((t0::ts').map V.ref) none (some 1)=[V.ref t0] from aX _ 1];walk_at "rd";refine rAddR.l (C8 A3 n2) A3 (by simp only [A6,X2];exact L9 'a') fun l3 n3=>?_
  have S5:Same H4 (A0 (A0 (A0 H4 l1 (.lst (ts'.map V.ref))) l2 (.lst [V.ref t0])) l3 (.lst (ts'.map V.ref++[V.ref t0]))):=((Same.new n1).trans (Same.new n2)).trans (Same.new n3);have h5:A0 (A0 (A0 H4 l1 (.lst (ts'.map V.ref))) l2 (.lst [V.ref t0])) l3 (.lst (ts'.map V.ref++[V.ref t0])) l3=some (.lst ((ts'++[t0]).map V.ref)):=by rw [A3,D0];rfl
  generalize A0 (A0 (A0 H4 l1 (.lst (ts'.map V.ref))) l2 (.lst [V.ref t0])) l3 (.lst (ts'.map V.ref++[V.ref t0]))=H5 at S5 h5;have hR5:T8 H5 l3 (R8 ls ms (X8 n 6 ds 6) (decide (s2=1))):=⟨ts'++[t0],h5,by
   have:=afm (O6 bT fun _ _ e=>S5 _ _ e) (.cons (S5 _ _ ht0) .nil)
   unfold R8
   simpa using this⟩
  intro x dx nx ndx ne;refine init8 hR5 nx ndx ne (by decide) hr fR fun H9 L M S9 hO o8=>⟨rfl,?_⟩
  have gE:=S5.trans S9;have hs9:=(S2.trans (S4.trans gE)) _ _ hs;refine ⟨_,.inl (.of hs9),V.int s2,J9 (j:=2) rfl,?_⟩;walk_at "rd";refine ⟨by decide,fun t nt=>?_⟩;refine newQ (A0 _ _ (.tup [V.ref x,V.ref tb,V.bl (decide (s2=1))])) (Same.new nt) A3 fun K1 T1 e1=>?_
  have S20:=S2.trans (S4.trans (gE.trans T1));have hkA:∀ k<6+2,p8 n k∈ks:=fun k hk=>by
   by_cases hk4:k<6
   .by_cases h0:ds.getD k 0 % 6=0
    .exact Z4 _ ((hr.mm _).mpr (.inr (.inr ⟨k,hk4,h0,rfl⟩)))
    .exact uR k hk4 h0
   .refine Z4 _ ((hr.mm _).mpr ?_)
    by_cases hm:k=6
    .exact .inl (by rw [hm])
    .exact .inr (.inl (by rw [show k=7 by lia]))
  refine q t _ _ L M (S2.free (S4.free (gE.free nt))) S20 (MadeT.mk8 e1 (hO _ T1).1 o8 ((hT.same gE).same T1) hkA) fun f xs o hf=>MadeT.mk8 (by rw [A7 (fun e=>by rw [e] at e1;rw [S20 _ _ hf] at e1;cases e1)];exact e1) ((hO _ T1).2 f xs o ((S2.trans (S4.trans S5)) _ _ hf)) o8 (((hT.same gE).same T1).putL (S20 _ _ hf)) hkA
theorem sc_l_both:FnScope ["_law_script", "_law_pool_here", "_law_cell", "_law_digits_here", "_law_shape", "_law_one", "_law_way", "_law_number_here", "_law_at", "_law_job"] ["_law_script", "_law_pool_here"] (C1 R5):=E7
abbrev bK:List Str:=["_law_script", "_law_pool_here", "_law_cell", "_law_digits_here", "_law_shape", "_law_one", "_law_way", "_law_number_here", "_law_at", "_law_job"]
theorem zK:VS bK R5 "_law_script" 0:=vq
theorem veD:VS bK R5 "_law_pool_here" 1:=vq
theorem tR:VS bK R5 "_law_cell" 2:=vq
theorem iH:VS bK R5 "_law_digits_here" 3:=vq
theorem lV:VS bK R5 "_law_shape" 4:=vq
theorem veH:VS bK R5 "_law_one" 5:=vq
theorem iI:VS bK R5 "_law_way" 6:=vq
theorem veJ:VS bK R5 "_law_number_here" 7:=vq
theorem zL:VS bK R5 "_law_at" 8:=vq
theorem veL:VS bK R5 "_law_job" 9:=vq
theorem veM:LS R5 "_law_cell":=lq
theorem zM:LS R5 "_law_digits_here":=lq
theorem veO:LS R5 "_law_shape":=lq
theorem veP:LS R5 "_law_one":=lq
theorem veQ:LS R5 "_law_way":=lq
theorem veR:LS R5 "_law_number_here":=lq
theorem veS:LS R5 "_law_at":=lq
theorem veT:LS R5 "_law_job":=lq
theorem alc(F:FunD K "_law_both" "_law_both" R5 f fd)(T:Txt P w K mg C)(G_l_number:FO P w K mg base 1 "_law_number" ["_law_script", "_law_k"] [] (iB K))(G_l_digits:FO P w K mg base 2 "_law_digits" ["_law_script"] [] (anh K 6))(G_l_made:FO P w K mg base 7 "_law_made" ["_law_pool_here", "_law_digits_here", "_law_shape"] [] (akZ C 6 10)):FnOk P w K mg base E1 8 f fd ["_law_script", "_law_pool_here"] (ak0 K C 6 10):=by
 refine F.ok sc_l_both ?_ ?_
 .rintro _ _ _ _ ⟨a,p,n,ns,rfl,_⟩;rfl
 .intro cdv A outer s H vs Q E hr h;have B5:=hu_of hr;have hu:=hr.units;refine ⟨_,QSs.out (A4 (C4 (n:=2) sc_l_both.nd rfl veM (qe_op W7 (C9 G_l_number (hm hr) (qa_c (vi zK) (qa_c A1 A2))) A1))
   (A4 (C4 (n:=3) sc_l_both.nd rfl zM (C9 G_l_digits (hm hr) (qa_c (vi zK) A2)))
   (A4 (C4 (n:=4) sc_l_both.nd rfl veO (R7 (qa_c (qe_op q_mod (vi tR) A1) (qa_c (qe_op q_mod (qe_op W7 (vi tR) A1) A1) (qa_c (qe_op q_mod (qe_op W7 (vi tR) A1) A1) A2)))))
   (A4 (C4 (n:=5) sc_l_both.nd rfl veP (C9 G_l_made (hm hr) (qa_c (vi veD) (qa_c (vi iH) (qa_c (vi lV) A2)))))
   (A4 (C4 (n:=6) sc_l_both.nd rfl veQ (qe_op q_mod (qe_op W7 (vi tR) A1) A1))
   (A4 (C4 (n:=7) sc_l_both.nd rfl veR (C9 G_l_number (hm hr) (qa_c (vi zK) (qa_c A1 A2))))
   (cO (qs_if (E2 (q_eq (K:=K) hu) (vi iI) A1) (A5 (gY (qe_op (q_add (K:=K)) (qe_ix (K:=K) (vi lV) A1) A1) (sB (vi lV) A1))) (A5 (qs_if (E2 q_lt (vi iI) A1) (A5 (gY (qe_op q_sub A1 (qe_ix (K:=K) (vi lV) (vi iI))) (sB (vi lV) (vi iI)))) (A5 (qs_if (E2 (q_eq (K:=K) hu) (vi iI) A1) (A5 (nX (n:=3) sc_l_both.nd rfl zM (V5:CompOk ["_law_script", "_law_pool_here", "_law_cell", "_law_digits_here", "_law_shape", "_law_one", "_law_way", "_law_number_here", "_law_at", "_law_job"] (C1 R5).names _ ["_law_k", "_law_number_here"] 1 [7]) (qi_r1 T.b_range (qa_c A1 A2)) (fun _ _ _ _ _=>D3 (n:=0) (show List.Nodup (["_law_k", "_law_number_here"]:List Str) by decide +kernel) rfl (Or.inl rfl)) (fun _ _ _ _ _=>k9) (fun _ _ _ _ _=>(qe_op q_mod (qe_op q_mul (qe_op (q_add (K:=K)) (qv 1) (qe_op q_mul A1 (qv 0))) A1) A1)))) (A5 (qs_if (E2 q_lt (vi iI) A1) (A4 (C4 (n:=8) sc_l_both.nd rfl veS (qe_op q_mod (vi veJ) A1))
   (A4 (C4 (n:=9) sc_l_both.nd rfl veT (qe_op q_mod (qe_ix (K:=K) (vi iH) (vi zL)) A1))
   (A5 (gY (qe_op (q_add (K:=K)) (qe_op q_sub (qe_ix (K:=K) (vi iH) (vi zL)) (vi veL)) (qe_op q_mod (qe_op W7 (vi veJ) A1) A1)) (sB (vi iH) (vi zL)))))) (A5 (qs_if (E2 (q_eq (K:=K) hu) (vi iI) A1) (A5 (C4 (n:=3) sc_l_both.nd rfl zM (qe_op (q_add (K:=K)) (M9 (K:=K) (vi iH) (L1 A1) Q3) (M9 (K:=K) (vi iH) Q3 (L1 A1))))) G5)))))))))
   (A5 (D1 (F9 (qa_c (vi veH) (qa_c (C9 G_l_made (hm hr) (qa_c (vi veD) (qa_c (vi iH) (qa_c (vi lV) A2)))) A2)))))))))))),?_⟩
  obtain ⟨a,p,n,ns,rfl,hS,hp,q⟩:=h;walk_at "rd";refine ⟨a,ns,0,rfl,hS,by decide,_,rfl,a,ns,rfl,hS,fun d H1 ds nd S1 hd bS=>⟨by decide,fun s' ns'=>?_⟩⟩;generalize numF ns 0 / 1116=c;refine newQ (A0 _ _ (.lst [V.int (c % 3),V.int (c / 3 % 2),V.int (c / 6 % 2)])) (Same.new ns') A3 fun H2 T2 e2=>?_
  have S2:=S1.trans T2;refine ⟨p,d,s',n,_,_,_,ds,rfl,S2 _ _ hp,T2 _ _ hd,e2,bS,by lia,fun t1 H3 R L M nt1 S3 hM1 hM2=>?_⟩;have mU:=S2.trans S3;have R0:=S3 _ _ (T2 _ _ hd);have bW:=S3 _ _ e2;have ns0:H s'=none:=S1.free ns';walk_at "rd";refine ⟨a,ns,_,rfl,mU.seq hS,by decide,?_⟩;generalize numF ns _=num;refine midS (fun Y H4=>∃ (u v:Option V) (d':Addr) (ds':List Int) (s0 s1 s2:Int),(Y=[some (.ref a),some (.ref p),some (.int c),some (.ref d'),some (.ref s'),some (.ref t1),some (.int (c / 12 % 8)),some (.int num),u,v]/\Same H H4)/\MadeT C H4 t1 n 6 (decide (c / 6 % 2=1)) R L M/\H4 d'=some (.lst (ds'.map V.int))/\ds'.length=6/\H4 s'=some (.lst [.int s0,.int s1,.int s2])/\(s1=0\/s1=1)) ?_ ?_
  .intro M' hM';have fM:d≠s':=w6 hd ns';have jO:∀ s0 s1 s2:Int,s1=0\/s1=1->M' [some (.ref a),some (.ref p),some (.int c),some (.ref d),some (.ref s'),some (.ref t1),some (.int (c / 12 % 8)),some (.int num),none,none] (A0 H3 s' (.lst [.int s0,.int s1,.int s2])):=fun s0 s1 s2 h=>hM' _ _ ⟨_,_,d,ds,s0,s1,s2,⟨rfl,mU.put ns0⟩,hM2 s' _ _ e2,by rw [A7 fM];exact R0,bS,A3,h⟩
   walk_at "rd";refine iteD (fun h0=>?_) fun h0=>iteD (fun h3=>?_) fun h3=>iteD (fun h4=>?_) fun h4=>iteD (fun h6=>?_) fun h6=>iteD (fun h7=>?_) fun h7=>hM' _ _ ⟨_,_,d,ds,_,_,_,⟨rfl,mU⟩,hM1,R0,bS,bW,by lia⟩
   .refine ⟨_,.inl (.of bW),V.int (c % 3),M3 _ _,?_⟩;walk_at "rd";exact ⟨_,bW,0,rfl,jO _ _ _ 'a'⟩
   .rcases (show c / 12 % 8=1\/c / 12 % 8=2 by lia) with e | e <;> rw [e]
    .refine ⟨_,.inl (.of bW),V.int (c / 3 % 2),rfl,?_⟩;walk_at "rd";rw [<- e];refine ⟨_,bW,1,by rw [e];rfl,jO _ _ _ 'a'⟩
    .refine ⟨_,.inl (.of bW),V.int (c / 6 % 2),rfl,?_⟩;walk_at "rd";rw [<- e];refine ⟨_,bW,2,by rw [e];rfl,jO _ _ _ 'a'⟩
   .refine ⟨by decide,by decide,compR [some (.int num)] rfl (fun D i ys H2=>Same H3 H2/\∃ ds':List Int,ys=ds'.map V.int/\ds'.length=i) (fun D nD=>⟨Same.new nD,[],rfl,rfl⟩) ?_ ?_⟩
    .rintro D i ys H4 nD hi ⟨S,ds',rfl,hl⟩ hD hy;have gC:i<6:=hi;walk_at "rd";exact ⟨.inl ⟨by decide,by decide⟩,.inr ⟨by decide,by decide⟩,hD,by rw [A6];exact L6 'a',CW.put hi hy ⟨S.put nD,ds'++[_],by rw [D0];rfl,by rw [D6,hl];rfl⟩⟩
    rintro D ys H4 nD ⟨S,ds',rfl,hl⟩ hD _;exact hM' _ _ ⟨_,_,D,ds',_,_,_,⟨rfl,mU.trans S⟩,hM1.same S,hD,hl,S _ _ bW,by lia⟩
   .obtain ⟨j,hj⟩:∃ j:Nat,num % 6=j:=⟨(num % 6).toNat,by lia⟩
    have hjl:j<ds.length:=by lia
    have ad:F8 (ds.map V.int) (num % 6)=some (V.int ds[j]):=by rw [hj];exact J9 (by rw [R6,J5 hjl];rfl)
    refine ⟨_,.inl (.of R0),_,ad,_,rfl,_,.inl (.of R0),_,ad,_,rfl,_,R0,j,?_,hM' _ _ ⟨_,_,d,ds.set j _,_,_,_,⟨rfl,mU.put nd⟩,hM2 d _ _ (T2 _ _ hd),by rw [A3,List.map_set],by rw [List.length_set];exact bS,by rw [A7 fM.symm];exact bW,by lia⟩⟩;unfold X4;rw [hj,A6,if_pos (Int.natCast_nonneg _),if_pos 'a'];rfl
   .refine rSlR.l (.of R0) fun l1 n1=>rSlR.l (.of (C8 R0 n1)) fun l2 n2=>?_
    rw [show cutV (ds.map V.int) (some 1) none=(ds.drop 1).map V.int by rw [show cutV (ds.map V.int) (some 1) none=_ from x6 _ 1,cD],show cutV (ds.map V.int) none (some 1)=(ds.take 1).map V.int by rw [show cutV (ds.map V.int) none (some 1)=_ from aX _ 1,v7]] at *;walk_at "rd";refine rAddR.l (C8 A3 n2) A3 (by simp only [A6,F7,k5];exact L9 'a') fun l3 n3=>?_
    have S5:Same H3 (A0 (A0 (A0 H3 l1 (.lst ((ds.drop 1).map V.int))) l2 (.lst ((ds.take 1).map V.int))) l3 (.lst ((ds.drop 1).map V.int++(ds.take 1).map V.int))):=((Same.new n1).trans (Same.new n2)).trans (Same.new n3);exact hM' _ _ ⟨_,_,l3,ds.drop 1++ds.take 1,_,_,_,⟨rfl,mU.trans S5⟩,hM1.same S5,by rw [A3,D0],by rw [D6,k5,F7];lia,S5 _ _ bW,by lia⟩
  rintro Y H4 ⟨u,v,d',ds',s0,s1,s2,⟨rfl,S4⟩,hM4,X1,hdl4,hs4,hs14⟩;walk_at "rd";refine ⟨p,d',s',n,s0,s1,s2,ds',rfl,S4 _ _ hp,X1,hs4,hdl4,hs14,fun t2 H5 R' L' M' jJ S5 hM5 _=>⟨by decide,fun t nt=>q t t1 t2 _ _ _ R L M R' L' M' (S4.free (S5.free nt)) (S4.trans (S5.trans (Same.new nt))) A3 ((hM4.same S5).same (Same.new nt)) (hM5.same (Same.new nt))⟩⟩
theorem sc_l_some:FnScope ["_law_script", "_law_pool_here", "_law_number_here", "_law_many", "_law_first", "_law_some_here"] ["_law_script", "_law_pool_here"] (C1 m6):=E7
abbrev lW:List Str:=["_law_script", "_law_pool_here", "_law_number_here", "_law_many", "_law_first", "_law_some_here"]
theorem veU:VS lW m6 "_law_script" 0:=vq
theorem veV:VS lW m6 "_law_pool_here" 1:=vq
theorem lX:VS lW m6 "_law_number_here" 2:=vq
theorem zN:VS lW m6 "_law_many" 3:=vq
theorem veY:VS lW m6 "_law_first" 4:=vq
theorem zO:VS lW m6 "_law_some_here" 5:=vq
theorem ve0:LS m6 "_law_number_here":=lq
theorem ve1:LS m6 "_law_many":=lq
theorem ve2:LS m6 "_law_first":=lq
theorem ve3:LS m6 "_law_some_here":=lq
theorem ald(F:FunD K "_law_some" "_law_some" m6 f fd)(T:Txt P w K mg C)(G_l_number:FO P w K mg base 1 "_law_number" ["_law_script", "_law_k"] [] (iB K)):FnOk P w K mg base E1 2 f fd ["_law_script", "_law_pool_here"] (ait K):=by
 refine F.ok sc_l_some ?_ ?_
 .rintro _ _ _ _ ⟨a,p,n,ns,rfl,_⟩;rfl
 .intro cdv A outer s H vs Q E hr h;have B5:=hu_of hr;have hu:=hr.units;refine ⟨_,QSs.out (A4 (C4 (n:=2) sc_l_some.nd rfl ve0 (C9 G_l_number (hm hr) (qa_c (vi veU) (qa_c A1 A2))))
   (A4 (C4 (n:=3) sc_l_some.nd rfl ve1 (qe_op q_mod (vi lX) A1))
   (cO (qs_if (E2 (q_eq (K:=K) hu) (qe_op q_mod (qe_op W7 (vi lX) A1) A1) A1) (A5 (C4 (n:=3) sc_l_some.nd rfl ve1 (qe_op (q_add (K:=K)) A1 (qe_op q_mod (qe_op W7 (vi lX) A1) A1)))) G5)
   (A4 (C4 (n:=4) sc_l_some.nd rfl ve2 (qe_op q_mod (qe_op W7 (vi lX) A1) A1))
   (A4 (C4 (n:=5) sc_l_some.nd rfl ve3 (M9 (K:=K) (qe_op (q_add (K:=K)) (M9 (K:=K) (vi veV) (L1 (vi veY)) (L1 A1)) (M9 (K:=K) (vi veV) Q3 (L1 (vi veY)))) Q3 (L1 (vi zN))))
   (cO (qs_if (QW.pt (cN (alZ q_lt q_lt A1 (vi zN) A1) (eS (E2 (q_eq (K:=K) hu) (qe_op q_mod (qe_op W7 (vi lX) A1) A1) A1)))) (A5 (R9 (qe_mB (K:=K) W3 g0 f9 g8 (vi zO) (qa_c (qe_ix (K:=K) (vi zO) (qe_op q_mod (qe_op W7 (vi lX) A1) (vi zN))) A2)))) G5)
   (A5 (D1 (vi zO))))))))),?_⟩
  obtain ⟨a,p,n,ns,rfl,hS,hp,q⟩:=h;walk_at "rd";refine ⟨a,ns,1,rfl,hS,by decide,_,rfl,?_⟩;generalize numF ns 1=num;refine midS (fun Y H2=>∃ m:Nat,(Y=[some (.ref a),some (.ref p),some (.int num),some (.int m),none,none]/\H2=H)/\m<=8) ?_ ?_
  .intro M' hM';walk_at "rd";refine iteD (fun h=>?_) fun h=>?_
   .obtain ⟨m,hm⟩:∃ m:Nat,5+num / 20 % 4=m:=⟨(5+num / 20 % 4).toNat,by lia⟩
    rw [hm];exact hM' _ _ ⟨m,⟨rfl,rfl⟩,by lia⟩
   .obtain ⟨m,hm⟩:∃ m:Nat,num % 5=m:=⟨(num % 5).toNat,by lia⟩
    rw [hm];exact hM' _ _ ⟨m,⟨rfl,rfl⟩,by lia⟩
  rintro Y H2 ⟨m,⟨rfl,rfl⟩,hm⟩;obtain ⟨f,hf⟩:∃ f:Nat,num / 80 % 8=f:=⟨(num / 80 % 8).toNat,by lia⟩
  have hf8:f<8:=by lia
  have X0:(poolL n 10).length=10:=by unfold poolL;simp
  walk_at "rd";rw [hf];refine rSlR.l (.of hp) fun l1 n1=>rSlR.l (.of (C8 hp n1)) fun l2 n2=>?_
  rw [show cutV ((poolL n 10).map V.str) (some (f:Int)) (some 8)=(((poolL n 10).drop f).take (8-f)).map V.str by rw [show cutV ((poolL n 10).map V.str) (some (f:Int)) (some 8)=_ from sD _ (i:=f) (j:=8) 'a',<- cD,<- v7],show cutV ((poolL n 10).map V.str) none (some (f:Int))=((poolL n 10).take f).map V.str by rw [aX,<- v7]] at *;walk_at "rd";refine rAddR.l (C8 A3 n2) A3 (by simp only [A6,F7,k5];exact L9 'a') fun l3 n3=>?_
  rw [<- D0];have hz0:∀ z∈((poolL n 10).drop f).take (8-f)++(poolL n 10).take f,∃ j<8,z=p8 n j:=fun z hz=>by
   rcases E8.mp hz with h | h
   .obtain ⟨i,hi,e⟩:=jQ.mp h;rw [List.getElem_drop] at e;refine ⟨f+i,by lia,?_⟩;rw [<- e];unfold poolL;rw [List.getElem_map,List.getElem_range]
   .obtain ⟨i,hi,e⟩:=jQ.mp h;refine ⟨i,by lia,?_⟩;rw [<- e];unfold poolL;rw [List.getElem_map,List.getElem_range]
  have tX:(((poolL n 10).drop f).take (8-f)++(poolL n 10).take f).length=8:=by rw [D6,F7,k5,F7,X0];lia
  generalize hY:((poolL n 10).drop f).take (8-f)++(poolL n 10).take f=zy at *;have S3:Same H2 (A0 (A0 (A0 H2 l1 (.lst ((((poolL n 10).drop f).take (8-f)).map V.str))) l2 (.lst (((poolL n 10).take f).map V.str))) l3 (.lst (zy.map V.str))):=((Same.new n1).trans (Same.new n2)).trans (Same.new n3);have h3:A0 (A0 (A0 H2 l1 (.lst ((((poolL n 10).drop f).take (8-f)).map V.str))) l2 (.lst (((poolL n 10).take f).map V.str))) l3 (.lst (zy.map V.str)) l3=some (.lst (zy.map V.str)):=A3;generalize A0 (A0 (A0 H2 l1 (.lst ((((poolL n 10).drop f).take (8-f)).map V.str))) l2 (.lst (((poolL n 10).take f).map V.str))) l3 (.lst (zy.map V.str))=H3 at S3 h3;refine rSlR.l (.of h3) fun l nl=>?_
  rw [aX,<- v7];refine newQ (A0 _ _ (.lst ((zy.take m).map V.str))) (Same.new nl) A3 fun H4 T4 e4=>?_
  have nl2:=S3.free nl;have mN:∀ z∈zy.take m,∃ j<6+2,z=p8 n j:=fun z hz=>hz0 z (bY hz)
  have C5:(zy.take m).length=m:=by rw [F7];lia
  generalize zy.take m=zs at *;refine midS (fun Y H5=>∃ zs',(Y=[some (.ref a),some (.ref p),some (.int num),some (.int m),some (.int f),some (.ref l)]/\Same H2 H5)/\H5 l=some (.lst (zs'.map V.str))/\Zs8 n 6 zs') ?_ ?_
  .intro M' hM';have hN:=hM' _ _ ⟨zs,⟨rfl,S3.trans T4⟩,e4,by lia,mN⟩;walk_at "rd";refine iteD (fun h0=>iteD (fun h8=>iteD (fun h1=>?_) fun _=>hN) fun _=>hN) fun _=>hN
   obtain ⟨i,hi,Y2⟩:∃ i:Nat,num / 1920 % (m:Int)=i/\i<m:=by
    have h1:=Int.emod_nonneg (num / 1920) (show (m:Int)≠0 by lia);have h2:=nG (num / 1920) (show (0:Int)<(m:Int) by lia);exact ⟨(num / 1920 % (m:Int)).toNat,by lia,by lia⟩
   have qS:i<zs.length:=by lia
   refine ⟨V2 e4,by lia,_,.inl (.of e4),V.str zs[i],by rw [hi];exact J9 (by rw [R6,J5 qS];rfl),appOk e4 (by rw [A6];exact L6 'a') (hM' _ _ ⟨zs++[zs[i]],⟨rfl,(S3.trans T4).put nl2⟩,by rw [A3,D0];rfl,by rw [D6,X2];lia,fun z hz=>?_⟩)⟩
   rcases E8.mp hz with h | h
   .exact mN z h
   .rw [E5.mp h];exact mN _ (cC qS)
  rintro Y H5 ⟨zs',⟨rfl,S5⟩,hl5,Z⟩;walk_at "rd";exact q l H5 zs' nl2 S5 hl5 Z
theorem sc_l_sides:FnScope ["_law_text", "_law_made_here", "_law_level", "_law_sides_here"] ["_law_text", "_law_made_here", "_law_level"] (C1 cU):=E7
abbrev tS:List Str:=["_law_text", "_law_made_here", "_law_level", "_law_sides_here"]
theorem ve4:VS tS cU "_law_text" 0:=vq
theorem ve5:VS tS cU "_law_made_here" 1:=vq
theorem ve6:VS tS cU "_law_level" 2:=vq
theorem ve7:VS tS cU "_law_sides_here" 3:=vq
theorem ve8:LS cU "_law_sides_here":=lq
theorem ajf(F:FunD K "_law_sides" "_law_sides" cU f fd)(T:Txt P w K mg C):FnOk P w K mg base E1 1 f fd ["_law_text", "_law_made_here", "_law_level"] (air K C 6):=by
 refine F.ok sc_l_sides ?_ ?_
 .rintro _ _ _ _ ⟨t,z,k,n,bh,R,L,M,rfl,_⟩;rfl
 .intro cdv A outer s H vs Q E hr h;have B5:=hu_of hr;have hu:=hr.units;refine ⟨_,QSs.out (A4 (qs_if (E2 (q_eq (K:=K) hu) (vi ve6) A1) (A5 (D1 (R7 (qa_c (vi ve4) A2)))) G5)
   (A4 (nX (n:=3) sc_l_sides.nd rfl ve8 (V5:CompOk ["_law_text", "_law_made_here", "_law_level", "_law_sides_here"] (C1 cU).names _ ["_law_sign_here", "_law_level", "_law_made_here"] 1 [2,1]) (amV (vi ve4)) (fun _ _ _ _ _=>D3 (n:=0) (show List.Nodup (["_law_sign_here", "_law_level", "_law_made_here"]:List Str) by decide +kernel) rfl (Or.inl rfl)) (fun _ _ _ _ _=>k9) (fun _ _ _ _ _=>(qe_ix (K:=K) (g6 B5 (qe_ix (K:=K) (qv 2) A1) (qv 0)) (qe_op q_sub (qv 1) A1))))
   (A4 (qs_if (QW.pt (cN (E2 (q_eq (K:=K) hu) (vi ve6) A1) (eS (X5 (K:=K) (qe_ix (K:=K) (vi ve5) A1))))) (A5 (D1 (aoI T.b_reversed T.b_list (qa_c (vi ve7) A2)))) G5)
   (A5 (D1 (vi ve7)))))),?_⟩
  obtain ⟨t,z,k,n,bh,R,L,M,rfl,hk,hM,hz,P9,q⟩:=h;obtain ⟨x,d,ks,ht,_,⟨ad,mt,F,hd,hF⟩,Z4⟩:=hM.ex;have at_:∀ i c,z.cps.toList[i]?=some c->one c∈ks:=fun i c hc=>by
   obtain ⟨j,hj,e⟩:=D7.mp (hz c (L3 hc))
   have:=Z4 j (k6.mp hj)
   rw [<- e];exact this
  have hzl2:z.cps.toList.length<=500:=by rw [lenL];exact P9
  walk_at "rd";refine iteD (fun h4=>⟨by decide,fun p np=>q p _ np (Same.new np) ?_⟩) fun h4=>?_
  .rw [show k=3 by lia];exact A3
  have uS:k<3:=by lia
  refine compS [some (.int ((k+1:Nat):Int)),some (.ref t)] rfl (fun D i ys H2=>Same H H2/\∃ es:List (Addr×En),ys=es.map (fun e=>vE k e.1 e.2)/\es.map (·.2)=(z.cps.toList.take i).map (E9 R L M)/\∀ e∈es,H e.1=some (.tup (e.2.2.1.map V.int))) (fun D nD=>⟨Same.new nD,[],rfl,rfl,fun e he=>by cases he⟩) ?_ ?_
  .rintro D i c ys H2 nD hi hc ⟨S,es,rfl,he,hp⟩ hD hy;have hck:=at_ i c hc
   obtain ⟨⟨c',ec,ee⟩,g1,g2⟩:=hF _ hck;obtain rfl:c=c':=List.singleton_inj.mp (congrArg (fun z:Str=>z.cps.toList) ec);have hg:DGet H2 d (.str (one c)) (some (.ref (ad (one c)))):=by
    have:DGet H2 d (kV (Sum.inr (one c))) (valV (C2 ks fun y=>V.ref (ad y)) (Sum.inr (one c))):=g4 (S _ _ hd)
    rw [Q4,if_pos hck] at this;exact this
   have o4:=congrArg f6 he;rw [A6,A6,F7] at o4;walk_at "rd";refine ⟨_,.inr (.of (S _ _ ht)),V.ref d,rfl,d,rfl,_,hg,?_⟩;walk_at "rd";refine ⟨_,.inr (.of (S _ _ g1)),_,vE_at uS,hD,by rw [A6];exact L6 'a',CW.put hi hy ⟨S.put nD,es++[(mt (one c),F (one c))],by rw [D0];rfl,?_,fun e' he'=>?_⟩⟩
   .rw [M6 hc,D0,D0,he,<- ee];rfl
   .rcases E8.mp he' with h | h
    .exact hp e' h
    .rw [E5.mp h];exact g2
  rintro D ys H2 nD ⟨S,es,rfl,he,hp⟩ hD _;rw [v4 'c'] at he;have bP:∀ e∈es,H2 e.1=some (.tup (e.2.2.1.map V.int)):=fun e h=>S _ _ (hp e h)
  refine iteD (fun h2=>⟨_,.inr (.of (S _ _ ht)),V.bl bh,J9 (j:=2) rfl,bh,rfl,?_⟩) fun h2=>q D H2 nD S (sd_of uS (by rw [if_neg 'a'];exact hD) he bP)
  obtain rfl:k=1:=by lia
  cases bh with
  | true=>
   refine iteT ⟨D,rfl,_,hD,fun l nl=>q l _ (S.free nl) (S.trans (Same.new nl)) (sd_of (es:=es) uS (by rw [if_pos ⟨rfl,rfl⟩];exact A3) he fun e h=>(Same.new nl) _ _ (bP e h))⟩
  | false=>exact iteF (q D H2 nD S (sd_of uS (by rw [if_neg (fun h=>by cases h.2)];exact hD) he bP))
theorem sc_l_put:FnScope ["_law_one", "_law_other", "_law_made_here", "_law_strength", "_law_level", "_law_mine", "_law_theirs"] ["_law_one", "_law_other", "_law_made_here", "_law_strength"] (C1 m7):=E7
abbrev iJ:List Str:=["_law_one", "_law_other", "_law_made_here", "_law_strength", "_law_level", "_law_mine", "_law_theirs"]
theorem ve9:VS iJ m7 "_law_one" 0:=vq
theorem vfa:VS iJ m7 "_law_other" 1:=vq
theorem vfb:VS iJ m7 "_law_made_here" 2:=vq
theorem vfc:VS iJ m7 "_law_strength" 3:=vq
theorem vfd:VS iJ m7 "_law_level" 4:=vq
theorem vfe:VS iJ m7 "_law_mine" 5:=vq
theorem vff:VS iJ m7 "_law_theirs" 6:=vq
theorem vfg:LS m7 "_law_level":=lq
theorem vfh:LS m7 "_law_mine":=lq
theorem vfi:LS m7 "_law_theirs":=lq
theorem amK(F:FunD K "_law_put" "_law_put" m7 f fd)(T:Txt P w K mg C)(G_l_sides:FO P w K mg base 1 "_law_sides" ["_law_text", "_law_made_here", "_law_level"] [] (air K C 6)):FnOk P w K mg base E1 2 f fd ["_law_one", "_law_other", "_law_made_here", "_law_strength"] (yB K C 6):=by
 refine F.ok sc_l_put ?_ ?_
 .rintro _ _ _ _ ⟨t,z,z',k,n,bh,R,L,M,rfl,_⟩;rfl
 .intro cdv A outer s H vs Q E hr h;have B5:=hu_of hr;have hu:=hr.units;refine ⟨_,QSs.out (A4 (N0 PassesOwn.never (qi_r2 T.b_range (qa_c A1 (qa_c (qe_op (q_add (K:=K)) (vi vfc) A1) A2))) (D3 (n:=4) sc_l_put.nd rfl vfg (.inl rfl)) (A4 (C4 (n:=5) sc_l_put.nd rfl vfh (C9 G_l_sides (hm hr) (qa_c (vi ve9) (qa_c (vi vfb) (qa_c (vi vfd) A2)))))
   (A4 (C4 (n:=6) sc_l_put.nd rfl vfi (C9 G_l_sides (hm hr) (qa_c (vi vfa) (qa_c (vi vfb) (qa_c (vi vfd) A2)))))
   (A5 (qs_if (E2 (q_ne (K:=K) hu) (vi vfe) (vi vff)) (A5 (D1 (qe_op q_sub A1 (qe_op q_mul A1 (qe_cT am4 T.b_int amU (qa_c (k8 (q_ltL hu (K:=K)) (vi vfe) (vi vff)) A2)))))) G5)))))
   (A5 (D1 A1))),?_⟩
  obtain ⟨t,z,z',k,n,bh,R,L,M,rfl,hk,hM,hz,c9,P9,dU,q⟩:=h;walk_at "rd";refine ⟨by decide,by decide,by lia,by lia,?_⟩;rw [show ((k:Int)+1-1).toNat=k by lia];refine forRs (fun i Y H2=>∃ (u v w:Option V),(Y=[some (.str z),some (.str z'),some (.ref t),some (.int k),u,v,w]/\Same H H2)/\∀ j<i,C7 bh (E9 R L M) z.cps.toList z'.cps.toList j=0) ⟨none,none,none,⟨rfl,cK _⟩,fun j hj=>absurd hj (Nat.not_lt_zero j)⟩ ?_ ?_
  .rintro P' Bk hP i Y H2 hi ⟨u,v,w,⟨rfl,S⟩,h0⟩;have e1:(1+(i:Int))=((i+1:Nat):Int):=by lia
   walk_at "rd";refine ⟨t,z,i,n,bh,R,L,M,by rw [e1],by lia,hM.same S,hz,P9,fun l1 H3 n3 S3 h3=>⟨t,z',i,n,bh,R,L,M,by rw [e1],by lia,(hM.same S).same S3,c9,dU,fun l2 H4 n4 S4 h4=>?_⟩⟩;have h3':=h3.same S4;have uP:=aoW (bh:=bh) (en:=E9 R L M) (z:=z) (z':=z') (show i<4 by lia);have hlv:=arL (bh:=bh) (en:=E9 R L M) (z:=z) (z':=z') (show i<4 by lia);have okk:∀ {w:Str},p9 w=true->∀ y,cY bh (E9 R L M) w i=.ss y->p9 y=true:=fun {w} hw y e=>by
    match i,(show i<4 by lia) with
    | 0,_=>cases e
    | 1,_=>cases e
    | 2,_=>cases e
    | 3,_=>cases e;exact hw
   have S04:=S.trans (S3.trans S4);refine SdAt.ne h3' h4 uP (okk (ank hz)) (okk (ank c9)) ⟨_,rfl,?_⟩;refine iteN (fun G8=>SdAt.lt h3' h4 uP ?_) fun he=>hP _ _ _ ⟨_,_,_,⟨rfl,S04⟩,fun j hj=>?_⟩
   .have hq:=q H4 S04;have lZ:C7 bh (E9 R L M) z.cps.toList z'.cps.toList i≠0:=by rw [hlv];unfold cmpD;rw [if_neg G8];split <;> decide
    rw [y4 hi h0 lZ,hlv] at hq;unfold cmpD at hq;rw [if_neg G8] at hq;walk_at "rd"
    by_cases C5:(cY bh (E9 R L M) z i).lt (cY bh (E9 R L M) z' i)=true
    .rw [if_pos C5] at hq ⊢
     exact ⟨.inl ⟨by decide,by decide⟩,hq⟩
    .rw [if_neg C5] at hq ⊢
     exact ⟨.inl ⟨by decide,by decide⟩,hq⟩
   .by_cases hji:j=i
    .rw [hji,hlv,he];exact if_pos rfl
    .exact h0 j 'a'
  rintro Y H2 ⟨u,v,w,⟨rfl,S⟩,h0⟩;walk_at "rd"
  have:=q H2 S
  rw [bH h0] at this;exact this
theorem sc_l_texts:FnScope ["_law_script", "_law_some_here", "_law_near", "_law_mine", "_law_theirs", "_law_cell", "_law_number_here", "_law_more"] ["_law_script", "_law_some_here"] (C1 X6):=E7
abbrev fI:List Str:=["_law_script", "_law_some_here", "_law_near", "_law_mine", "_law_theirs", "_law_cell", "_law_number_here", "_law_more"]
theorem zP:VS fI X6 "_law_script" 0:=vq
theorem iK:VS fI X6 "_law_some_here" 1:=vq
theorem vfl:VS fI X6 "_law_near" 2:=vq
theorem tT:VS fI X6 "_law_mine" 3:=vq
theorem zQ:VS fI X6 "_law_theirs" 4:=vq
theorem vfo:VS fI X6 "_law_cell" 5:=vq
theorem zR:VS fI X6 "_law_number_here" 6:=vq
theorem zS:VS fI X6 "_law_more" 7:=vq
theorem vfr:LS X6 "_law_near":=lq
theorem zT:LS X6 "_law_mine":=lq
theorem zU:LS X6 "_law_theirs":=lq
theorem vfu:LS X6 "_law_cell":=lq
theorem vfv:LS X6 "_law_number_here":=lq
theorem vfw:LS X6 "_law_more":=lq
theorem ajg(F:FunD K "_law_texts" "_law_texts" X6 f fd)(T:Txt P w K mg C)(G_l_number:FO P w K mg base 1 "_law_number" ["_law_script", "_law_k"] [] (iB K)):FnOk P w K mg base E1 2 f fd ["_law_script", "_law_some_here"] (ak3 K):=by
 refine F.ok sc_l_texts ?_ ?_
 .rintro _ _ _ _ ⟨a,l,n,ns,zs,rfl,_⟩;rfl
 .intro cdv A outer s H vs Q E hr h;have B5:=hu_of hr;have hu:=hr.units;refine ⟨_,QSs.out (A4 (qs_if (E2 (q_eq (K:=K) hu) (vi iK) (R7 A2)) (A5 (D1 (F9 (qa_c M5 (qa_c M5 A2))))) G5)
   (A4 (C4 (n:=2) sc_l_texts.nd rfl vfr (qe_op q_mod (C9 G_l_number (hm hr) (qa_c (vi zP) (qa_c A1 A2))) A1))
   (A4 (C4 (n:=3) sc_l_texts.nd rfl zT M5)
   (A4 (C4 (n:=4) sc_l_texts.nd rfl zU M5)
   (A4 (N0 PassesOwn.never (P7 (K:=K) (M9 (K:=K) (vi zP) (L1 A1) (L1 A1))) (D3 (n:=5) sc_l_texts.nd rfl vfu (.inl rfl)) (A4 (C4 (n:=6) sc_l_texts.nd rfl vfv (qe_op q_mod (qe_op q_mul (vi vfo) A1) A1))
   (A4 (C4 (n:=3) sc_l_texts.nd rfl zT (qe_op (q_add (K:=K)) (vi tT) (qe_ix (K:=K) (vi iK) (qe_op q_mod (vi zR) (qe_cB (q_len (K:=K)) T.b_len W6 (qa_c (vi iK) A2))))))
   (A5 (qs_if (QW.pt (cN (E2 q_gt (vi vfl) A1) (eS (E2 q_gt (qe_op q_mod (qe_op W7 (vi zR) A1) A1) A1)))) (A5 (C4 (n:=4) sc_l_texts.nd rfl zU (qe_op (q_add (K:=K)) (vi zQ) (qe_ix (K:=K) (vi tT) (qe_un q_neg A1))))) (A5 (C4 (n:=4) sc_l_texts.nd rfl zU (qe_op (q_add (K:=K)) (vi zQ) (qe_ix (K:=K) (vi iK) (qe_op q_mod (qe_op W7 (vi zR) A1) (qe_cB (q_len (K:=K)) T.b_len W6 (qa_c (vi iK) A2))))))))))))
   (A4 (C4 (n:=7) sc_l_texts.nd rfl vfw (qe_op W7 (C9 G_l_number (hm hr) (qa_c (vi zP) (qa_c A1 A2))) A1))
   (cO (qs_if (E2 (q_eq (K:=K) hu) (qe_op q_mod (vi zS) A1) A1) (A5 (C4 (n:=3) sc_l_texts.nd rfl zT (qe_op (q_add (K:=K)) (vi tT) (qe_op arn (qe_ix (K:=K) (vi iK) (qe_op q_mod (qe_op W7 (vi zS) A1) (qe_cB (q_len (K:=K)) T.b_len W6 (qa_c (vi iK) A2)))) (qe_op q_mod (qe_op W7 (vi zS) A1) A1))))) G5)
   (A5 (D1 (F9 (qa_c (vi tT) (qa_c (vi zQ) A2)))))))))))),?_⟩
  obtain ⟨a,l,n,ns,zs,rfl,hS,hl,Z,q⟩:=h;have okz:∀ z∈zs,p9 z=true:=fun z hz=>by obtain ⟨i,_,rfl⟩:=Z.of z hz;exact aoV (sS n i).2
  walk_at "rd";intro p1 n1;refine newQ (A0 _ _ (.lst [])) (Same.new n1) A3 fun H1 T1 e1=>?_
  have dH:=T1 _ _ hl;refine ⟨_,.lst (.of dH) (uae okz),_,.lst (.of e1) .nil,by simp [eK,aQ],?_⟩;rw [show (PyData.list (zs.map PyData.str)).eqv (PyData.list [])=decide (zs=[]) from ahR zs []];refine iteD (fun h0=>⟨by decide,fun p2 n2=>q p2 _ _ _ (T1.free n2) (T1.trans (Same.new n2)) A3 (fun c hc=>absurd hc cB) (fun c hc=>absurd hc cB) (by decide) (by decide)⟩) fun h0=>?_
  have dJ:0<zs.length:=List.length_pos_iff.mpr h0;have zat:∀ x:Int,∃ c,F8 (zs.map V.str) (x % (zs.length:Int))=some (V.str (one c))/\one c∈zs:=fun x=>by
   have h1:=Int.emod_nonneg x (show (zs.length:Int)≠0 by lia);have h2:=nG x (show (0:Int)<(zs.length:Int) by lia);obtain ⟨i,hi⟩:∃ i:Nat,x % (zs.length:Int)=i:=⟨(x % (zs.length:Int)).toNat,by lia⟩
   have Y2:i<zs.length:=by lia
   obtain ⟨j,_,e⟩:=Z.of zs[i] (cC Y2);refine ⟨X7 n (j:Int),?_,?_⟩
   .rw [hi];exact J9 (by rw [R6,J5 Y2,e];rfl)
   .have:=cC Y2;rw [e] at this;exact this
  refine ⟨a,ns,10,rfl,T1.seq hS,by decide,_,rfl,rSlR.l (T1.seq hS) fun l2 n2=>?_⟩;generalize numF ns 10=num;rw [show cutV (ns.map V.int) (some 11) (some 91)=((ns.drop 11).take 80).map V.int by rw [show cutV (ns.map V.int) (some 11) (some 91)=_ from sD _ (i:=11) (j:=91) (by decide),<- cD,<- v7]];have uI:((ns.drop 11).take 80).length<=80:=by rw [F7];lia
  generalize (ns.drop 11).take 80=cs at uI;refine newQ (A0 _ _ (.lst (cs.map V.int))) (Same.new n2) A3 fun H2 T2 e2=>?_
  have S2:=T1.trans T2;have V8:=S2 _ _ hl;refine ⟨l2,rfl,⟨_,.of e2⟩,forLs (xs:=cs.map V.int) (fun i Y H3=>∃ (u1 u2:Option V) (u v:Str),(Y=[some (.ref a),some (.ref l),some (.int (num % 3)),some (.str u),some (.str v),u1,u2,none]/\H3=H2)/\u.length=i/\v.length=i/\(∀ c∈u.cps.toList,one c∈zs)/\∀ c∈v.cps.toList,one c∈zs) ⟨none,none, "", "",⟨rfl,rfl⟩,rfl,rfl,fun c hc=>absurd hc cB,fun c hc=>absurd hc cB⟩ (fun i Y H3 _ ⟨_,_,_,_,⟨_,e⟩,_⟩=>by rw [e];exact .of e2) ?_ ?_⟩
  .rintro P' Bk hP i x Y H3 hx ⟨u1,u2,u,v,⟨rfl,rfl⟩,dW,aB,hu,hv⟩;obtain ⟨y,hy,rfl⟩:=J8 hx;have hi:i<cs.length:=(E6.mp hy).1;have add:∀ {w:Str} {c:Nat},(∀ c∈w.cps.toList,one c∈zs)->one c∈zs->∀ e∈(w++one c).cps.toList,one e∈zs:=fun {w c} hw hc e he=>by
    rw [j0] at he
    rcases E8.mp he with he | he
    .exact hw e he
    .rw [E5.mp (show e∈[c] from he)];exact hc
   walk_at "rd";refine ⟨.inr ⟨by decide,by decide⟩,zs.length,.inl ⟨_,.of V8,by rw [A6]⟩,by lia,?_⟩;generalize y*69621 % 2147483629=x;obtain ⟨c,o5,N2⟩:=zat x;refine ⟨_,.inl (.of V8),_,o5,?_⟩;walk_at "rd";refine ⟨by rw [dW];exact L9 (by show i+1<=_;lia),?_⟩;have fin:∀ {d:Nat},one d∈zs->P' (i+1) [some (.ref a),some (.ref l),some (.int (num % 3)),some (.str (u++one c)),some (.str (v++one d)),some (.int y),some (.int x),none] H3:=fun {d} hd=>hP _ _ _ ⟨_,_,_,_,⟨rfl,rfl⟩,by rw [y0,dW];rfl,by rw [y0,aB];rfl,add hu N2,add hv hd⟩
   obtain ⟨d,qG,U1⟩:=zat (x / 64);have other:∃ n:Nat,LenR K H3 l n/\0<(n:Int)/\∃ xs,(D8 K H3 l xs\/B1 K H3 l xs)/\∃ x_1,F8 xs (x / 64 % (n:Int))=some x_1/\rAddU K (V.str v) x_1 H3 fun x_2 H1=>P' (i+1) [some (V.ref a),some (V.ref l),some (V.int (num % 3)),some (V.str (u++one c)),some x_2,some (V.int y),some (V.int x),none] H1:=by
    refine ⟨zs.length,.inl ⟨_,.of V8,by rw [A6]⟩,by lia,_,.inl (.of V8),_,qG,?_⟩;walk_at "rd";exact ⟨by rw [aB];exact L9 (by show i+1<=_;lia),fin U1⟩
   refine iteD (fun _=>iteD (fun _=>⟨by rw [y0,dW];exact L9 (by show i+1<=_;lia),c,by rw [j0];exact aoY,by rw [aB];exact L9 (by show i+1<=_;lia),fin N2⟩) fun _=>other) fun _=>other
  rintro Y H3 ⟨u1,u2,u,v,⟨rfl,rfl⟩,dW,aB,hu,hv⟩;rw [A6] at dW aB;walk_at "rd";refine ⟨a,ns,10,rfl,S2.seq hS,by decide,_,rfl,?_⟩;generalize numF ns 10 / 3=more;refine midS (fun Y H4=>∃ (w:Str) (r:V),(Y=[some (.ref a),some (.ref l),some (.int (num % 3)),some (.str w),some (.str v),u1,u2,some r]/\H4=H3)/\w.length<=100/\∀ c∈w.cps.toList,one c∈zs) ?_ ?_
  .intro M' hM';walk_at "rd";refine iteD (fun h=>?_) fun h=>hM' _ _ ⟨u,_,⟨rfl,rfl⟩,by lia,hu⟩
   obtain ⟨c,o5,N2⟩:=zat (more / 4);refine ⟨zs.length,.inl ⟨_,.of V8,by rw [A6]⟩,by lia,_,.inl (.of V8),_,o5,?_⟩;obtain ⟨m1,m2,m3⟩:=arM (c:=c) (n:=more / 16 % 4) 'a' 'a';refine ⟨one c,_,rfl,rfl,m1,?_⟩;walk_at "rd";have m2':(Txt.mul (one c) (more / 16 % 4)).length<=3:=m2;refine ⟨L9 'a',hM' _ _ ⟨_,_,⟨rfl,rfl⟩,by rw [y0];lia,fun e he=>?_⟩⟩;rw [j0] at he
   rcases E8.mp he with he | he
   .exact hu e he
   .rw [m3 e he];exact N2
  rintro Y H4 ⟨w,r,⟨rfl,rfl⟩,pQ,hw⟩;walk_at "rd";exact ⟨by decide,fun p np=>q p _ w v (S2.free np) (S2.trans (Same.new np)) A3 hw hv pQ 'a'⟩
theorem sc_l_room:FnScope ["_law_mine", "_law_theirs", "_law_made_here", "_law_strength", "_law_many", "_law_level", "_law_sign_here"] ["_law_mine", "_law_theirs", "_law_made_here", "_law_strength"] (C1 m8):=E7
abbrev iL:List Str:=["_law_mine", "_law_theirs", "_law_made_here", "_law_strength", "_law_many", "_law_level", "_law_sign_here"]
theorem vfx:VS iL m8 "_law_mine" 0:=vq
theorem vfy:VS iL m8 "_law_theirs" 1:=vq
theorem vfz:VS iL m8 "_law_made_here" 2:=vq
theorem vfA:VS iL m8 "_law_strength" 3:=vq
theorem vfB:VS iL m8 "_law_many" 4:=vq
theorem vfC:VS iL m8 "_law_level" 5:=vq
theorem vfD:VS iL m8 "_law_sign_here" 6:=vq
theorem vfE:LS m8 "_law_many":=lq
theorem vfF:LS m8 "_law_level":=lq
theorem vfG:LS m8 "_law_sign_here":=lq
theorem ale(F:FunD K "_law_room" "_law_room" m8 f fd)(T:Txt P w K mg C)(G_l_put:FO P w K mg base 2 "_law_put" ["_law_one", "_law_other", "_law_made_here", "_law_strength"] [] (yB K C 6)):FnOk P w K mg base E1 3 f fd ["_law_mine", "_law_theirs", "_law_made_here", "_law_strength"] (aiu C 6):=by
 refine F.ok sc_l_room ?_ ?_
 .rintro _ _ _ _ ⟨t,u,v,k,n,bh,R,L,M,rfl,_⟩;rfl
 .intro cdv A outer s H vs Q E hr h;have B5:=hu_of hr;have hu:=hr.units;refine ⟨_,QSs.out (A4 (C4 (n:=4) sc_l_room.nd rfl vfE (qe_cB (q_min (calm:=true)) T.b_min amT (qa_c (qe_cB (q_len (K:=K)) T.b_len W6 (qa_c (vi vfx) A2)) (qa_c (qe_cB (q_len (K:=K)) T.b_len W6 (qa_c (vi vfy) A2)) A2))))
   (A4 (N0 PassesOwn.never (qi_r2 T.b_range (qa_c A1 (qa_c (qe_op (q_add (K:=K)) (vi vfA) A1) A2))) (D3 (n:=5) sc_l_room.nd rfl vfF (.inl rfl)) (A4 (C4 (n:=6) sc_l_room.nd rfl vfG (C9 G_l_put (hm hr) (qa_c (M9 (K:=K) (vi vfx) Q3 (L1 (vi vfB))) (qa_c (M9 (K:=K) (vi vfy) Q3 (L1 (vi vfB))) (qa_c (vi vfz) (qa_c (vi vfC) A2))))))
   (A5 (qs_if (E2 (q_ne (K:=K) hu) (vi vfD) A1) (A5 (D1 (F9 (qa_c (vi vfC) (qa_c (vi vfD) A2))))) G5))))
   (A5 (D1 (F9 (qa_c A1 (qa_c A1 A2))))))),?_⟩
  obtain ⟨t,u,v,k,n,bh,R,L,M,rfl,hk,hM,hu,hv,dW,aB,q⟩:=h;walk_at "rd";refine ⟨L9 'a',L9 'a',by decide,by decide,by lia,by lia,?_⟩;rw [show ((k:Int)+1-1).toNat=k by lia,show (if (v.length:Int)<(u.length:Int) then (v.length:Int) else (u.length:Int))=((min u.length v.length:Nat):Int) by split <;> lia];refine forRs (fun i Y H2=>∃ (w x:Option V),(Y=[some (.str u),some (.str v),some (.ref t),some (.int k),some (.int ((min u.length v.length:Nat):Int)),w,x]/\Same H H2)/\∀ j<i,(difL (j+1) (C7 bh (E9 R L M) (O3 u v u) (O3 u v v))).2=0) ⟨none,none,⟨rfl,cK _⟩,fun j hj=>absurd hj (Nat.not_lt_zero j)⟩ ?_ ?_
  .rintro P' Bk hP i Y H2 hi ⟨w,x,⟨rfl,S⟩,h0⟩;have t1:=takeS u (min u.length v.length) 'a';have t2:=takeS v (min u.length v.length) 'a';have o1:T0 (sg8L n (6+2)) (cutS u none (some ((min u.length v.length:Nat):Int))):=fun c hc=>by rw [t1] at hc;exact hu c (bY hc)
   have o2:T0 (sg8L n (6+2)) (cutS v none (some ((min u.length v.length:Nat):Int))):=fun c hc=>by rw [t2] at hc;exact hv c (bY hc)
   have l1:=ahT u none (some ((min u.length v.length:Nat):Int));have l2:=ahT v none (some ((min u.length v.length:Nat):Int));have e1:(1+(i:Int))=((i+1:Nat):Int):=by lia
   walk_at "rd";refine ⟨L9 'a',L9 'a',t,_,_,i+1,n,bh,R,L,M,by rw [e1],by lia,hM.same S,o1,o2,by lia,by lia,fun H3 S3=>?_⟩;rw [t1,t2];have h00:∀ j<i,C7 bh (E9 R L M) (O3 u v u) (O3 u v v) j=0:=fun j hj=>difL_zero.mp (h0 j hj) j (jZ j)
   walk_at "rd";refine iteN (fun G8=>⟨by decide,fun p np=>q p _ ((S.trans S3).free np) ((S.trans S3).trans (Same.new np)) ?_⟩) fun he=>hP _ _ _ ⟨_,_,⟨rfl,S.trans S3⟩,fun j hj=>?_⟩
   .have hn:C7 bh (E9 R L M) (O3 u v u) (O3 u v v) i≠0:=fun q=>G8 (difL_zero.mpr fun j hj=>by
     by_cases e:j=i
     .rw [e];exact q
     .exact h00 j 'a')
    rw [A3,y4 hi h00 hn,e1]
    have:=y4 (jZ i) h00 hn
    unfold O3 at this ⊢
    rw [this]
   .by_cases e:j=i
    .rw [e];exact he
    .exact h0 j 'a'
  rintro Y H2 ⟨w,x,⟨rfl,S⟩,h0⟩;walk_at "rd";refine ⟨by decide,fun p np=>q p _ (S.free np) (S.trans (Same.new np)) ?_⟩;rw [A3,bH fun j hj=>difL_zero.mp (h0 j hj) j (jZ j)]
theorem sc_law:FnScope ["_law_script", "_law_pool_here", "_law_some_here", "_law_one", "_law_other", "_law_strength", "_law_pair", "_law_rooms", "_law_here", "_law_mine", "_law_theirs", "_law_sign_here", "_law_left", "_law_right"] ["_law_script"] (C1 s_law):=E7
abbrev n_law:List Str:=["_law_script", "_law_pool_here", "_law_some_here", "_law_one", "_law_other", "_law_strength", "_law_pair", "_law_rooms", "_law_here", "_law_mine", "_law_theirs", "_law_sign_here", "_law_left", "_law_right"]
theorem pI:VS n_law s_law "_law_script" 0:=vq
theorem vfI:VS n_law s_law "_law_pool_here" 1:=vq
theorem vfJ:VS n_law s_law "_law_some_here" 2:=vq
theorem pJ:VS n_law s_law "_law_one" 3:=vq
theorem pK:VS n_law s_law "_law_other" 4:=vq
theorem dB:VS n_law s_law "_law_strength" 5:=vq
theorem pL:VS n_law s_law "_law_pair" 6:=vq
theorem vfO:VS n_law s_law "_law_rooms" 7:=vq
theorem vfP:VS n_law s_law "_law_here" 8:=vq
theorem iM:VS n_law s_law "_law_mine" 9:=vq
theorem iN:VS n_law s_law "_law_theirs" 10:=vq
theorem pM:VS n_law s_law "_law_sign_here" 11:=vq
theorem vfT:VS n_law s_law "_law_left" 12:=vq
theorem vfU:VS n_law s_law "_law_right" 13:=vq
theorem vfV:LS s_law "_law_pool_here":=lq
theorem vfW:LS s_law "_law_some_here":=lq
theorem vfX:LS s_law "_law_one":=lq
theorem vfY:LS s_law "_law_other":=lq
theorem vfZ:LS s_law "_law_strength":=lq
theorem vf0:LS s_law "_law_pair":=lq
theorem vf1:LS s_law "_law_rooms":=lq
theorem vf2:LS s_law "_law_here":=lq
theorem vf3:LS s_law "_law_mine":=lq
theorem vf4:LS s_law "_law_theirs":=lq
theorem vf5:LS s_law "_law_sign_here":=lq
theorem vf6:LS s_law "_law_left":=lq
theorem vf7:LS s_law "_law_right":=lq
theorem arO(F:FunD K "law" "law" s_law f fd)(T:Txt P w K mg C)(G3_compare:FO P w K mg base 8 "compare" ["order", "one", "other", "strength"] [] (hX C))(G3_beside:FO P w K mg base 12 "beside" ["one", "other", "signs", "strength"] [] (spBes K C))(G_l_number:FO P w K mg base 1 "_law_number" ["_law_script", "_law_k"] [] (iB K))(G_l_pool:FO P w K mg base 2 "_law_pool" ["_law_script"] [] (akY K 10))(G_l_both:FO P w K mg base 8 "_law_both" ["_law_script", "_law_pool_here"] [] (ak0 K C 6 10))(G_l_some:FO P w K mg base 2 "_law_some" ["_law_script", "_law_pool_here"] [] (ait K))(G_l_put:FO P w K mg base 2 "_law_put" ["_law_one", "_law_other", "_law_made_here", "_law_strength"] [] (yB K C 6))(G_l_texts:FO P w K mg base 2 "_law_texts" ["_law_script", "_law_some_here"] [] (ak3 K))(G_l_room:FO P w K mg base 3 "_law_room" ["_law_mine", "_law_theirs", "_law_made_here", "_law_strength"] [] (aiu C 6)):FnOk P w K mg base E1 13 f fd ["_law_script"] (spLaw K):=by
 refine F.ok sc_law ?_ ?_
 .rintro _ _ _ _ ⟨a,ns,rfl,_⟩;rfl
 .intro cdv A outer s H vs Q E hr h;have B5:=hu_of hr;have hu:=hr.units;refine ⟨_,QSs.out (A4 (C4 (n:=1) sc_law.nd rfl vfV (C9 G_l_pool (hm hr) (qa_c (vi pI) A2)))
   (A4 (C4 (n:=2) sc_law.nd rfl vfW (C9 G_l_some (hm hr) (qa_c (vi pI) (qa_c (vi vfI) A2))))
   (A4 (gY (C9 G_l_both (hm hr) (qa_c (vi pI) (qa_c (vi vfI) A2))) (x5 (K:=K) (n:=2) (P6 ((D3 (n:=3) sc_law.nd rfl vfX (.inl rfl))) (P6 ((D3 (n:=4) sc_law.nd rfl vfY (.inl rfl))) x4))))
   (A4 (C4 (n:=5) sc_law.nd rfl vfZ (qe_op (q_add (K:=K)) A1 (qe_op q_mod (C9 G_l_number (hm hr) (qa_c (vi pI) (qa_c A1 A2))) A1)))
   (A4 (gY (C9 G3_beside (hm hr) (qa_c (qe_ix (K:=K) (vi pJ) A1) (qa_c (qe_ix (K:=K) (vi pK) A1) (qa_c (qe_cT (nY (K:=K) (calm:=true)) T.b_list kM (qa_c (vi vfJ) A2)) (qa_c (vi dB) A2))))) (x5 (K:=K) (n:=2) (P6 ((D3 (n:=6) sc_law.nd rfl vf0 (.inl rfl))) (P6 ((D3 (n:=7) sc_law.nd rfl vf1 (.inl rfl))) x4))))
   (A4 (qs_if (E2 wJ (vi pL) gU) (A4 (C4 (n:=8) sc_law.nd rfl vf2 (C9 G3_compare (hm hr) (qa_c (qe_ix (K:=K) (vi pJ) A1) (qa_c (qe_ix (K:=K) (vi pL) A1) (qa_c (qe_ix (K:=K) (vi pL) A1) (qa_c (vi dB) A2))))))
   (A5 (D1 (wG (k8 q_isN (vi vfO) gU) (rQ (k8 (q_ne (K:=K) hu) (vi vfP) (C9 G3_compare (hm hr) (qa_c (qe_ix (K:=K) (vi pK) A1) (qa_c (qe_ix (K:=K) (vi pL) A1) (qa_c (qe_ix (K:=K) (vi pL) A1) (qa_c (vi dB) A2))))))))))) G5)
   (A4 (gY (C9 G_l_texts (hm hr) (qa_c (vi pI) (qa_c (vi vfJ) A2))) (x5 (K:=K) (n:=2) (P6 ((D3 (n:=9) sc_law.nd rfl vf3 (.inl rfl))) (P6 ((D3 (n:=10) sc_law.nd rfl vf4 (.inl rfl))) x4))))
   (A4 (C4 (n:=11) sc_law.nd rfl vf5 (C9 G3_compare (hm hr) (qa_c (qe_ix (K:=K) (vi pJ) A1) (qa_c (vi iM) (qa_c (vi iN) (qa_c (vi dB) A2))))))
   (A4 (qs_if (QW.pt (qw_or (E2 (q_ne (K:=K) hu) (C9 G3_compare (hm hr) (qa_c (qe_ix (K:=K) (vi pK) A1) (qa_c (vi iM) (qa_c (vi iN) (qa_c (vi dB) A2))))) (vi pM)) (nW (E2 (q_ne (K:=K) hu) (C9 G_l_put (hm hr) (qa_c (vi iM) (qa_c (vi iN) (qa_c (vi pJ) (qa_c (vi dB) A2))))) (vi pM))))) (A5 (D1 qe_bl)) G5)
   (A4 (qs_if (E2 (q_ne (K:=K) hu) (C9 G_l_put (hm hr) (qa_c (vi iM) (qa_c (vi iN) (qa_c (vi pK) (qa_c (vi dB) A2))))) (vi pM)) (A5 (D1 qe_bl)) G5)
   (A4 (C4 (n:=12) sc_law.nd rfl vf6 (C9 G_l_room (hm hr) (qa_c (vi iM) (qa_c (vi iN) (qa_c (vi pJ) (qa_c (vi dB) A2))))))
   (A4 (C4 (n:=13) sc_law.nd rfl vf7 (C9 G_l_room (hm hr) (qa_c (vi iM) (qa_c (vi iN) (qa_c (vi pK) (qa_c (vi dB) A2))))))
   (A4 (qs_if (E2 (arF (K:=K) hu) (qe_op (q_add (K:=K)) (vi vfT) (vi vfU)) (vi vfO)) (A5 (D1 qe_bl)) G5)
   (A5 (D1 (qe_or (k8 (q_ne (K:=K) hu) (qe_cB (q_len (K:=K)) T.b_len W6 (qa_c (vi iM) A2)) (qe_cB (q_len (K:=K)) T.b_len W6 (qa_c (vi iN) A2))) (rQ (wG (k8 (q_eq (K:=K) hu) (qe_ix (K:=K) (vi vfT) A1) (vi pM)) (rQ (k8 (q_eq (K:=K) hu) (qe_ix (K:=K) (vi vfU) A1) (vi pM))))))))))))))))))))),?_⟩
  obtain ⟨a,ns,rfl,hS,A9,q⟩:=h;walk_at "rd";refine ⟨a,ns,rfl,hS,fun p H1 np S1 hp=>?_⟩;generalize numF ns 0=n at *;refine ⟨a,p,n,ns,rfl,S1.seq hS,hp,fun sl H2 zs nsl S2 hsl Z=>?_⟩;have uT:=S1.trans S2;refine ⟨a,p,n,ns,rfl,uT.seq hS,S2 _ _ hp,fun t t1 t2 H3 b1 b2 R L M R' L' M' nt S3 ht hM1 hM2=>?_⟩;refine ⟨t,rfl,_,.of ht,rfl,_,_,rfl,_,_,rfl,rfl,a,ns,9,rfl,(uT.trans S3).seq hS,by decide,_,rfl,?_⟩;obtain ⟨sg,hsg,qT,R1⟩:∃ sg:Nat,1+numF ns 9 % 4=sg/\1<=sg/\sg<=4:=⟨(1+numF ns 9 % 4).toNat,by lia,by lia,by lia⟩
  rw [hsg];have jP:=S3 _ _ hsl;have hS3:=(uT.trans S3).seq hS;obtain ⟨x1,d1,k1,qU,O1,_⟩:=hM1.ex;obtain ⟨x2,d2,k2,qV,O2,_⟩:=hM2.ex;walk_at "rd";refine ⟨_,.inr (.of qU),V.ref x1,rfl,_,.inr (.of qV),V.ref x2,rfl,?_⟩;refine rListR.l (.inl (.of jP)) fun hd nhd=>?_
  refine newQ (A0 _ _ (.lst (zs.map V.str))) (Same.new nhd) A3 fun H4 T4 e4=>?_
  replace hM1:=hM1.same T4
  replace hM2:=hM2.same T4
  replace O1:=O1.same T4
  replace O2:=O2.same T4
  replace qU:=T4 _ _ qU
  replace qV:=T4 _ _ qV
  have hsl4:=T4 _ _ jP
  replace hS3:=T4.seq hS3
  clear T4 nhd jP hsl S3 S2 S1 uT ht nt hp np nsl hS A9 hsg;obtain ⟨ck,tx⟩:=Z.chk hM1 hM2;have jF:∀ z∈zs,z.length<=1/\(stepF R L M z).length<=15/\(stepF R' L' M' z).length<=15:=fun z hz=>by
   obtain ⟨i,_,rfl⟩:=Z.of z hz;exact ⟨C3 1,hM1.st _,hM2.st _⟩
  refine ⟨x1,x2,hd,zs,sg,R,R',L,M,L',M',rfl,R1,O1,O2,e4,Z.len,jF,ck,tx,fun g H5 ng S5 hB=>?_⟩;have zin:∀ {w:Str},(∀ c∈w.cps.toList,one c∈zs)->T0 (sg8L n (6+2)) w:=fun {w} hw c hc=>(Z.ch.2 c (D7.mpr ⟨one c,hw c hc,rfl⟩)).2
  have cmp:∀ {u v:Str} {H6:Hp} {Q6:VK},Same H4 H6->T0 (sg8L n (6+2)) u->T0 (sg8L n (6+2)) v->u.length<=500->v.length<=500->(∀ H7,Same H6 H7->Q6 (.int (difL sg (C7 b1 (E9 R L M) u.cps.toList v.cps.toList)).2) H7)->hX C [.ref x1,.str u,.str v,.int sg] H6 Q6 E0:=fun {u v H6 Q6} S6 w3 w4 l3 l4 q6=>by
   have c1:=hM1.en.cmp R1 w3 w4;rw [hM1.bh] at c1;obtain ⟨j1,l1,m1,e1,I1⟩:=(O1.same S6).ex;exact ⟨x1,j1,l1,m1,e1,u,v,sg,_,R,L,M,rfl,R1,I1,O1.kn,l3,l4,hM1.en.whole w3,hM1.en.whole w4,O1.st,fun H7 S7=>by rw [c1];exact q6 H7 S7⟩
  have cmp2:∀ {u v:Str} {H6:Hp} {Q6:VK},Same H4 H6->T0 (sg8L n (6+2)) u->T0 (sg8L n (6+2)) v->u.length<=500->v.length<=500->(∀ H7,Same H6 H7->Q6 (.int (difL sg (C7 b2 (E9 R' L' M') u.cps.toList v.cps.toList)).2) H7)->hX C [.ref x2,.str u,.str v,.int sg] H6 Q6 E0:=fun {u v H6 Q6} S6 w3 w4 l3 l4 q6=>by
   have c1:=hM2.en.cmp R1 w3 w4;rw [hM2.bh] at c1;obtain ⟨j1,l1,m1,e1,I1⟩:=(O2.same S6).ex;exact ⟨x2,j1,l1,m1,e1,u,v,sg,_,R',L',M',rfl,R1,I1,O2.kn,l3,l4,hM2.en.whole w3,hM2.en.whole w4,O2.st,fun H7 S7=>by rw [c1];exact q6 H7 S7⟩
  rcases hB with ⟨pr,u,v,hg,qN,dW,aB,hW⟩ | ⟨rl,es,hg,hrl,hrt,B,_⟩
  .obtain ⟨w1,w2,w3,w4,w5⟩:=wit8 hM1 hM2 Z R1 qT hW;refine ⟨g,rfl,_,.of hg,rfl,_,_,rfl,_,_,rfl,rfl,?_⟩;rw [if_pos 'c'];refine ⟨_,.inr (.of (S5 _ _ qU)),V.ref x1,rfl,?_⟩;walk_at "rd";refine ⟨_,.inr (.of qN),V.str u,M3 _ _,_,.inr (.of qN),V.str v,J9 (j:=1) rfl,cmp S5 w3 w4 'a' 'a' fun H6 S6=>?_⟩;rw [if_pos 'c'];refine ⟨_,.inr (.of ((S5.trans S6) _ _ qV)),V.ref x2,rfl,_,.inr (.of (S6 _ _ qN)),V.str u,M3 _ _,_,.inr (.of (S6 _ _ qN)),V.str v,J9 (j:=1) rfl,cmp2 (S5.trans S6) w3 w4 'a' 'a' fun H7 S7=>?_⟩;walk_at "rd";rw [decide_eq_false w5];exact q _
  .refine ⟨g,rfl,_,.of hg,rfl,_,_,rfl,_,_,rfl,rfl,?_⟩;rw [if_neg 'c'];refine ⟨a,sl,n,ns,zs,rfl,S5.seq hS3,S5 _ _ hsl4,Z,fun tt H6 u v ntt S6 htt hu hv dW aB=>?_⟩;have gD:=S5.trans S6;have w3:=zin hu;have w4:=zin hv;obtain ⟨nv1,e0,he0,er0⟩:=arN hM1 hM2 Z R1 qT B hu hv;refine ⟨tt,rfl,_,.of htt,rfl,_,_,rfl,_,_,rfl,rfl,_,.inr (.of (gD _ _ qU)),V.ref x1,rfl,cmp gD w3 w4 'a' 'a' fun H7 S7=>?_⟩;have S47:=gD.trans S7;refine ⟨_,.inr (.of (S47 _ _ qV)),V.ref x2,rfl,cmp2 S47 w3 w4 'a' 'a' fun H8 S8=>?_⟩;have S48:=S47.trans S8;walk_at "rd";rw [<- nv1,if_neg 'c'];refine ⟨t1,u,v,sg,n,b1,R,L,M,rfl,R1,hM1.same S48,w3,w4,by lia,by lia,fun H9 S9=>?_⟩;walk_at "rd";rw [if_neg 'c'];have gE:=S48.trans S9;refine ⟨t2,u,v,sg,n,b2,R',L',M',rfl,R1,hM2.same gE,w3,w4,by lia,by lia,fun j6 mR=>?_⟩;walk_at "rd";rw [nv1,if_neg 'c'];have S410:=gE.trans mR;refine ⟨t1,u,v,sg,n,b1,R,L,M,rfl,R1,hM1.same S410,w3,w4,by lia,by lia,fun r1 H11 nr1 S11 hr1=>⟨t2,u,v,sg,n,b2,R',L',M',rfl,R1,(hM2.same S410).same S11,w3,w4,by lia,by lia,fun r2 H12 nr2 u9 hr2=>?_⟩⟩;walk_at "rd";refine rAddR.t (.of (u9 _ _ hr1)) (.of hr2) 'c' (by simp only [L0,Z6];decide) (fun e=>by cases e) fun _ r3 nr3=>?_
   refine newQ (A0 _ _ (.tup ([V.int (difL sg (C7 b1 (E9 R L M) (O3 u v u) (O3 u v v))).1,V.int (difL sg (C7 b1 (E9 R L M) (O3 u v u) (O3 u v v))).2]++[V.int (difL sg (C7 b2 (E9 R' L' M') (O3 u v u) (O3 u v v))).1,V.int (difL sg (C7 b2 (E9 R' L' M') (O3 u v u) (O3 u v v))).2]))) (Same.new nr3) A3 fun H13 T13 e13=>?_
   have S513:=S6.trans (S7.trans (S8.trans (S9.trans (mR.trans (S11.trans (u9.trans T13))))));have er1:e0.r=roomF sg b1 b2 (E9 R L M) (E9 R' L' M') (O3 u v u) (O3 u v v):=by rw [er0];unfold O3;rw [lenL,lenL]
   refine ⟨y8 (roomF sg b1 b2 (E9 R L M) (E9 R' L' M') (O3 u v u) (O3 u v v)),ak4 (.of e13),_,.lst (.of (S513 _ _ hrl)) (aiv fun e he=>fF S513 (hrt e he)),N5 (Nat.min_le_right _ _) (ak5 _),?_⟩;rw [show ((es.map fun e=>y8 e.r).any fun e=>e.eqv (y8 (roomF sg b1 b2 (E9 R L M) (E9 R' L' M') (O3 u v u) (O3 u v v))))=true from List.any_eq_true.mpr ⟨y8 e0.r,D7.mpr ⟨e0,he0,rfl⟩,by rw [er1];exact aoZ _⟩];refine iteF ⟨L9 'a',L9 'a',iteN (fun _=>q _) fun hl=>?_⟩;have fT:u.length=v.length:=by lia
   have tu:O3 u v u=u.cps.toList:=by unfold O3;rw [fT,Nat.min_self,<- fT,<- lenL,L7]
   have tv:O3 u v v=v.cps.toList:=by unfold O3;rw [fT,Nat.min_self,<- lenL,L7]
   rw [tu,tv] at hr1 hr2;refine ⟨_,.inr (.of ((u9.trans T13) _ _ hr1)),V.int (difL sg (C7 b1 (E9 R L M) u.cps.toList v.cps.toList)).2,J9 (j:=1) rfl,?_⟩;walk_at "rd";rw [nv1];rw [if_pos 'c'];refine ⟨_,.inr (.of (T13 _ _ hr2)),V.int (difL sg (C7 b2 (E9 R' L' M') u.cps.toList v.cps.toList)).2,J9 (j:=1) rfl,?_⟩;walk_at "rd";exact q _
end
theorem all_mk{l:PySem.W.OpenLaw}{w:World}(X:K.In h)(G:h.Ns mainGlobals mg)(uN:mg "law"=some (.ref fa))(d0:DF K "told" bD)(d1:DF K "followers" g9)(d2:DF K "count_ahead" bE)(d3:DF K "lined_up" R4)(d4:DF K "is_figure" sK)(d5:DF K "has_rule" oQ)(d6:DF K "pieces_told" sL)(d7:DF K "is_clash" eZ)(d8:DF K "jobs_of" t4)(d9:DF K "misused" cQ)(d10:DF K "check_letters" cR)(d11:DF K "line_of" oR)(d12:DF K "forms_of" fA)(d13:DF K "steps_of" Q8){f14:Addr}{od14 an14:Option Addr}{sl14:Array (Option Value)}{oc14 kV14 dc14 pm14 cd14 ct14:Value}(a14:U5 K (.ref C) "__init__"=some (some (.ref f14)))(i14:gL K (.ref f14)=true)(l14:K.lookup f14=some ⟨oc14,od14,.func (U6 "__init__" "Order.__init__" (W5 fB) (V1 fB) (C1 fB) .none kV14 dc14 pm14 an14 cd14 ct14),sl14⟩)(c14:Y9 K cd14 "Order.__init__"=true)(k14:W4 K (.ref f14)=true){f15:Addr}{od15 an15:Option Addr}{sl15:Array (Option Value)}{oc15 kV15 dc15 pm15 cd15 ct15:Value}(a15:U5 K (.ref C) "job"=some (some (.ref f15)))(i15:gL K (.ref f15)=true)(l15:K.lookup f15=some ⟨oc15,od15,.func (U6 "job" "Order.job" (W5 fC) (V1 fC) (C1 fC) .none kV15 dc15 pm15 an15 cd15 ct15),sl15⟩)(c15:Y9 K cd15 "Order.job"=true)(k15:W4 K (.ref f15)=true)(d16:DF K "figures_at" hG)(d17:DF K "part_at" cS){f18:Addr}{od18 an18:Option Addr}{sl18:Array (Option Value)}{oc18 kV18 dc18 pm18 cd18 ct18:Value}{tD18:Addr}{nD18:Nat}{cD18:Value}{oD18:Option Addr}{sD18:Array (Option Value)}(dl18:K.lookup tD18=some ⟨cD18,oD18,.seq #[.bool false] nD18,sD18⟩)(a18:P5 K mainGlobals "cut"=some (some (.ref f18)))(l18:K.lookup f18=some ⟨oc18,od18,.func (U6 "cut" "cut" (W5 s_cut) (V1 s_cut) (C1 s_cut) (.ref tD18) kV18 dc18 pm18 an18 cd18 ct18),sl18⟩)(c18:Y9 K cd18 "cut"=true)(k18:W4 K (.ref f18)=true){f19:Addr}{od19 an19:Option Addr}{sl19:Array (Option Value)}{oc19 kV19 dc19 pm19 cd19 ct19:Value}(a19:U5 K (.ref C) "known"=some (some (.ref f19)))(i19:gL K (.ref f19)=true)(l19:K.lookup f19=some ⟨oc19,od19,.func (U6 "known" "Order.known" (W5 hJ) (V1 hJ) (C1 hJ) .none kV19 dc19 pm19 an19 cd19 ct19),sl19⟩)(c19:Y9 K cd19 "Order.known"=true)(k19:W4 K (.ref f19)=true){f20:Addr}{od20 an20:Option Addr}{sl20:Array (Option Value)}{oc20 kV20 dc20 pm20 cd20 ct20:Value}(a20:U5 K (.ref C) "steps"=some (some (.ref f20)))(i20:gL K (.ref f20)=true)(l20:K.lookup f20=some ⟨oc20,od20,.func (U6 "steps" "Order.steps" (W5 fD) (V1 fD) (C1 fD) .none kV20 dc20 pm20 an20 cd20 ct20),sl20⟩)(c20:Y9 K cd20 "Order.steps"=true)(k20:W4 K (.ref f20)=true)(d21:DF K "parts_of" oS)(d22:DF K "steps_by" oT)(d23:DF K "add_mark" oU)(d24:DF K "add_part" t5)(d25:DF K "units" bF)(d26:DF K "looks" t6){f27:Addr}{od27 an27:Option Addr}{sl27:Array (Option Value)}{oc27 kV27 dc27 pm27 cd27 ct27:Value}{kD27:Tok}{tD27:Addr}{nD27:Nat}{cD27:Value}{oD27:Option Addr}{sD27:Array (Option Value)}(dl27:K.lookup tD27=some ⟨cD27,oD27,.seq #[.int 4 kD27] nD27,sD27⟩)(a27:P5 K mainGlobals "compare"=some (some (.ref f27)))(l27:K.lookup f27=some ⟨oc27,od27,.func (U6 "compare" "compare" (W5 Z2) (V1 Z2) (C1 Z2) (.ref tD27) kV27 dc27 pm27 an27 cd27 ct27),sl27⟩)(c27:Y9 K cd27 "compare"=true)(k27:W4 K (.ref f27)=true){f28:Addr}{od28 an28:Option Addr}{sl28:Array (Option Value)}{oc28 kV28 dc28 pm28 cd28 ct28:Value}{kD28:Tok}{tD28:Addr}{nD28:Nat}{cD28:Value}{oD28:Option Addr}{sD28:Array (Option Value)}(dl28:K.lookup tD28=some ⟨cD28,oD28,.seq #[.int 4 kD28] nD28,sD28⟩)(a28:P5 K mainGlobals "difference"=some (some (.ref f28)))(l28:K.lookup f28=some ⟨oc28,od28,.func (U6 "difference" "difference" (W5 i5) (V1 i5) (C1 i5) (.ref tD28) kV28 dc28 pm28 an28 cd28 ct28),sl28⟩)(c28:Y9 K cd28 "difference"=true)(k28:W4 K (.ref f28)=true){f29:Addr}{od29 an29:Option Addr}{sl29:Array (Option Value)}{oc29 kV29 dc29 pm29 cd29 ct29:Value}{kD29:Tok}{tD29:Addr}{nD29:Nat}{cD29:Value}{oD29:Option Addr}{sD29:Array (Option Value)}(dl29:K.lookup tD29=some ⟨cD29,oD29,.seq #[.int 4 kD29] nD29,sD29⟩)(a29:P5 K mainGlobals "differences"=some (some (.ref f29)))(l29:K.lookup f29=some ⟨oc29,od29,.func (U6 "differences" "differences" (W5 x9) (V1 x9) (C1 x9) (.ref tD29) kV29 dc29 pm29 an29 cd29 ct29),sl29⟩)(c29:Y9 K cd29 "differences"=true)(k29:W4 K (.ref f29)=true)(d30:DF K "stands" lE)(d31:DF K "goes_on" hV)(d32:DF K "is_otherwise" sM)(d33:DF K "is_uneven" sN)(d34:DF K "is_plain" lF)(d35:DF K "check_plain" i6)(d36:DF K "moves_by" l9)(d37:DF K "longer_by" lG){f38:Addr}{od38 an38:Option Addr}{sl38:Array (Option Value)}{oc38 kV38 dc38 pm38 cd38 ct38:Value}{kD38:Tok}{tD38:Addr}{nD38:Nat}{cD38:Value}{oD38:Option Addr}{sD38:Array (Option Value)}(dl38:K.lookup tD38=some ⟨cD38,oD38,.seq #[.int 4 kD38] nD38,sD38⟩)(a38:P5 K mainGlobals "beside"=some (some (.ref f38)))(l38:K.lookup f38=some ⟨oc38,od38,.func (U6 "beside" "beside" (W5 N8) (V1 N8) (C1 N8) (.ref tD38) kV38 dc38 pm38 an38 cd38 ct38),sl38⟩)(c38:Y9 K cd38 "beside"=true)(k38:W4 K (.ref f38)=true)(d39:DF K "_law_number" oV)(d40:DF K "_law_sign" cT)(d41:DF K "_law_pool" lH)(d42:DF K "_law_digits" fE)(d43:DF K "_law_row" m5)(d44:DF K "_law_made" P8)(d45:DF K "_law_both" R5)(d46:DF K "_law_some" m6)(d47:DF K "_law_sides" cU)(d48:DF K "_law_put" m7)(d49:DF K "_law_texts" X6)(d50:DF K "_law_room" m8){f51:Addr}{od51 an51:Option Addr}{sl51:Array (Option Value)}{oc51 kV51 dc51 pm51 cd51 ct51:Value}(a51:P5 K mainGlobals "law"=some (some (.ref f51)))(l51:K.lookup f51=some ⟨oc51,od51,.func (U6 "law" "law" (W5 s_law) (V1 s_law) (C1 s_law) .none kV51 dc51 pm51 an51 cd51 ct51),sl51⟩)(c51:Y9 K cd51 "law"=true)(k51:W4 K (.ref f51)=true)(aC:P5 K mainGlobals "Order"=some (some (.ref C)))(pgC:nE K C Str.empty=true)(hdC:PySem.W.hasDictIn K C=true)(poC:PySem.W.plainOver K C=true)(saC:U5 K (.ref C) "__setattr__"=some (some (.builtin "object.__setattr__")))(mkC:PySem.W.makesIn K C=true)(kcC:W4 K (.ref C)=true)(nC_figures:U5 K (.ref C) "figures"=some none)(nC_behind:U5 K (.ref C) "behind"=some none)(nC_jobs:U5 K (.ref C) "jobs"=some none)(nC_letter_line:U5 K (.ref C) "letter_line"=some none)(nC_mark_line:U5 K (.ref C) "mark_line"=some none)(nC_made:U5 K (.ref C) "made"=some none)(z_any:P5 K mainGlobals "any"=some none)(z_dict:P5 K mainGlobals "dict"=some none)(z_enumerate:P5 K mainGlobals "enumerate"=some none)(z_int:P5 K mainGlobals "int"=some none)(z_len:P5 K mainGlobals "len"=some none)(z_list:P5 K mainGlobals "list"=some none)(z_min:P5 K mainGlobals "min"=some none)(z_range:P5 K mainGlobals "range"=some none)(z_reversed:P5 K mainGlobals "reversed"=some none)(z_tuple:P5 K mainGlobals "tuple"=some none)(z_zip:P5 K mainGlobals "zip"=some none){a_JOBS:Addr}{ep_JOBS:Nat}{h_JOBS_0:Int}{t_JOBS_0 u_JOBS_0:Tok}{h_JOBS_1:Int}{t_JOBS_1 u_JOBS_1:Tok}{h_JOBS_2:Int}{t_JOBS_2 u_JOBS_2:Tok}{h_JOBS_3:Int}{t_JOBS_3 u_JOBS_3:Tok}{h_JOBS_4:Int}{t_JOBS_4 u_JOBS_4:Tok}(y_JOBS:P5 K mainGlobals "JOBS"=some (some (.ref a_JOBS)))(d_JOBS:K.lookup a_JOBS=some { cls:=.type "dict",dict:=none,data:=.dict #[⟨h_JOBS_0,.str "row" t_JOBS_0,.str "letter" u_JOBS_0⟩,⟨h_JOBS_1,.str "marks" t_JOBS_1,.str "mark" u_JOBS_1⟩,⟨h_JOBS_2,.str "great" t_JOBS_2,.str "great" u_JOBS_2⟩,⟨h_JOBS_3,.str "as" t_JOBS_3,.str "as" u_JOBS_3⟩,⟨h_JOBS_4,.str "over" t_JOBS_4,.str "over" u_JOBS_4⟩] ep_JOBS,slots:=#[] })(s_JOBS:(a_JOBS==sysModules)=false)(e_JOBS_0:h_JOBS_0=keyH w (Sum.inr ("row" : Str)))(e_JOBS_1:h_JOBS_1=keyH w (Sum.inr ("marks" : Str)))(e_JOBS_2:h_JOBS_2=keyH w (Sum.inr ("great" : Str)))(e_JOBS_3:h_JOBS_3=keyH w (Sum.inr ("as" : Str)))(e_JOBS_4:h_JOBS_4=keyH w (Sum.inr ("over" : Str))){a_AGAIN:Addr}{n_AGAIN:Nat}{od_AGAIN:Option Addr}{sl_AGAIN:Array (Option Value)}{t_AGAIN_0:Tok}{t_AGAIN_1:Tok}{t_AGAIN_2:Tok}(y_AGAIN:P5 K mainGlobals "AGAIN"=some (some (.ref a_AGAIN)))(d_AGAIN:K.lookup a_AGAIN=some ⟨.type "tuple",od_AGAIN,.seq #[.str "letter" t_AGAIN_0,.str "mark" t_AGAIN_1,.str "over" t_AGAIN_2] n_AGAIN,sl_AGAIN⟩){a_START:Addr}{n_START:Nat}{od_START:Option Addr}{sl_START:Array (Option Value)}{t_START_0:Tok}{t_START_1:Tok}{t_START_2:Tok}{t_START_3:Tok}(y_START:P5 K mainGlobals "START"=some (some (.ref a_START)))(d_START:K.lookup a_START=some ⟨.type "tuple",od_START,.seq #[.int 0 t_START_0,.int 0 t_START_1,.int 0 t_START_2,.int 0 t_START_3] n_START,sl_START⟩){tMARK tLETTER tFIGURES:Tok}(y_MARK:P5 K mainGlobals "MARK"=some (some (.int 0 tMARK)))(y_LETTER:P5 K mainGlobals "LETTER"=some (some (.int 2 tLETTER)))(y_FIGURES:P5 K mainGlobals "FIGURES"=some (some (.int 1 tFIGURES)))
  : ∃ fd:FuncData,(∀ (s:Shared) (v:Value),BindsTo s fd ⟨[v],[]⟩ [("_law_script",v)])/\∀ base:Heap,K.In base->base.Ns mainGlobals mg->FnOk l.prog w K mg base E1 13 fa fd ["_law_script"] (spLaw K):=by
 have e:=uN.symm.trans (U9 X G a51);cases e;have T:Txt l.prog w K mg C:=⟨⟨pgC,hdC,poC,saC⟩,nC_figures,nC_behind,nC_jobs,nC_letter_line,nC_mark_line,nC_made,v8 X G z_any,v8 X G z_dict,v8 X G z_enumerate,v8 X G z_int,v8 X G z_len,v8 X G z_list,v8 X G z_min,v8 X G z_range,v8 X G z_reversed,v8 X G z_tuple,v8 X G z_zip,⟨_,U9 X G y_MARK⟩,⟨_,U9 X G y_LETTER⟩,⟨_,U9 X G y_FIGURES⟩,⟨_,U9 X G y_JOBS,aoq d_JOBS s_JOBS (.cons ⟨kD _ _,e_JOBS_0,⟨_,rfl⟩⟩ ( .cons ⟨kD _ _,e_JOBS_1,⟨_,rfl⟩⟩ ( .cons ⟨kD _ _,e_JOBS_2,⟨_,rfl⟩⟩ ( .cons ⟨kD _ _,e_JOBS_3,⟨_,rfl⟩⟩ ( .cons ⟨kD _ _,e_JOBS_4,⟨_,rfl⟩⟩ ( .nil)))))) 'd'⟩,⟨_,U9 X G y_AGAIN,fun H=>.inr ⟨_,_,_,d_AGAIN,rfl,rfl,(by show 3<=sizeLine;decide),.cons ⟨_,rfl⟩ ( .cons ⟨_,rfl⟩ ( .cons ⟨_,rfl⟩ ( .nil)))⟩⟩,⟨_,U9 X G y_START,fun H=>.inr ⟨_,_,_,d_START,rfl,rfl,(by show 4<=sizeLine;decide),.cons ⟨_,rfl⟩ ( .cons ⟨_,rfl⟩ ( .cons ⟨_,rfl⟩ ( .cons ⟨_,rfl⟩ ( .nil))))⟩⟩⟩
 have F14:=x3 (st:=fB) l14 c14;have F15:=x3 (st:=fC) l15 c15;have F18:=x3 (st:=s_cut) l18 c18;have F19:=x3 (st:=hJ) l19 c19;have F20:=x3 (st:=fD) l20 c20;have F27:=x3 (st:=Z2) l27 c27;have F28:=x3 (st:=i5) l28 c28;have F29:=x3 (st:=x9) l29 c29;have F38:=x3 (st:=N8) l38 c38;have F51:=x3 (st:=s_law) l51 c51;refine ⟨U6 "law" "law" (W5 s_law) (V1 s_law) (C1 s_law) .none kV51 dc51 pm51 an51 cd51 ct51,fun s v=>.of_eq rfl,fun base hb hn=>?_⟩;have G_told:=d0.go X G hb fun F=>ao0 F T
 have G_followers:=d1.go X G hb fun F=>agI F T G_told
 have G_count_ahead:=d2.go X G hb fun F=>aeS F T
 have G_lined_up:=d3.go X G hb fun F=>ahl F T G_followers G_count_ahead
 have G_is_figure:=d4.go X G hb fun F=>agK F T
 have G_has_rule:=d5.go X G hb fun F=>aho F T
 have G_pieces_told:=d6.go X G hb fun F=>aeU F T
 have G_is_clash:=d7.go X G hb fun F=>ahq F T G_is_figure
 have G_jobs_of:=d8.go X G hb fun F=>ai8 F T G_has_rule G_pieces_told G_is_clash
 have G_misused:=d9.go X G hb fun F=>ai9 F T
 have G_check_letters:=d10.go X G hb fun F=>ad9 F T G_misused
 have G_line_of:=d11.go X G hb fun F=>ajb F T G_lined_up
 have G_forms_of:=d12.go X G hb fun F=>ahr F T
 have G_steps_of:=d13.go X G hb fun F=>ahs F T G_forms_of
 have G_Order___init__:KO l.prog w K mg base 5 C "Order" ["self", "rules"] (sH C):=⟨_,_,ad0 F14 T G_has_rule G_jobs_of G_check_letters G_line_of G_steps_of,⟨mkC,a14,i14,kcC⟩,U9 X G aC,.all (len2 fun _ _=>rfl)⟩
 have G_Order_job:MO l.prog w K mg base 1 C "job" ["self", "piece"] (xE C):=⟨_,_,agN F15 T,T.cl,⟨a15,i15,k15⟩,.all (len2 fun _ _=>rfl)⟩
 have G_figures_at:=d16.go X G hb fun F=>afR F T G_is_figure
 have G_part_at:=d17.go X G hb fun F=>ajc F T G_is_figure G_figures_at
 have G_cut:FO l.prog w K mg base 4 "cut" ["known", "text", "figures"] [.bl false] (sJ K):=⟨_,_,anl F18 T G_part_at,U9 X G a18,k18,[.bool false],(fun s us F6 hl=>by obtain ⟨u1,u2,rfl⟩:=ary hl;exact aP F6 rfl dl18 rfl rfl rfl),.cons rfl .nil⟩
 have G3_cut:FO l.prog w K mg base 4 "cut" ["known", "text", "figures"] [] (sJ K):=⟨_,_,anl F18 T G_part_at,U9 X G a18,k18,[],(fun s us F6 hl=>by obtain ⟨u1,u2,u3,rfl⟩:=amo hl;exact aP F6 rfl dl18 rfl rfl rfl),.nil⟩
 have G_Order_known:MO l.prog w K mg base 1 C "known" ["self"] (xH C):=⟨_,_,aeW F19 T,T.cl,⟨a19,i19,k19⟩,.all (len1 fun _=>rfl)⟩
 have G_Order_steps:MO l.prog w K mg base 1 C "steps" ["self", "piece"] (oP C):=⟨_,_,aeY F20 T,T.cl,⟨a20,i20,k20⟩,.all (len2 fun _ _=>rfl)⟩
 have G_parts_of:=d21.go X G hb fun F=>ahu F T G3_cut G_Order_known
 have G_steps_by:=d22.go X G hb fun F=>ahw F T G_is_figure G_Order_steps
 have G_add_mark:=d23.go X G hb fun F=>ahy F T
 have G_add_part:=d24.go X G hb fun F=>ahz F T G_steps_by G_add_mark
 have G_units:=d25.go X G hb fun F=>amG F T G_parts_of G_add_part
 have G_looks:=d26.go X G hb fun F=>amH F T G_units
 have G_compare:FO l.prog w K mg base 8 "compare" ["order", "one", "other", "strength"] [.int 4] (hX C):=⟨_,_,afq F27 T G_looks,U9 X G a27,k27,[.int 4 _],(fun s us F6 hl=>by obtain ⟨u1,u2,u3,rfl⟩:=xP hl;exact aP F6 rfl dl27 rfl rfl rfl),.cons ⟨_,rfl⟩ .nil⟩
 have G3_compare:FO l.prog w K mg base 8 "compare" ["order", "one", "other", "strength"] [] (hX C):=⟨_,_,afq F27 T G_looks,U9 X G a27,k27,[],(fun s us F6 hl=>by obtain ⟨u1,u2,u3,u4,rfl⟩:=xQ hl;exact aP F6 rfl dl27 rfl rfl rfl),.nil⟩
 have G_difference:FO l.prog w K mg base 9 "difference" ["order", "x", "y", "strength"] [.int 4] (spDif C):=⟨_,_,adL F28 T G3_compare,U9 X G a28,k28,[.int 4 _],(fun s us F6 hl=>by obtain ⟨u1,u2,u3,rfl⟩:=xP hl;exact aP F6 rfl dl28 rfl rfl rfl),.cons ⟨_,rfl⟩ .nil⟩
 have G3_difference:FO l.prog w K mg base 9 "difference" ["order", "x", "y", "strength"] [] (spDif C):=⟨_,_,adL F28 T G3_compare,U9 X G a28,k28,[],(fun s us F6 hl=>by obtain ⟨u1,u2,u3,u4,rfl⟩:=xQ hl;exact aP F6 rfl dl28 rfl rfl rfl),.nil⟩
 have G_differences:FO l.prog w K mg base 10 "differences" ["one", "other", "x", "y", "strength"] [.int 4] (sO C):=⟨_,_,ads F29 T G3_difference,U9 X G a29,k29,[.int 4 _],(fun s us F6 hl=>by obtain ⟨u1,u2,u3,u4,rfl⟩:=amB hl;exact aP F6 rfl dl29 rfl rfl rfl),.cons ⟨_,rfl⟩ .nil⟩
 have G3_differences:FO l.prog w K mg base 10 "differences" ["one", "other", "x", "y", "strength"] [] (sO C):=⟨_,_,ads F29 T G3_difference,U9 X G a29,k29,[],(fun s us F6 hl=>by obtain ⟨u1,u2,u3,u4,u5,rfl⟩:=aoN hl;exact aP F6 rfl dl29 rfl rfl rfl),.nil⟩
 have G_stands:=d30.go X G hb fun F=>ak8 F T
 have G_goes_on:=d31.go X G hb fun F=>aje F T G_stands
 have G_is_otherwise:=d32.go X G hb fun F=>aeP F T
 have G_is_uneven:=d33.go X G hb fun F=>agP F T
 have G_is_plain:=d34.go X G hb fun F=>ahC F T G_Order_steps
 have G_check_plain:=d35.go X G hb fun F=>ae1 F T G_Order_job G_is_plain
 have G_moves_by:=d36.go X G hb fun F=>ahD F T G3_differences
 have G_longer_by:=d37.go X G hb fun F=>agR F T
 have G_beside:FO l.prog w K mg base 12 "beside" ["one", "other", "signs", "strength"] [.int 4] (spBes K C):=⟨_,_,agS F38 T G_goes_on G_is_otherwise G_is_uneven G_check_plain G_moves_by G_longer_by,U9 X G a38,k38,[.int 4 _],(fun s us F6 hl=>by obtain ⟨u1,u2,u3,rfl⟩:=xP hl;exact aP F6 rfl dl38 rfl rfl rfl),.cons ⟨_,rfl⟩ .nil⟩
 have G3_beside:FO l.prog w K mg base 12 "beside" ["one", "other", "signs", "strength"] [] (spBes K C):=⟨_,_,agS F38 T G_goes_on G_is_otherwise G_is_uneven G_check_plain G_moves_by G_longer_by,U9 X G a38,k38,[],(fun s us F6 hl=>by obtain ⟨u1,u2,u3,u4,rfl⟩:=xQ hl;exact aP F6 rfl dl38 rfl rfl rfl),.nil⟩
 have G_l_number:=d39.go X G hb fun F=>ahF F T
 have G_l_sign:=d40.go X G hb fun F=>ak9 F T
 have G_l_pool:=d41.go X G hb fun F=>ala F T G_l_number G_l_sign
 have G_l_digits:=d42.go X G hb fun F=>ahG F T G_l_number
 have G_l_row:=d43.go X G hb fun F=>amJ F T
 have G_l_made:=d44.go X G hb fun F=>alb F T G_Order___init__ G_l_row
 have G_l_both:=d45.go X G hb fun F=>alc F T G_l_number G_l_digits G_l_made
 have G_l_some:=d46.go X G hb fun F=>ald F T G_l_number
 have G_l_sides:=d47.go X G hb fun F=>ajf F T
 have G_l_put:=d48.go X G hb fun F=>amK F T G_l_sides
 have G_l_texts:=d49.go X G hb fun F=>ajg F T G_l_number
 have G_l_room:=d50.go X G hb fun F=>ale F T G_l_put
 exact arO F51 T G3_compare G3_beside G_l_number G_l_pool G_l_both G_l_some G_l_put G_l_texts G_l_room
theorem walk{l:PySem.W.OpenLaw}{q:Program}{XP:(Str->Option Value)->Heap->Prop}{YP:World->Heap->Prop}{d:DefRec}{K:Params->PySem.W.Frag}(hn:l.most=some 63)(bO:d.params.defaults=[])(hY:∀ (w:World) (h:Heap),YP w h->(K w.params).In h)(F:∀ (w:World) (mg:Str->Option Value) (fa:Addr) (h:Heap),(K w.params).In h->h.Ns mainGlobals mg->mg d.name=some (.ref fa)->
   ∃ fd:FuncData,(∀ (s:Shared) (u:Value),BindsTo s fd ⟨[u],[]⟩ [("_law_script",u)])/\∀ base:Heap,(K w.params).In base->base.Ns mainGlobals mg->FnOk l.prog w (K w.params) mg base E1 13 fa fd ["_law_script"] (spLaw (K w.params))) :
  PySem.W.WalkO q loose XP YP l.row.toRowW d [] (fun f vs=>PySem.call f vs):=
 L2.walk_of (n:=63) (k:=13) (x:="_law_script") (CX:=fun _=>E1) (sp:=fun w=>spLaw (K w.params)) hn (by decide) bO ⟨rfl,by decide,by decide,rfl⟩ hY F (fun _ _ a ns hl _ hS=>⟨a,ns,rfl,hS,hl,fun _=>rfl⟩) fun _ _ _ _ _ z=>z
end K75
open PySem PySem.W PyProof.Rows
set_option maxRecDepth 100000 in
set_option maxHeartbeats 0 in
theorem PySem.Challenge.cw_sortlore_k75_whole_never_parted_holds : PySem.Challenge.rw_sortlore_k75_whole_never_parted.Holds := by
 w_on;o_law;k_head;(case hw=>w_witness2)
 k_fill
 refine K75.walk (l:=PySem.Challenge.rw_sortlore_k75_whole_never_parted) rfl rfl (fun w h zy=>PySem.W.kIn_of zy) ?F
 case F=>
  intro w mg fa h KX G pR
  refine' K75.all_mk KX G pR ?d0 ?d1 ?d2 ?d3 ?d4 ?d5 ?d6 ?d7 ?d8 ?d9 ?d10 ?d11 ?d12 ?d13 ?a14 ?i14 ?l14 ?c14 ?k14 ?a15 ?i15 ?l15 ?c15 ?k15 ?d16 ?d17 ?dl18 ?a18 ?l18 ?c18 ?k18 ?a19 ?i19 ?l19 ?c19 ?k19 ?a20 ?i20 ?l20 ?c20 ?k20 ?d21 ?d22 ?d23 ?d24 ?d25 ?d26 ?dl27 ?a27 ?l27 ?c27 ?k27 ?dl28 ?a28 ?l28 ?c28 ?k28 ?dl29 ?a29 ?l29 ?c29 ?k29 ?d30 ?d31 ?d32 ?d33 ?d34 ?d35 ?d36 ?d37 ?dl38 ?a38 ?l38 ?c38 ?k38 ?d39 ?d40 ?d41 ?d42 ?d43 ?d44 ?d45 ?d46 ?d47 ?d48 ?d49 ?d50 ?a51 ?l51 ?c51 ?k51 ?aC ?pgC ?hdC ?poC ?saC ?mkC ?kcC ?nC_figures ?nC_behind ?nC_jobs ?nC_letter_line ?nC_mark_line ?nC_made ?z_any ?z_dict ?z_enumerate ?z_int ?z_len ?z_list ?z_min ?z_range ?z_reversed ?z_tuple ?z_zip ?y_JOBS ?d_JOBS ?s_JOBS ?e_JOBS_0 ?e_JOBS_1 ?e_JOBS_2 ?e_JOBS_3 ?e_JOBS_4 ?y_AGAIN ?d_AGAIN ?y_START ?d_START ?y_MARK ?y_LETTER ?y_FIGURES
  any_goals (refine' K75.df_mk ?da ?dl ?dc ?dk;(case da=>k_is);(case dl=>k_is);(case dc=>k_is);(case dk=>k_is))
  (case aC=>k_is)
  (case a14=>k_is)
  (case i14=>k_is)
  (case l14=>k_is)
  (case c14=>k_is)
  (case k14=>k_is)
  (case a15=>k_is)
  (case i15=>k_is)
  (case l15=>k_is)
  (case c15=>k_is)
  (case k15=>k_is)
  (case a18=>k_is)
  (case l18=>k_is)
  (case c18=>k_is)
  (case k18=>k_is)
  (case a19=>k_is)
  (case i19=>k_is)
  (case l19=>k_is)
  (case c19=>k_is)
  (case k19=>k_is)
  (case a20=>k_is)
  (case i20=>k_is)
  (case l20=>k_is)
  (case c20=>k_is)
  (case k20=>k_is)
  (case a27=>k_is)
  (case l27=>k_is)
  (case c27=>k_is)
  (case k27=>k_is)
  (case a28=>k_is)
  (case l28=>k_is)
  (case c28=>k_is)
  (case k28=>k_is)
  (case a29=>k_is)
  (case l29=>k_is)
  (case c29=>k_is)
  (case k29=>k_is)
  (case a38=>k_is)
  (case l38=>k_is)
  (case c38=>k_is)
  (case k38=>k_is)
  (case a51=>k_is)
  (case l51=>k_is)
  (case c51=>k_is)
  (case k51=>k_is)
  (case pgC=>k_is)
  (case hdC=>k_is)
  (case poC=>k_is)
  (case saC=>k_is)
  (case mkC=>k_is)
  (case kcC=>k_is)
  (case nC_figures=>k_is)
  (case nC_behind=>k_is)
  (case nC_jobs=>k_is)
  (case nC_letter_line=>k_is)
  (case nC_mark_line=>k_is)
  (case nC_made=>k_is)
  (case z_any=>k_is)
  (case z_dict=>k_is)
  (case z_enumerate=>k_is)
  (case z_int=>k_is)
  (case z_len=>k_is)
  (case z_list=>k_is)
  (case z_min=>k_is)
  (case z_range=>k_is)
  (case z_reversed=>k_is)
  (case z_tuple=>k_is)
  (case z_zip=>k_is)
  (case y_JOBS=>k_is)
  (case d_JOBS=>k_is)
  (case s_JOBS=>rfl)
  (case e_JOBS_0=>rfl)
  (case e_JOBS_1=>rfl)
  (case e_JOBS_2=>rfl)
  (case e_JOBS_3=>rfl)
  (case e_JOBS_4=>rfl)
  (case y_AGAIN=>k_is)
  (case d_AGAIN=>k_is)
  (case y_START=>k_is)
  (case d_START=>k_is)
  (case y_MARK=>k_is)
  (case y_LETTER=>k_is)
  (case y_FIGURES=>k_is)
  (case dl18=>k_is)
  (case dl27=>k_is)
  (case dl28=>k_is)
  (case dl29=>k_is)
  (case dl38=>k_is)
