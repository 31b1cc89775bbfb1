import PyProof.Rows.All
import Wide.All
import OpenK.AllK
import Wide.FinOn
import Lean
import PyProof.EqAt
import PyProof.EqKinds
import PyProof.TupleCall
import KE.KRevIter
import KE.KRevSl
import PySem.Challenge.RW_sortlore_k72_a_pair_parts
set_option compiler.extract_closed false
open List renaming length_map → A6, getElem?_eq_some_iff → E9, length_append → D7, getElem?_eq_getElem → J7, map_append → C9, mem_singleton → E4, mem_of_getElem? → K8, mem_map → D8, size_toArray → J8, mem_append → G0, length_cons → J9, map_cons → E6, mem_append_right → O5, mem_cons_of_mem → N9, length_take → L4, take_length → L6, mem_cons_self → N3, mem_cons → K0, append_nil → M3, mem_append_left → Q5, getElem?_map → T8, length_singleton → Z0, append_assoc → V9, mem_flatMap → W0, flatMap_append → Z1, getD_eq_getElem?_getD → x9, nodup_cons → V1, mem_iff_getElem → g6, nodup_append → Y2, take_of_length_le → o9, map_map → Q6, take_append_drop → p9, mem_filter → W9, find?_cons → X0, replicate → X1, nodup_iff_pairwise_ne → dC, length_nil → Z2, getElem?_append_left → dD, flatMap_cons → m3, idxOf_lt_length_iff → dE, take_add_one → q0, length_eq_zero_iff → dF, getElem?_append_right → fO, find?_eq_none → y0, pairwise_iff_getElem → fP, mem_range → g7, drop_eq_getElem_cons → fQ, filterMap_cons → bI, zipWith → Y3, range → U1, foldl_append → y3, filter_append → bJ, length_drop → y4, cons_lt_cons_iff → fR, length → Z3, filter_cons_of_pos → jB, filter_cons_of_neg → jC, countP_cons → dG, getElem_idxOf → fS, any_cons → y7, mem_take_iff_getElem → mB, nil_append → dH, replicate_succ → jD, map_congr_left → jE, cons_append → fT, take_zero → dI, filter_eq_nil_iff → mC, drop_of_length_le → mD, drop_eq_nil_of_le → mE, mem_filterMap → jF, reverse_cons → jG, map_take → dJ, flatten_cons → jH, not_mem_nil → jI, getElem_mem → jJ, length_erase_of_mem → pS, map_drop → fU, foldl_cons → jK, length_pos_of_mem → pT, lookup → dL
open Nat renaming le_refl → C3, zero_le → F7, ne_of_lt → L8, lt_of_lt_of_le → V2, le_trans → N4, lt_irrefl → Z4, le_add_right → dM, min_eq_left → dN
open Bool renaming false_ne_true → L5, and_eq_true → Z5, not_eq_true → bK, false_xor → fV, false_eq_true → mF, eq_iff_iff → jL, not_eq_true' → mG
open PySem.F renaming plainAttrs_list → W1, type_list_append → g8, slot_list_append → g9, slot_dict_get → jM, entry_dict_get → pU
open PySem.W renaming nsIn → O0, findIn → R0, keepIn → V3, mg_of → U3, mg_none_of → i5, fnOf → T9, codeIn → X2, kia_one → q9, emptyDict → bL, binds_K → y8, instObj → dO, isFn → fW, plainGet → mH
open PySem.PyData renaming eqvAll → Y4, eqv → W2, strOk → i6, depthAll → y9, depth → bM, str → bN, int → bO
open Array renaming length_toList → dP
open PySem.NumText renaming digitsVal → mI
open Option renaming isSome_map → jN
open Int renaming zero_add → bP, lt_irrefl → fX, emod_lt_of_pos → mJ
set_option Elab.async false
set_option linter.all false
set_option maxRecDepth 100000
noncomputable section
set_option genInjectivity false in
set_option genSizeOf false in
structure PySem.W.Fast where (tw16180956388993637896 tw8146865003943121527 tw3097323230467858652 tw3343594172378527779 tw8310380347002344703 tw3086401977590654357 tw14307750373939317611 tw16817577399843641534 tw16634688780507073615 tw8443932418959513856 tw10042921019712866955 tw8724764391222453468 tw6413497941965912102 tw9202871632516936867 tw13235752365050921078 tw16672233526695558352 tw12390893632490581859 tw11464187788663917825 tw4546332007360496617 tw16883441324376852224 tw10847771823180588498 tw12808234646264427326 tw10156329061421696943 tw448590499077831373 tw16452356125386101693 tw18401372484666949031 tw5171912774846203278 tw8578200603641172716 tw17448389912142673761 tw15678105201611455046 tw7058270507887738240 tw5352680005344144362 tw5845862605611072565 tw18392723714319204771 tw9451608180579951232 tw4490923616739436471 tw5758939013526450002 tw6450541469877844144 tw4631948934140514613
tw4040706018001321995 tw11268896378015067882 tw12974240231548895759 tw657199606753356550 tw2072344091619103310 tw8645994578720539456 tw5774290786053111 tw9284385430936025783 tw2597909973193366149 tw11034621276125948719 tw11615621661662425014 tw12555252847635790272 tw11346393632290083938 tw8393871401922498726 tw1299832138689829935 tw7753639699317561139 tw2994567378059667482 tw9428504543011518989 tw1075811391493461143 tw7953904308733746280 tw13497061992464521201 tw14038094860768777792 tw5555164268011645779 tw4483611801481167175 tw17250727844760091310 tw18014521098447215548 tw16338118535405616359 tw18317539927199187653 tw12981589781772645112 tw15682623446094885327 tw8191280089745898271 tw6747380211759925491 tw16042903076977100444 tw9270129721602496813 tw8917216662944147595 tw7777079200592497878 tw6690890488278888631 tw12224298358639093038 tw5804469528668107718 tw8016160613374297968
tw9175290240406939366 tw3327845985539700379 tw14639506025670250624 tw617831350719980790 tw8605365506571982337 tw9892463676540515557 tw10846892876048776046 tw18241441427915409004 tw9868357656251903955 tw8570946481778274381 tw15322657818055648182 tw13680042426369623155 tw15279305421276654830 tw9269468602054538085 tw3940099754371215729 tw8966785721965202689 tw9215849256564255254 tw13065333297203306260 tw9458386045439393227 tw13471368327470037748 tw7407752729825802268 tw256829363821803763 tw11726301148310954347 tw8423723156552239003 tw809369973449361703 tw9432261744005254843 tw8423309973207622638 tw5125281907792621790 tw1501517088876038331 tw18402570893991972982 tw13271652453750319457 tw9363561878097006373 tw2387390169676597894 tw3633533803521011682 tw7095748594764731349 tw6093852152172262342 tw16447367095763162347 tw2066499441861209527 tw3412010233794608304 tw5249810469806200469
tw12631085167116305698 tw7044691445333790281 tw13452891646203903518 tw15536965300328969592 tw9599858891519423890 tw8724017100956269628 tw5618289590956542705 tw17118647735857386640 tw13384956415237720653 tw15798182857707016808 tw16242365491944886612 tw160130567227490208 tw17186662042156706474 tw14985917631559193331 tw17221271949008089224 tw15810979316250151386 tw874839929004534577 tw13330250438360129805 tw11862098609470139153 tw1322717618201067914 tw17246291604806343098 tw865465493054284743 tw4628883867595536441 tw1992918370325423098 tw16190728451823816983 tw6023468185851844400 tw8621622471706673508 tw3216226809538709605 tw5693377554548956901 tw1067826665129448568 tw16605407777422396355 tw4806997302530968884 tw4964153846934861744 tw11231255869863695355 tw7624189956854932072 tw12431040913293551403 tw11357306369669088794 tw14187952974759754726 tw14389060247954993946 tw3075972069400254404
tw3982139929712823820 tw8111933980427495685 tw15559651517435037837 tw2940604421991451077 tw11300381259823226264 tw16763873574492111359 tw16154914806509064854 tw8644194070076030147 tw1258800744439241490 tw665237641704071084 tw1701543048663091824 tw12563233804875919057 tw9027140107638215993 tw15642368783363243448 tw15318724832728295198 tw9266536982289550224 tw8565961111779573884 tw10495195444659765449 tw7006504237050091286 tw9171023278472270761 tw7946416877295358127 tw16951041063880562457 tw12760466702906251258 tw4111469503210742612 tw4831122565014163580 tw3007022875548318099 tw5019426016198446323 tw8335421945243094789 tw18176285816488554239 tw15512025964430000468 tw5569732358837388717 tw14616355478401302004 tw13778288041855888037 tw8215544585204995818 tw3018570186797342222 tw9403463967593259502 tw3041921414486328817 tw3467451310060766023 tw15109911962411585788 tw6487268243845169292
tw2750412143865778159 tw1196902673609109735 tw6125599052425523287 tw7198716053597634865 tw15702983109632474510 tw12688911275270900873 tw1258665593294851997 tw2680826860243396423 tw2747014472662448125 tw14593739513559766757 tw12459139032689519467 tw7380154685157147950 tw9910972486892347040 tw16978525796254163930 tw3391665526325467790 tw9893061108429049006 tw16361676935726064733 tw2246847399628855321 tw17576617100477841001 tw6473667372783979022 tw1782462277133054221 tw15158429968314362396 tw7153264709638104361 tw2790111656526510183 tw181128251057841647 tw288967998599853635 tw9388569345479908025 tw4942772387706589015 tw13843101326489715708 tw126308332094168471 tw13964698896985001068 tw2455636294953361966 tw1506175359121984452 tw379472366418247200 tw2019380473195700471 tw3493824198142678611 tw11825250620432805242 tw8600432620371657920 tw3248697907422093887 tw16917070850981453088
tw5754452495335798540 tw9289115621034884922 tw12628945998614406095 tw17419141844472018179 tw9052216371705438837 tw13733164796500344274 tw5189081072192855016 tw11971463502222712439 tw16169203028492024814 tw10238969845188234212 tw2218322237217977224 tw15675080122171000625 tw12225495077239680953 tw13361715030395331743 tw11903947291047232905 tw6993436819717495156 tw2006339896855513267 tw1231172453406929146 tw15523587743068249453 tw2143355623217938581 tw11110459850425024251 tw2503690127585478983 tw771381432596326134 tw13386790392416541582 tw7074692196244246158 tw7338857915956715988 tw8310999037698930472 tw2016818279340911080 tw12684387048916576238 tw1831608802521269650 tw6504400042850856472 tw4998060738466993763 tw3658856201125968453 tw918235909063198407 tw18140523542264473327 tw3472710464885337423 tw6041259973540590208 tw14887114719814712991 tw17908879199784777024 tw11040249945547700356
tw16886572273815481055 tw4506184307369974769 tw5203379936260562054 tw12966427627795550845 tw8724289346522037395 tw5755417106431311866 tw7293604522319123212 tw15473515850671432111 tw8159486445233053861 tw13724658823388231162 tw16021746688952182508 tw5811396579452166450 tw11361015386838463459 tw8870208265246560163 tw18390051687108096574 tw15811757671000065223 tw8880974440441358492 tw12558126035568206101 tw16933489763180021440 tw12279481116853090167 tw3236889492990524735 tw13812709592456102266 tw990861317732742524 tw10962547379423661759 tw386898582743528959 tw3432321167236342784 tw5588971567514874221 tw3766640800541499444 tw16259861542538987276 tw13804577174389802550 tw3566829197335934686 tw2935726842989439031 tw11157598210972681902 tw4817353856478393789 tw4075671822914254207 tw11338755277056138858 tw4278218385206405416 tw5655226024503637935 tw4244409182996681387 tw13696739838843093469
tw1339881190311208720 tw4150176602403395966 tw13525340829100518533 tw13369731410157201862 tw12007962297753342600 tw4863778951118878983 tw5570622883410891335 tw4836394014066100118 tw5304345591361452367 tw9096370217231992233 tw12075608875756765146 tw3721502208743238812 tw11885168365114265801 tw10625962345572840103 tw4417142735318116018 tw6900156441458450468 tw17867662044843197736 tw11481063265232464907 tw6818192138784641755 tw8020598582000588766 tw14293652649594430410 tw15092111017655143602 tw8273933746922164240 tw3461566416768004901 tw2445702504311901696 tw7144218894284406427 tw7791109319098457346 tw13891632101421692041 tw15217638471549231791 tw11567062256963940730 tw3577397116645921496 tw6980610849946532544 tw17125492934240429538 tw2840142387305138015 tw8608438584548009699 tw4547461942396873617 tw17165627014889578945 tw12052868222831377244 tw6571831789692032358 tw5779593857634016976
tw1207539826432124826 tw3188616311483209603 tw13638775933014751398 tw16280531051011581390 tw318959112913465385 tw3140102777118793253 tw6966810549127868596 tw1028905527100622593 tw13264784727981072102 tw13248528991789753800 tw15029796127045136846 tw9351043355976550502 tw7620863399893826435 tw17626058028616177559 tw14166710807205026059 tw13720096679469776910 tw18057096065281650150 tw9706264956722071510 tw18287146823258879870 tw18288373456995884913 tw15875538950424690909 tw13902655674799034830 tw14358704103403110891 tw3995728709102866124 tw15230838669011039907 tw13884315136257760699 tw14341161462607054721 tw5177679493290783585 tw1928919926578401377 tw6404009495358520768 tw11143698649444255374 tw12334685767603784938 tw12816377820946417826 tw8308882079597382158 tw10878972160906747714 tw835770824028491356 tw15492317782538676227 tw10887526963321644189 tw15161659757242245405 tw16427523932549985809
tw1292147972789305183 tw17761122679489348735 tw11523464241714147841 tw8740528051567465808 tw13168901776432733822 tw4294491400121743617 tw11889832341655936309 tw4143947392457732041 tw5745390946658001797 tw3879963070895298042 tw3866317557897795267 tw9642615144168400257 tw4147282636376641662 tw11824599762663794199 tw6802247731394829058 tw13218825053551847848 tw9269021902882810107 tw16155515898185181054 tw4747309257037835141 tw18356919401031196144 tw5279639592667505389 tw6798106648250086872 tw8795210886469740452 tw3654399213572876115 tw10186271763659235027 tw4891344148229583347 tw11190094882644035515 tw10964318625241524187 tw852927053919061982 tw13338398360835984583 tw8024318859434646116 tw10377100540846621966 tw17332149645124710486 tw3942409552296154229 tw13650315429824452802 tw15939377720017026264 tw3028701324540583849 tw4358838810530368883 tw11131432143622580745 tw4501610683312671278
tw13455619371676454040 tw2355557624826007573 tw4251678159334051175 tw13800275725601314486 tw17987223552249672588 tw1823798879716315651 tw16807776314057130335 tw11640110542878375299 tw10898193908266834771 tw11634041551694450289 tw7655516389459331229 tw18115883491473080119 tw8450051972647213809 tw7904871041288435091 tw3523731073105518614 tw10170788103912304003 tw4585839797122153175 tw2645061651537422020 tw16326461030167274101 tw17776547827088797918 tw2176837702106588195 tw7341974361500898662 tw6842684846381452255 tw8127925278912332463 tw1785629249593289661 tw12767943904377916181 tw11061017887441206034 tw5500475738404721571 tw926728851269351599 tw14227857194881286264 tw17485004793127669648 tw11920722625047580058 tw8935370607064226726 tw1912125894069307755 tw6718573754037918326 tw2553288958008758549 tw12030298625743991065 tw3987166589586544177 tw3968817019552672584 tw901931314104415935
tw16625297531148866153 tw10625464752668501746 tw10928778333115077944 tw8018841693220411889 tw3893188727876540816 tw8262469726757654754 tw15066096910617092768 tw6181547511364901782 tw15474235189319519515 tw7668568436731646906 tw10694677545847212998 tw4355172526256439036 tw4861098164025917007 tw9835544349904780272 tw13521507502057098561 tw18133292307090347152 tw14147982028720969604 tw3281178923486505018 tw18037113215780479933 tw16924139341432018793 tw4922631475471966172 tw3876317466594269418 tw5870014585705215382 tw15058348917995598422 tw8397491383099195189 tw17199032060890022895 tw4503243390787209515 tw16952796759833056253 tw17243326630664824355 tw4534504500865250429 tw14778009000297904921 tw5325640647893813318 tw13208886294077672871 tw10616402111456417066 tw10284112119642344575 tw5962386042814190633 tw16869258770350223260 tw13628969351642386360 tw7249700125302859477 tw5331098075648240455
tw2760431250482176258 tw2838202785844114180 tw16179556869905393510 tw11525861408614393426 tw11694105254644922209 tw16012937265544858603 tw13201822164080822813 tw5573599895175120097 tw1108646040359448506 tw14079342871398181528 tw8835592636630071869 tw12905099605360924452 tw4480952604381068723 tw6933172304524059932 tw6144248912112081232 tw17985884092504704547 tw648018825266554427 tw15091959326897306502 tw405063643776473561 tw13431347703052130724 tw5816113247454980090 tw10559289204430031836 tw4649830365052370288 tw6606413808364759900 tw1672470665828993953 tw10823196057035316118 tw14280672631350045042 tw14475144769847081299 tw17559320820974783005 tw18227064895652839026 tw3071580610957383006 tw13399246890653927226 tw13425199357040517299 tw14032228562170340959 tw17561652750087937718 tw10124948536548869091 tw1047617725081564779 tw10878684124792712175 tw8290524924605813317 tw6827241088850585648
tw11887081838277318028 tw6842305645538199930 tw2072305192774250052 tw14854321935393691373 tw4976986879445357790 tw7191458499492992484 tw14990170160922974108:Nat)
set_option maxRecDepth 100000
namespace L2
open PySem PySem.Spec PyProof.Rows
noncomputable abbrev B3:=Sum Int Str
noncomputable def keyIs:B3->Value->Bool
 | .inl k,v=>Value.isInt k v
 | .inr x,v=>Value.isStrOf x v
noncomputable def keyH (w:World):B3->Int
 | .inl k=>hashInt k
 | .inr x=>hashStr w x
theorem r0:∀ {k:B3} {v:Value},keyIs k v=true->(∃ i t,k=Sum.inl i/\v=Value.int i t)\/(∃ x t,k=Sum.inr x/\v=Value.str x t)
 | .inl i,v,h=>by
  obtain ⟨t,e⟩:=Value.isInt_shape (k:=i) (v:=v) h;exact .inl ⟨i,t,rfl,e⟩
 | .inr x,v,h=>by
  obtain ⟨t,e⟩:=Value.isStrOf_shape (x:=x) (v:=v) h;exact .inr ⟨x,t,rfl,e⟩
theorem ai9(i:Int)(t:Tok):keyIs (.inl i) (.int i t)=true:=by simp [keyIs,Value.isInt]
theorem jO(x:Str)(t:Tok):keyIs (.inr x) (.str x t)=true:=by simp [keyIs,Value.isStrOf]
theorem aoM(a b:Int):decide ((Sum.inl a:B3)=Sum.inl b)=(a==b):=by
 by_cases e:a=b
 .subst e;simp
 .have h:¬ (Sum.inl a:B3)=Sum.inl b:=fun q=>e (Sum.inl.inj q)
  rw [decide_eq_false h];exact (beq_eq_false_iff_ne.mpr e).symm
theorem aoN(a b:Str):decide ((Sum.inr a:B3)=Sum.inr b)=decide (a=b):=by
 by_cases e:a=b
 .subst e;simp
 .have h:¬ (Sum.inr a:B3)=Sum.inr b:=fun q=>e (Sum.inr.inj q)
  rw [decide_eq_false h,decide_eq_false e]
theorem aoO(a:Int)(b:Str):decide ((Sum.inl a:B3)=Sum.inr b)=false:=decide_eq_false (fun q=>nomatch q)
theorem aoP(a:Str)(b:Int):decide ((Sum.inr a:B3)=Sum.inl b)=false:=decide_eq_false (fun q=>nomatch q)
noncomputable def M6 (prog:Program) (w:World):PySem.KeyKind prog w B3 where
 is:=keyIs
 hash:=keyH w
 inj:=fun v a b ha hb=>by
  rcases r0 ha with ⟨i,t,rfl,rfl⟩ | ⟨x,t,rfl,rfl⟩
  .rcases r0 hb with ⟨j,u,rfl,e⟩ | ⟨y,u,rfl,e⟩
   .injection e with e1 _;rw [e1]
   .exact nomatch e
  .rcases r0 hb with ⟨j,u,rfl,e⟩ | ⟨y,u,rfl,e⟩
   .exact nomatch e
   .injection e with e1 _;rw [e1]
 byValue:=fun k v h=>by
  rcases r0 h with ⟨i,t,rfl,rfl⟩ | ⟨x,t,rfl,rfl⟩ <;> rfl
 pyHash:=fun hv h=>by
  rcases r0 hv with ⟨i,t,rfl,rfl⟩ | ⟨x,t,rfl,rfl⟩
  .exact wpAny_pyHash_int h
  .exact wpAny_pyHash_str h
 eqBool:=fun hu hv h=>by
  rcases r0 hu with ⟨i,t,rfl,rfl⟩ | ⟨x,t,rfl,rfl⟩
  .rcases r0 hv with ⟨j,u,rfl,rfl⟩ | ⟨y,u,rfl,rfl⟩
   .rw [aoM] at h;exact wpAny_eqBool_int h
   .rw [aoO] at h;exact SeqAt.EqAt.int_str i t y u _ _ _ _ h
  .rcases r0 hv with ⟨j,u,rfl,rfl⟩ | ⟨y,u,rfl,rfl⟩
   .rw [aoP] at h;exact SeqAt.EqAt.str_int x t j u _ _ _ _ h
   .rw [aoN] at h;exact wpAny_eqBool_str h
 «strs»:=fun k x t v h=>by
  rcases r0 h with ⟨i,u,rfl,e⟩ | ⟨y,u,rfl,e⟩
  .exact nomatch e
  .injection e with e1 _
   subst e1
   cases v <;> rfl
theorem agS(prog:Program)(w:World)(i:Int)(t:Tok):(M6 prog w).is (.inl i) (.int i t)=true:=ai9 i t
theorem agT(prog:Program)(w:World)(x:Str)(t:Tok):(M6 prog w).is (.inr x) (.str x t)=true:=jO x t
end L2
namespace L2
open PySem PySem.Spec PyProof.Rows
inductive V where
 | non | bl (b:Bool) | int (i:Int) | str (x:Str) | byt (b:Array UInt8) | flt (b:UInt64) | ref (a:Addr) | ty (n:String)
 deriving DecidableEq
noncomputable def RelV:V->Value->Prop
 | .non,u=>u=Value.none
 | .bl b,u=>u=Value.bool b
 | .int i,u=>∃ t,u=Value.int i t
 | .str x,u=>∃ t,u=Value.str x t
 | .byt b,u=>∃ t,u=Value.bytes b t
 | .flt b,u=>∃ t,u=Value.float b t
 | .ref a,u=>u=Value.ref a
 | .ty n,u=>u=Value.type n
noncomputable abbrev Vals:List V->List Value->Prop:=Paired RelV
theorem Vals.length{xs:List V}{us:List Value}(r:Vals xs us):xs.length=us.length:=Paired.length r
theorem Vals.get:∀ {xs:List V} {us:List Value} {i:Nat} {x:V},Vals xs us->xs[i]?=some x->∃ u,us[i]?=some u/\RelV x u
 | _,_,_,_,.nil,e=>by simp at e
 | _,_,0,_,.cons r _,e=>by simp at e;subst e;exact ⟨_,rfl,r⟩
 | _,_,i+1,x,.cons _ t,e=>by
  obtain ⟨u,h1,h2⟩:=Vals.get (i:=i) (x:=x) t (by simpa using e);exact ⟨u,by simpa using h1,h2⟩
theorem Vals.set{x:V}{u:Value}(r:RelV x u):∀ {xs:List V} {us:List Value} (i:Nat),Vals xs us->Vals (xs.set i x) (us.set i u)
 | _,_,_,.nil=>.nil
 | _,_,0,.cons _ t=>.cons r t
 | _,_,i+1,.cons q t=>.cons q (Vals.set r i t)
theorem Vals.append:∀ {xs ys:List V} {us ws:List Value},Vals xs us->Vals ys ws->Vals (xs++ys) (us++ws)
 | _,_,_,_,.nil,s=>s
 | _,_,_,_,.cons r t,s=>.cons r (Vals.append t s)
theorem Vals.take:∀ {xs:List V} {us:List Value} (n:Nat),Vals xs us->Vals (xs.take n) (us.take n)
 | _,_,0,_=>.nil
 | _,_,_+1,.nil=>.nil
 | _,_,n+1,.cons r t=>.cons r (Vals.take n t)
theorem Vals.drop:∀ {xs:List V} {us:List Value} (n:Nat),Vals xs us->Vals (xs.drop n) (us.drop n)
 | _,_,0,r=>r
 | _,_,_+1,.nil=>.nil
 | _,_,n+1,.cons _ t=>Vals.drop n t
theorem Vals.none_of:∀ {xs:List V} {us:List Value} {i:Nat},Vals xs us->xs[i]?=none->us[i]?=none:=fun {xs us i} r e=>by
 have h1:=r.length;have h2:xs.length<=i:=List.getElem?_eq_none_iff.mp e;exact List.getElem?_eq_none_iff.mpr (by lia)
noncomputable def RelO:Option V->Option Value->Prop
 | some v,some u=>RelV v u
 | none,none=>True
 | _,_=>False
noncomputable def KV {κ:Type} : List (κ×V)->List (κ×Value)->Prop:=Paired fun (p:κ×V) (q:κ×Value)=>p.1=q.1/\RelV p.2 q.2
noncomputable def kV:B3->V
 | .inl i=>.int i
 | .inr x=>.str x
inductive HO where
 | lst (xs:List V)
 | tup (xs:List V)
 | dK (kvs:List (B3×V)) | dT (kvs:List (List B3×V))
 | set (S:Int->Bool) (n:Nat)
 | ins (C dx:Addr) (fs:List (Str×V))
 | own (x:Addr)
 | xd (fs:List (Str×V))
 | met (f x:Addr)
 | rng (lo hi:Int)
 | frz (o:Obj) (u:HO)
 | tbl (ps:Array Value)
 | ext (φ:Heap->Prop)
noncomputable abbrev Hp:=Addr->Option HO
noncomputable def A0 (H:Hp) (a:Addr) (o:HO):Hp:=fun b=>if b=a then some o else H b
theorem A3{H:Hp}{a:Addr}{o:HO} : A0 H a o a=some o:=by unfold A0;rw [if_pos rfl]
theorem A7{H:Hp}{a b:Addr}{o:HO}(h:b≠a):A0 H a o b=H b:=by unfold A0;rw [if_neg h]
theorem ne_of{H:Hp}{a b:Addr}{o u:HO}(h:H a=some o)(h':H b=some u)(d:o≠u):a≠b:=by
 intro e;subst e;rw [h] at h';exact d (Option.some.inj h')
theorem r8{H:Hp}{a b:Addr}{o:HO}(h:H a=some o)(h':H b=none):a≠b:=by
 intro e;subst e;rw [h] at h';cases h'
section
variable (P:Program) (w:World)
noncomputable def ObjOk (H:Hp) (h:Heap) (a:Addr):HO->Prop
 | .lst xs=>xs.length<=sizeLine/\∃ (its:List Value) (n:Nat),Vals xs its/\h.get? a=some { cls:=.type "list",data:=.seq its.toArray n }
 | .tup xs=>xs.length<=sizeLine/\∃ its:List Value,Vals xs its/\IsTup h a its.toArray
 | .dK kvs=>kvs.length<=sizeLine/\(a==sysModules)=false/\∃ vs,KV kvs vs/\h.DictOf (M6 P w) a vs
 | .dT kvs=>kvs.length<=sizeLine/\(a==sysModules)=false/\∃ xs:List (List B3×Addr×Value),
   Paired (fun (p:List B3×V) (q:List B3×Addr×Value)=>p.1=q.1/\H q.2.1=some (.tup (p.1.map kV))/\RelV p.2 q.2.2) kvs xs/\
   ∃ o es ep,h.get? a=some o/\o.ExactDict/\o.data=.dict es ep/\es.toList=xs.map (entryOfKey (tupleKind (M6 P w)))/\(xs.map (·.1)).Nodup
 | .set S n=>h.SetOf (intKind P w) a S n
 | .ins C dx fs=>H dx=some (.own a)/\fs.length<=1000/\dx≠a/\h.get? a=some (dO C dx)/\
   ∃ mA,h.Ns1 dx mA/\(∀ f,RelO (fs.lookup f) (mA f))/\PySem.Within mA (fs.map (·.1))
 | .own _=>∃ o,h.get? a=some o
 | .xd fs=>∃ mA,h.Ns1 a mA/\∀ f,RelO (fs.lookup f) (mA f)
 | .rng lo hi=>∃ t u v,h.get? a=some { cls:=.type "range",data:=.fields #[.int lo t,.int hi u,.int 1 v] }
 | .frz o u=>h.get? a=some o/\ObjOk H h a u
 | .tbl ps=>h.get? a=some { cls:=.none,data:=.fields ps }
 | .met f x=>h.get? a=some (PySem.W.methodObj (.ref f) (.ref x))
 | .ext φ=>φ h/\(∃ o,h.get? a=some o)/\∀ h1 h2:Heap,φ h1->(∀ o,h1.get? a=some o->h2.get? a=some o)->φ h2
noncomputable def M8 (H:Hp) (h:Heap):Prop:=∀ a o,H a=some o->ObjOk P w H h a o
end
section
variable {P:Program} {w:World} {H H':Hp} {h h':Heap} {a:Addr} {o:HO}
theorem ObjOk.lt(x:ObjOk P w H h a o):a<h.objs.size:=by
 cases o with
 | lst xs=>obtain ⟨_,_,_,_,e⟩:=x;exact Heap.lt_size e
 | tup xs=>obtain ⟨_,_,_,p⟩:=x;exact p.lt
 | dK kvs=>obtain ⟨_,_,_,_,o,_,_,e,_⟩:=x;exact Heap.lt_size e
 | dT kvs=>obtain ⟨_,_,_,_,o,_,_,e,_⟩:=x;exact Heap.lt_size e
 | set S n=>obtain ⟨o,_,_,_,e,_⟩:=x;exact Heap.lt_size e
 | ins C dx fs=>obtain ⟨_,_,_,e,_⟩:=x;exact Heap.lt_size e
 | own y=>obtain ⟨_,e⟩:=x;exact Heap.lt_size e
 | xd fs=>obtain ⟨_,⟨_,_,_,e,_⟩,_⟩:=x;exact Heap.lt_size e
 | rng lo hi=>obtain ⟨_,_,_,e⟩:=x;exact Heap.lt_size e
 | frz ob u=>obtain ⟨e,_⟩:=x;exact Heap.lt_size e
 | tbl ps=>exact Heap.lt_size (show h.get? a=some _ from x)
 | met f y=>exact Heap.lt_size (show h.get? a=some _ from x)
 | ext φ=>obtain ⟨_,⟨_,e⟩,_⟩:=x;exact Heap.lt_size e
theorem N5{α β:Type}{F G:α->β->Prop} : ∀ {l₁:List α} {l₂:List β},Paired F l₁ l₂->(∀ a b,F a b->G a b)->Paired G l₁ l₂
 | _,_,.nil,_=>.nil
 | _,_,.cons r t,f=>.cons (f _ _ r) (N5 t f)
theorem ObjOk.stay(x:ObjOk P w H h a o)(k:∀ b u,(b=a\/H b=some (.own a))->h.get? b=some u->h'.get? b=some u)(ho:∀ b,H b=some (.own a)->H' b=some (.own a))(ht:∀ b xs,H b=some (.tup xs)->H' b=some (.tup xs)):ObjOk P w H' h' a o:=by
 induction o with
 | lst xs=>obtain ⟨z,its,n,r,e⟩:=x;exact ⟨z,its,n,r,k _ _ (.inl rfl) e⟩
 | tup xs=>obtain ⟨z,its,r,ob,e,c⟩:=x;exact ⟨z,its,r,ob,k _ _ (.inl rfl) e,c⟩
 | dK kvs=>obtain ⟨z,y,vs,r,ob,es,ep,e,c⟩:=x;exact ⟨z,y,vs,r,ob,es,ep,k _ _ (.inl rfl) e,c⟩
 | dT kvs=>
  obtain ⟨z,y,xs,r,ob,es,ep,e,c⟩:=x;exact ⟨z,y,xs,N5 r fun p q z=>⟨z.1,ht _ _ z.2.1,z.2.2⟩,ob,es,ep,k _ _ (.inl rfl) e,c⟩
 | set S n=>obtain ⟨ob,es,ep,t,e,c⟩:=x;exact ⟨ob,es,ep,t,k _ _ (.inl rfl) e,c⟩
 | ins C dx fs=>
  obtain ⟨d,z,ne,e,mA,⟨od,es,ep,e2,c⟩,r⟩:=x;exact ⟨ho _ d,z,ne,k _ _ (.inl rfl) e,mA,⟨od,es,ep,k _ _ (.inr d) e2,c⟩,r⟩
 | own y=>obtain ⟨ob,e⟩:=x;exact ⟨ob,k _ _ (.inl rfl) e⟩
 | xd fs=>obtain ⟨mA,⟨od,es,ep,e,c⟩,r⟩:=x;exact ⟨mA,⟨od,es,ep,k _ _ (.inl rfl) e,c⟩,r⟩
 | rng lo hi=>obtain ⟨t,u,v,e⟩:=x;exact ⟨t,u,v,k _ _ (.inl rfl) e⟩
 | frz ob u ih=>obtain ⟨e,q⟩:=x;exact ⟨k _ _ (.inl rfl) e,ih q⟩
 | tbl ps=>
  have e:h.get? a=some { cls:=.none,data:=.fields ps }:=x;show h'.get? a=some { cls:=.none,data:=.fields ps };exact k a _ (.inl rfl) e
 | met f y=>
  have e:h.get? a=some (PySem.W.methodObj (.ref f) (.ref y)):=x;show h'.get? a=some (PySem.W.methodObj (.ref f) (.ref y));exact k a _ (.inl rfl) e
 | ext φ=>obtain ⟨p,⟨o,e⟩,st⟩:=x;exact ⟨st _ _ p fun o q=>k _ _ (.inl rfl) q,⟨o,k _ _ (.inl rfl) e⟩,st⟩
theorem M8.lt(x:M8 P w H h)(e:H a=some o):a<h.objs.size:=(x a o e).lt
theorem M8.fresh(x:M8 P w H h)(e:h.objs.size<=a):H a=none:=by
 cases q:H a with
 | none=>rfl
 | some u=>exact absurd (V2 (x.lt q) e) (Z4 _)
theorem M8.kept(x:M8 P w H h)(k:∀ b u,h.get? b=some u->h'.get? b=some u):M8 P w H h':=fun a o e=>
 (x a o e).stay (fun b u _ q=>k b u q) (fun _ q=>q) fun _ _ q=>q
theorem M8.laid(x:M8 P w H h)(k:∀ b u,h.get? b=some u->h'.get? b=some u)(hp:h.objs.size<=a)(new:ObjOk P w (A0 H a o) h' a o):M8 P w (A0 H a o) h':=fun b u e=>by
 have hn:=x.fresh hp
 by_cases hb:b=a
 .subst hb;rw [A3] at e;cases e;exact new
 .rw [A7 hb] at e;exact (x b u e).stay (fun c v _ q=>k c v q) (fun c q=>by rw [A7 (r8 q hn)];exact q) fun c xs q=>by rw [A7 (r8 q hn)];exact q
end
noncomputable def Rd (H:Hp) (a:Addr) (u:HO):Prop:=H a=some u\/∃ o,H a=some (.frz o u)
theorem Rd.of{H:Hp}{a:Addr}{u:HO}(h:H a=some u):Rd H a u:=.inl h
theorem Rd.ok{P:Program}{w:World}{H:Hp}{h:Heap}{a:Addr}{u:HO}(r:Rd H a u)(x:M8 P w H h):ObjOk P w H h a u:=by
 rcases r with r | ⟨o,r⟩
 .exact x a u r
 .obtain ⟨_,q⟩:=x a _ r;exact q
noncomputable def mK:Option HO->Prop
 | some (.lst _)=>True
 | some (.dK _)=>True
 | some (.dT _)=>True
 | some (.set _ _)=>True
 | some (.ins _ _ _)=>True
 | some (.ext _)=>True
 | _=>False
section
variable {P:Program} {w:World} {H:Hp} {h h':Heap} {x e:Addr} {o':HO}
theorem M8.write(ok:M8 P w H h)(mu:mK (H x))(he:e=x\/H e=some (.own x))(k:∀ b u,b≠e->h.get? b=some u->h'.get? b=some u)(lJ:∃ u,h'.get? e=some u)(new:ObjOk P w (A0 H x o') h' x o'):M8 P w (A0 H x o') h':=fun b u q=>by
 have nown:∀ c y,H c=some (.own y)->c≠x:=fun c y r z=>by subst z;rw [r] at mu;exact mu
 have ntup:∀ c xs,H c=some (.tup xs)->c≠x:=fun c xs r z=>by subst z;rw [r] at mu;exact mu
 by_cases hb:b=x
 .subst hb;rw [A3] at q;cases q;exact new
 .rw [A7 hb] at q
  by_cases hV:b=e
  .have q':H b=some (.own x):=by
    rcases he with z | z
    .exact absurd (hV.trans z) hb
    .rw [hV];exact z
   rw [q] at q';cases q';obtain ⟨v,hv⟩:=lJ;exact ⟨v,by rw [hV];exact hv⟩
  .refine (ok b u q).stay (fun c v hc r=>k c v ?_ r) (fun c r=>by rw [A7 (nown c b r)];exact r) fun c xs r=>by rw [A7 (ntup c xs r)];exact r
   rcases hc with rfl | hc
   .exact hV
   .rintro rfl
    rcases he with z | z
    .exact nown c b hc z
    .rw [hc] at z;cases z;exact hb rfl
end
structure Un(fs ex:List Addr)(H H':Hp)(h h':Heap):Prop where
 keep:∀ b o,h.get? b=some o->H b=none->b∉fs->b∉ex->h'.get? b=some o
 slot:∀ b o,h.get? b=some o->H b=none->b∈fs->b∉ex->∃ sl,h'.get? b=some { o with slots:=sl }
 free:∀ b o,h.get? b=some o->H b=none->b∉ex->H' b=none
 there:∀ b o,h.get? b=some o->b∉ex->∃ o',h'.get? b=some o'
 tups:∀ b xs,H b=some (.tup xs)->H' b=some (.tup xs)
 frzs:∀ b o u,H b=some (.frz o u)->H' b=some (.frz o u)
 tbls:∀ b ps,H b=some (.tbl ps)->∃ more,H' b=some (.tbl (ps++more))
section
variable {fs fs' ex ex':List Addr} {H H1 H2:Hp} {h h1 h2 h':Heap} {a x e:Addr} {o:HO}
theorem Un.any(u:Un fs ex H H1 h h1){b:Addr}{ob:Obj}(q:h.get? b=some ob)(n:H b=none)(hx:b∉ex):∃ sl,h1.get? b=some { ob with slots:=sl }:=by
 by_cases hb:b∈fs
 .exact u.slot b ob q n hb hx
 .exact ⟨ob.slots,u.keep b ob q n hb hx⟩
theorem Un.kept(k:∀ b u,h.get? b=some u->h'.get? b=some u):Un fs ex H H h h':=
 ⟨fun b ob q _ _ _=>k b ob q,fun b ob q _ _ _=>⟨ob.slots,k b ob q⟩,fun _ _ _ n _=>n,fun b ob q _=>⟨ob,k b ob q⟩,fun _ _ q=>q,fun _ _ _ q=>q,fun _ ps q=>⟨#[],by rw [q];simp⟩⟩
theorem uaf:Un fs ex H H h h:=Un.kept fun _ _ q=>q
theorem Un.laid(k:∀ b u,h.get? b=some u->h'.get? b=some u)(hp:h.objs.size<=a)(hn:H a=none):Un fs ex H (A0 H a o) h h' where
 keep:=fun b u q _ _ _=>k b u q
 slot:=fun b u q _ _ _=>⟨u.slots,k b u q⟩
 free:=fun b u q n _=>by rw [A7 (L8 (V2 (Heap.lt_size q) hp))];exact n
 there:=fun b u q _=>⟨u,k b u q⟩
 tups:=fun b xs q=>by rw [A7 (r8 q hn)];exact q
 frzs:=fun b u xs q=>by rw [A7 (r8 q hn)];exact q
 tbls:=fun b ps q=>⟨#[],by rw [A7 (r8 q hn),q];simp⟩
theorem Un.write(mu:mK (H x))(he:e=x\/H e=some (.own x))(k:∀ b u,b≠e->h.get? b=some u->h'.get? b=some u)(lJ:∃ u,h'.get? e=some u):Un fs ex H (A0 H x o) h h':=by
 have hx:∀ b,H b=none->b≠x:=fun b n z=>by subst z;rw [n] at mu;exact mu
 have hb:∀ b,H b=none->b≠e:=fun b n z=>by
  subst z
  rcases he with r | r
  .exact hx b n r
  .rw [n] at r;cases r
 have hm:∀ b u,H b=some u->¬ mK (some u)->b≠x:=fun b u q nm z=>by subst z;rw [q] at mu;exact nm mu
 refine ⟨fun b u q n _ _=>k b u (hb b n) q,fun b u q n _ _=>⟨u.slots,k b u (hb b n) q⟩,fun b u q n _=>by rw [A7 (hx b n)];exact n,fun b u q _=>?_,
  fun b xs q=>by rw [A7 (hm b _ q fun z=>z)];exact q,fun b u xs q=>by rw [A7 (hm b _ q fun z=>z)];exact q,fun b ps q=>⟨#[],by rw [A7 (hm b _ q fun z=>z),q];simp⟩⟩
 by_cases hV:b=e
 .subst hV;exact lJ
 .exact ⟨u,k b u hV q⟩
end
noncomputable def pV (h:Heap) (H:Hp):List Addr:=(U1 h.objs.size).filter fun a=>(H a).isSome
noncomputable def hidT (h:Heap) (H:Hp):Heap:=PySem.W.hideAll h (pV h H)
theorem aja(h:Heap)(H:Hp):(hidT h H).objs.size=h.objs.size:=PySem.W.hideAll_size _ _
theorem ak3{h:Heap}{H:Hp}{b:Addr}{o:Obj}(e:h.get? b=some o)(n:H b=none):(hidT h H).get? b=some o:=
 PySem.W.hideAll_get _ e fun hm=>by
  have q:(H b).isSome=true:=(W9.mp hm).2;rw [n] at q;simp at q
theorem am8{h:Heap}{H:Hp}{b:Addr}{o:Obj}(e:(hidT h H).get? b=some o):h.get? b=some o/\H b=none:=by
 have e':h.get? b=some o:=PySem.W.of_hideAll (pV h H) e;refine ⟨e',?_⟩
 cases q:H b with
 | none=>rfl
 | some x=>
  have hm:b∈pV h H:=W9.mpr ⟨g7.mpr (Heap.lt_size e'),by simp [q]⟩;have z:(hidT h H).get? b=none:=PySem.W.hideAll_none (pV h H) hm;rw [z] at e;cases e
noncomputable def am9 (g h:Heap) (L:Addr):List (Addr×Obj):=(U1 h.objs.size).filterMap fun a=>if a=L\/(g.get? a).isSome=true then none else (h.get? a).map fun o=>(a,o)
noncomputable def rest (g h:Heap) (L d:Addr):List (Addr×Obj):=(am9 g h L).filter fun p=>decide (p.1≠d)
end L2
namespace L2
open PySem PySem.Spec PyProof.Rows
structure Mod(K:PySem.W.Frag)(mg:Str->Option Value)(base:Heap):Prop where
 kin:K.In base
 glob:base.Ns mainGlobals mg
 blt:∃ mb,base.Ns builtinsNs mb/\∀ x:Str,x≠"__name__"->mb x=bootBuiltins x
 nolimit:base.NoLimit
structure Cx where
 prog:Program
 w:World
 K:PySem.W.Frag
 mg:Str->Option Value
 base:Heap
 A:Around
 N:List Str
 s₀:Shared
 H₀:Hp
 env:Env
 outer:List Env
 stack:List Env
 ex:List Addr
 fn:Str->Bool
 calm:Bool
 pn:List (Addr×Obj)
 xe:Value->Shared->Prop
noncomputable def t4 (l:List Env):List Addr:=l.filterMap (·.frame)
noncomputable abbrev Cx.fs (X:Cx):List Addr:=t4 X.outer
noncomputable def mL (sc:Scope) (x:Str):Prop:=sc.names.lookup x=some .local\/sc.names.lookup x=some .cell\/sc.names.lookup x=some .free
noncomputable def t5 (sc:Scope) (x:Str):Prop:=sc.names.lookup x=some .local\/sc.names.lookup x=some .cell
noncomputable def Look (env:Env) (h:Heap) (m:Str->Option Value) (x:Str) (u:Value):Prop:=
 (env.kindOf x=some .local/\m x=some u)\/((env.kindOf x=some .cell\/env.kindOf x=some .free)/\∃ c,env.cells.lookup x=some c/\h.IsCell c (some u))
structure Cx.Ok(X:Cx):Prop where
 mod:Mod X.K X.mg X.base
 kind:X.env.scope.kind=.function
 glob:X.env.globals=mainGlobals
 blt:X.env.builtins=builtinsNs
 above:X.s₀.heap.objs.size<=X.env.locals
 inj:∀ x y c,X.env.cells.lookup x=some c->X.env.cells.lookup y=some c->x=y
 has:∀ x,(X.env.kindOf x=some .cell\/X.env.kindOf x=some .free)->∃ c,X.env.cells.lookup x=some c
 cab:∀ x c,X.fn x=true->X.env.cells.lookup x=some c->X.s₀.heap.objs.size<=c
 hd:X.calm=true->X.A.handled=none
 frames:X.A.frames=some X.stack
 stk:X.stack=X.outer\/(X.stack=X.env::X.outer/\X.env.frame=some X.env.locals)
 exf:∀ b∈X.ex,b≠X.env.locals/\∀ x c,X.env.cells.lookup x=some c->c≠b
 bs:∀ b o,X.base.get? b=some o->X.s₀.heap.get? b=some o/\X.H₀ b=none
 bsz:X.base.objs.size<=X.s₀.heap.objs.size
 noex:∀ b o,X.base.get? b=some o->b∉X.ex
 exfs:∀ b∈X.ex,b∉X.fs
 funs:X.s₀.heap.FunFrames X.base X.outer
 frf:∀ b∈X.fs,X.H₀ b=none
structure Inv(X:Cx)(pins:List (Addr×Obj))(Y:List (Option V))(H:Hp)(s:Shared):Prop where
 ok:X.Ok
 os:s.os=X.s₀.os
 bare:AllBare s.gens
 base:Un X.fs X.ex X.H₀ H X.s₀.heap s.heap
 loc:∃ m,s.heap.Ns X.env.locals m/\∀ (i:Nat) (x:Str) (v:V),X.N[i]?=some x->Y[i]?=some (some v)->mL X.env.scope x->∃ u,RelV v u/\Look X.env s.heap m x u
 cell:∀ x c,X.env.cells.lookup x=some c->∃ v,s.heap.IsCell c v
 free:H X.env.locals=none
 freeC:∀ x c,X.env.cells.lookup x=some c->H c=none
 pin:∀ p∈X.pn++pins,s.heap.get? p.1=some p.2/\H p.1=none/\p.1≠X.env.locals/\p.1∉X.fs/\∀ v,p.2.data≠.cell v
 hok:M8 X.prog X.w H s.heap
 len:Y.length=X.N.length
section
variable {X:Cx} {pins:List (Addr×Obj)} {Y:List (Option V)} {H H':Hp} {s:Shared} {h':Heap}
theorem Cx.Ok.nofr(ok:X.Ok){b:Addr}{o:Obj}(e:X.base.get? b=some o):b∉X.fs:=fun hb=>by
 have:=(ok.funs.mem hb).1
 rw [e] at this;cases this
theorem Inv.bs(I:Inv X pins Y H s):∀ b o,X.base.get? b=some o->s.heap.get? b=some o/\H b=none:=fun b o e=>
 ⟨I.base.keep b o (I.ok.bs b o e).1 (I.ok.bs b o e).2 (I.ok.nofr e) (I.ok.noex b o e),I.base.free b o (I.ok.bs b o e).1 (I.ok.bs b o e).2 (I.ok.noex b o e)⟩
theorem Inv.bk(I:Inv X pins Y H s):∀ b o,X.base.get? b=some o->s.heap.get? b=some o:=fun b o e=>(I.bs b o e).1
theorem Inv.mod(I:Inv X pins Y H s):Mod X.K X.mg X.base:=I.ok.mod
theorem Inv.kIn(I:Inv X pins Y H s):X.K.In s.heap:=I.ok.mod.kin.keeps I.bk
theorem Inv.lt(I:Inv X pins Y H s):X.env.locals<s.heap.objs.size:=let ⟨_,hn,_⟩:=I.loc;hn.lt
theorem Inv.sz(I:Inv X pins Y H s):X.s₀.heap.objs.size<=s.heap.objs.size:=N4 I.ok.above (Nat.le_of_lt I.lt)
theorem Inv.nofs(I:Inv X pins Y H s){a:Addr}(h:s.heap.objs.size<=a):a∉X.fs:=fun hb=>by
 obtain ⟨_,o,ho,_⟩:=I.ok.funs.mem hb;exact absurd (V2 (Heap.lt_size ho) (N4 I.sz h)) (Z4 _)
theorem Inv.cne(I:Inv X pins Y H s):∀ x c,X.env.cells.lookup x=some c->c≠X.env.locals:=fun x c e z=>by
 obtain ⟨v,o,ho,hd⟩:=I.cell x c e;obtain ⟨m,⟨o',es,ep,j7,hX,_⟩,_⟩:=I.loc;rw [z,j7] at ho;cases ho;rw [hX] at hd;cases hd
theorem Inv.funs(I:Inv X pins Y H s):s.heap.FunFrames X.base X.outer:=by
 have all:∀ (l:List Env),(∀ b∈t4 l,b∈X.fs)->X.s₀.heap.FunFrames X.base l->s.heap.FunFrames X.base l:=by
  intro l
  induction l with
  | nil=>intro _ _;trivial
  | cons env r ih=>
   intro hs hl;obtain ⟨hk,⟨L,o,hf,hn,ho,hd⟩,hr⟩:=hl;have hL:L∈X.fs:=hs L (by unfold t4;rw [bI,hf];exact N3);obtain ⟨sl,e⟩:=I.base.slot L o ho (I.ok.frf L hL) hL fun z=>I.ok.exfs L z hL
   exact ⟨hk,⟨L,_,hf,hn,e,hd⟩,ih (fun b hb=>hs b (by unfold t4;rw [bI,hf];exact N9 _ hb)) hr⟩
 exact all X.outer (fun _ hb=>hb) I.ok.funs
theorem Inv.stack(I:Inv X pins Y H s):s.heap.FunFrames X.base X.stack:=by
 rcases I.ok.stk with e | ⟨e,hf⟩
 .rw [e];exact I.funs
 .rw [e];obtain ⟨m,hn,_⟩:=I.loc;refine .cons (by rw [I.ok.kind];decide) hf hn ?_ I.funs;exact Heap.get?_none_of_le (N4 I.ok.bsz I.ok.above)
theorem Inv.stkSub(I:Inv X pins Y H s):∀ b∈t4 X.stack,b∈X.env.locals::X.fs:=fun b hb=>by
 rcases I.ok.stk with e | ⟨e,hf⟩
 .rw [e] at hb;exact N9 _ hb
 .rw [e] at hb;unfold t4 at hb;rw [bI,hf] at hb;exact hb
theorem Inv.stkFree(I:Inv X pins Y H s):∀ b∈t4 X.stack,H b=none:=fun b hb=>by
 rcases K0.mp (I.stkSub b hb) with e | hb
 .rw [e];exact I.free
 .obtain ⟨_,o,ho,_⟩:=I.ok.funs.mem hb;exact I.base.free b o ho (I.ok.frf b hb) fun z=>I.ok.exfs b z hb
theorem Inv.step{g':Array GenState}{t':Nat}{d':Drawn}{ch:List Addr}(I:Inv X pins Y H s)(aU:∀ b∈ch,(b∈X.ex\/X.s₀.heap.objs.size<=b)/\b≠X.env.locals/\(∀ x c,X.env.cells.lookup x=some c->c≠b)/\∀ p∈X.pn++pins,p.1≠b)(keep:∀ b o,b≠X.env.locals->b∉X.fs->b∉ch->s.heap.get? b=some o->H b=none->h'.get? b=some o)(slot:∀ b o,b≠X.env.locals->b∈X.fs->b∉ch->s.heap.get? b=some o->H b=none->∃ sl,h'.get? b=some { o with slots:=sl })(free:∀ b o,b∉ch->s.heap.get? b=some o->H b=none->H' b=none)(there:∀ b o,b∉ch->s.heap.get? b=some o->∃ o',h'.get? b=some o')(tups:∀ b xs,H b=some (.tup xs)->H' b=some (.tup xs))(frzs:∀ b o u,H b=some (.frz o u)->H' b=some (.frz o u))(tbls:∀ b ps,H b=some (.tbl ps)->∃ more,H' b=some (.tbl (ps++more)))(ns:∀ m,s.heap.Ns X.env.locals m->h'.Ns X.env.locals m)(hok:M8 X.prog X.w H' h')(hg:AllBare g') :
  Inv X pins Y H' { s with heap:=h',gens:=g',drawn:=d',toks:=t' }:=by
 have neL:∀ b o,X.s₀.heap.get? b=some o->b≠X.env.locals:=fun b o e=>L8 (V2 (Heap.lt_size e) I.ok.above)
 have neC:∀ b o,X.s₀.heap.get? b=some o->b∉X.ex->b∉ch:=fun b o e hx hb=>by
  rcases (aU b hb).1 with z | z
  .exact hx z
  .exact absurd (V2 (Heap.lt_size e) z) (Z4 _)
 have cellK:∀ x c,X.env.cells.lookup x=some c->∀ v,s.heap.IsCell c v->h'.IsCell c v:=fun x c e v ⟨o,ho,hd⟩=>by
  have nch:c∉ch:=fun z=>(aU c z).2.2.1 x c e rfl
  by_cases hc:c∈X.fs
  .obtain ⟨sl,q⟩:=slot c o (I.cne x c e) hc nch ho (I.freeC x c e);exact ⟨_,q,hd⟩
  .exact ⟨o,keep c o (I.cne x c e) hc nch ho (I.freeC x c e),hd⟩
 refine ⟨I.ok,I.os,hg,⟨fun b o e n hb hx=>?_,fun b o e n hb hx=>?_,fun b o e n hx=>?_,fun b o e hx=>?_,fun b xs e=>tups b xs (I.base.tups b xs e),fun b o xs e=>frzs b o xs (I.base.frzs b o xs e),fun b ps e=>?_⟩,?_,fun x c e=>?_,?_,fun x c e=>?_,fun p hp=>?_,hok,I.len⟩
 .exact keep b o (neL b o e) hb (neC b o e hx) (I.base.keep b o e n hb hx) (I.base.free b o e n hx)
 .obtain ⟨sl,e1⟩:=I.base.slot b o e n hb hx;obtain ⟨sl',e2⟩:=slot b _ (neL b o e) hb (neC b o e hx) e1 (I.base.free b o e n hx);exact ⟨sl',e2⟩
 .obtain ⟨o',e1⟩:=I.base.there b o e hx;exact free b o' (neC b o e hx) e1 (I.base.free b o e n hx)
 .obtain ⟨o',e1⟩:=I.base.there b o e hx;exact there b o' (neC b o e hx) e1
 .obtain ⟨m1,e1⟩:=I.base.tbls b ps e;obtain ⟨m2,e2⟩:=tbls b _ e1;exact ⟨m1++m2,by rw [e2,Array.append_assoc]⟩
 .obtain ⟨m,hn,hl⟩:=I.loc;refine ⟨m,ns m hn,fun i x v e1 e2 e3=>?_⟩;obtain ⟨u,r,l⟩:=hl i x v e1 e2 e3;refine ⟨u,r,?_⟩
  rcases l with l | ⟨k,c,e,z⟩
  .exact .inl l
  .exact .inr ⟨k,c,e,cellK x c e _ z⟩
 .obtain ⟨v,z⟩:=I.cell x c e;exact ⟨v,cellK x c e v z⟩
 .obtain ⟨m,⟨o,_,_,ho,_⟩,_⟩:=I.loc;exact free _ o (fun z=>(aU _ z).2.1 rfl) ho I.free
 .obtain ⟨v,o,ho,hd⟩:=I.cell x c e;exact free c o (fun z=>(aU c z).2.2.1 x c e rfl) ho (I.freeC x c e)
 .obtain ⟨e,n,ne,nf,d⟩:=I.pin p hp;have nch:p.1∉ch:=fun z=>(aU p.1 z).2.2.2 p hp rfl
  exact ⟨keep p.1 p.2 ne nf nch e n,free p.1 p.2 nch e n,ne,nf,d⟩
theorem Inv.un{t':Nat}(I:Inv X pins Y H s)(u:Un X.fs [] H H' s.heap h')(hok:M8 X.prog X.w H' h'):Inv X pins Y H' { s with heap:=h',toks:=t' }:=by
 obtain ⟨m,⟨o,es,ep,ho,r⟩,_⟩:=id I.loc;obtain ⟨sl,hL⟩:=u.any ho I.free (by simp);exact I.step (g':=s.gens) (d':=s.drawn) (ch:=[]) (fun _ z=>nomatch z) (fun b o _ hb _ e n=>u.keep b o e n hb (by simp)) (fun b o _ hb _ e n=>u.slot b o e n hb (by simp)) (fun b o _ e n=>u.free b o e n (by simp)) (fun b o _ e=>u.there b o e (by simp)) u.tups u.frzs u.tbls (fun m' hm=>by
  obtain ⟨o',es',ep',j7,r'⟩:=hm;rw [ho] at j7;cases j7;exact ⟨_,es',ep',hL,r'⟩) hok I.bare
theorem Inv.call{g':Array GenState}{t':Nat}{d':Drawn}{ch:List Addr}(I:Inv X pins Y H s)(u:Un (t4 X.stack) ch H H' s.heap h')(hok:M8 X.prog X.w H' h')(hg:AllBare g')(aU:∀ b∈ch,(b∈X.ex\/X.s₀.heap.objs.size<=b)/\b≠X.env.locals/\(∀ x c,X.env.cells.lookup x=some c->c≠b)/\∀ p∈X.pn++pins,p.1≠b) :
  Inv X pins Y H' { s with heap:=h',gens:=g',drawn:=d',toks:=t' }:=by
 obtain ⟨m,⟨o,es,ep,ho,r⟩,_⟩:=id I.loc;obtain ⟨sl,hL⟩:=u.any ho I.free fun z=>(aU _ z).2.1 rfl
 exact I.step (ch:=ch) aU (fun b o hL hb hc e n=>u.keep b o e n (fun z=>(K0.mp (I.stkSub b z)).elim hL hb) hc) (fun b o _ _ hc e n=>u.any e n hc) (fun b o hc e n=>u.free b o e n hc) (fun b o hc e=>u.there b o e hc) u.tups u.frzs u.tbls (fun m' hm=>by
  obtain ⟨o',es',ep',j7,r'⟩:=hm;rw [ho] at j7;cases j7;exact ⟨_,es',ep',hL,r'⟩) hok hg
theorem Inv.turned{t':Nat}{it:Addr}(I:Inv X pins Y H s)(k:∀ b o,b≠it->s.heap.get? b=some o->h'.get? b=some o)(hn:H it=none)(hL:it≠X.env.locals)(h1:it∈X.ex\/X.s₀.heap.objs.size<=it)(h2:∀ x c,X.env.cells.lookup x=some c->c≠it)(h3:∀ p∈X.pn++pins,p.1≠it):Inv X pins Y H { s with heap:=h',toks:=t' }:=by
 have nit:∀ b u,H b=some u->b≠it:=fun b u e z=>by rw [z,hn] at e;cases e
 refine I.step (g':=s.gens) (d':=s.drawn) (ch:=[it]) (fun b hb=>?_) (fun b o _ _ hc e _=>k b o (fun z=>hc (by simp [z])) e) (fun b o _ _ hc e _=>⟨o.slots,k b o (fun z=>hc (by simp [z])) e⟩) (fun _ _ _ _ n=>n)
  (fun b o hc e=>⟨o,k b o (fun z=>hc (by simp [z])) e⟩) (fun _ _ e=>e) (fun _ _ _ e=>e) (fun b ps e=>⟨#[],by rw [e];simp⟩) (fun m hm=>?_) (fun b u e=>?_) I.bare
 .have e:b=it:=by simpa using hb
  subst e;exact ⟨h1,hL,h2,h3⟩
 .obtain ⟨o,es,ep,ho,r⟩:=hm;exact ⟨o,es,ep,k _ o (Ne.symm hL) ho,r⟩
 .refine (I.hok b u e).stay (fun c v hc q=>k c v ?_ q) (fun _ q=>q) fun _ _ q=>q
  rcases hc with z | z
  .rw [z];exact nit b u e
  .exact nit c _ z
theorem Inv.tok(I:Inv X pins Y H s)(t:Nat):Inv X pins Y H { s with toks:=t }:=I.un (h':=s.heap) (t':=t) uaf I.hok
theorem Inv.kept{t':Nat}(I:Inv X pins Y H s)(k:∀ b u,s.heap.get? b=some u->h'.get? b=some u):Inv X pins Y H { s with heap:=h',toks:=t' }:=I.un (Un.kept k) (I.hok.kept k)
theorem Inv.laid{a:Addr}{o:HO}{t':Nat}(I:Inv X pins Y H s)(k:∀ b u,s.heap.get? b=some u->h'.get? b=some u)(hp:s.heap.objs.size<=a)(new:ObjOk X.prog X.w (A0 H a o) h' a o) :
  Inv X pins Y (A0 H a o) { s with heap:=h',toks:=t' }:=I.un (Un.laid k hp (I.hok.fresh hp)) (I.hok.laid k hp new)
theorem Inv.write{x e:Addr}{o:HO}{t':Nat}(I:Inv X pins Y H s)(mu:mK (H x))(he:e=x\/H e=some (.own x))(k:∀ b u,b≠e->s.heap.get? b=some u->h'.get? b=some u)(lJ:∃ u,h'.get? e=some u)(new:ObjOk X.prog X.w (A0 H x o) h' x o):Inv X pins Y (A0 H x o) { s with heap:=h',toks:=t' }:=I.un (Un.write mu he k lJ) (I.hok.write mu he k lJ new)
theorem Inv.pins_of{pins':List (Addr×Obj)}(I:Inv X pins Y H s)(h:∀ p∈pins',s.heap.get? p.1=some p.2/\H p.1=none/\p.1≠X.env.locals/\p.1∉X.fs/\∀ v,p.2.data≠.cell v):Inv X pins' Y H s:=
 ⟨I.ok,I.os,I.bare,I.base,I.loc,I.cell,I.free,I.freeC,fun p hp=>(G0.mp hp).elim (fun z=>I.pin p (Q5 _ z)) (h p),I.hok,I.len⟩
theorem ahH{N:List Str}(hN:N.Nodup){i j:Nat}{x:Str}(a:N[i]?=some x)(b:N[j]?=some x):i=j:=by
 obtain ⟨h1,e1⟩:=E9.mp a;obtain ⟨h2,e2⟩:=E9.mp b;exact (List.getElem_inj hN).mp (e1.trans e2.symm)
theorem ajb{M:Model}{A:Around}{E:Value->Shared->Prop}{i:Nat}{x:Str}{v:V}{u:Value}{Q:Unit->Shared->Prop}(I:Inv X pins Y H s)(hN:X.N.Nodup)(hi:X.N[i]?=some x)(hx:t5 X.env.scope x)(r:RelV v u)(h:∀ s',Inv X pins (Y.set i (some v)) H s'->(∃ a,Heap.SameBut a s.heap s'.heap/\(a=X.env.locals\/X.env.cells.lookup x=some a))->Q () s')(hf:X.fn x=true\/X.env.scope.names.lookup x=some .local:=by first | exact .inl rfl | exact .inr rfl | assumption):wpAny M A (storeName X.env x u) Q E s:=by
 obtain ⟨m,hn,hl⟩:=id I.loc;have yQ:(X.env.scope.kind == .class || (X.env.scope.kind == .module&&X.env.locals != X.env.globals))=false:=by rw [I.ok.kind];rfl
 have hiσ:i<Y.length:=by rw [I.len];exact (E9.mp hi).1
 have cne:=I.cne;have tracked:∀ {a:Addr} {h':Heap},(∃ o,s.heap.get? a=some o/\H a=none)->Heap.SameBut a s.heap h'->M8 X.prog X.w H h':=fun {a h'} ha hs b ob e=>by
  obtain ⟨_,_,eS⟩:=ha;refine (I.hok b ob e).stay (fun c w' hc q=>(hs.2 c ?_).trans q) (fun _ q=>q) fun _ _ q=>q
  rintro rfl
  rcases hc with rfl | hc
  .rw [eS] at e;cases e
  .rw [eS] at hc;cases hc
 rcases hx with hk | hk
 .refine wpAny_storeName_local hk hn (fun h' hn' hs=>?_) yQ;obtain ⟨oL,_,_,hoL,_⟩:=id hn;refine h _ ⟨I.ok,I.os,I.bare,⟨fun b o e n hb hx=>?_,fun b o e n hb hx=>?_,I.base.free,fun b o e hx=>?_,I.base.tups,I.base.frzs,I.base.tbls⟩,⟨_,hn',fun j y v' e1 e2 e3=>?_⟩,fun y c e=>?_,I.free,I.freeC,fun p hp=>?_,tracked ⟨oL,hoL,I.free⟩ hs,by simpa using I.len⟩ ⟨_,hs,.inl rfl⟩
  .exact (hs.2 b (L8 (V2 (Heap.lt_size e) I.ok.above))).trans (I.base.keep b o e n hb hx)
  .obtain ⟨sl,e1⟩:=I.base.slot b o e n hb hx;exact ⟨sl,(hs.2 b (L8 (V2 (Heap.lt_size e) I.ok.above))).trans e1⟩
  .obtain ⟨o',e1⟩:=I.base.there b o e hx;exact ⟨o',(hs.2 b (L8 (V2 (Heap.lt_size e) I.ok.above))).trans e1⟩
  .by_cases hj:j=i
   .subst hj;rw [hi] at e1;cases e1;rw [List.getElem?_set_self hiσ] at e2;cases e2;exact ⟨u,r,.inl ⟨hk,by simp⟩⟩
   .rw [List.getElem?_set_ne (Ne.symm hj)] at e2;obtain ⟨u',r',q⟩:=hl j y v' e1 e2 e3;refine ⟨u',r',?_⟩
    rcases q with ⟨k,e⟩ | ⟨k,c,e,z⟩
    .refine .inl ⟨k,?_⟩
     have:y≠x:=fun e=>hj (ahH hN e1 (e ▸ hi))
     simp [this,e]
    .exact .inr ⟨k,c,e,z.sameBut hs (cne y c e)⟩
  .obtain ⟨w',z⟩:=I.cell y c e;exact ⟨w',z.sameBut hs (cne y c e)⟩
  .obtain ⟨e,n,ne,nf,d⟩:=I.pin p hp;exact ⟨(hs.2 p.1 ne).trans e,n,ne,nf,d⟩
 .have yR:X.fn x=true:=by
   rcases hf with z | z
   .exact z
   .rw [z] at hk;cases hk
  obtain ⟨c,hc⟩:=I.ok.has x (.inl hk);obtain ⟨w',z⟩:=I.cell x c hc;refine wpAny_storeName_cell I.ok.kind hk hc z (fun h' aV hs=>?_);obtain ⟨oc,yS,yT⟩:=id z;refine h { s with heap:=h' } ⟨I.ok,I.os,I.bare,⟨fun b o e n hb hx=>?_,fun b o e n hb hx=>?_,I.base.free,fun b o e hx=>?_,I.base.tups,I.base.frzs,I.base.tbls⟩,⟨m,hn.sameBut hs (Ne.symm (cne x c hc)),fun j y v' e1 e2 e3=>?_⟩,fun y c' e=>?_,I.free,I.freeC,fun p hp=>?_,tracked ⟨oc,yS,I.freeC x c hc⟩ hs,by simpa using I.len⟩ ⟨c,hs,.inr hc⟩
  .exact (hs.2 b (L8 (V2 (Heap.lt_size e) (I.ok.cab x c yR hc)))).trans (I.base.keep b o e n hb hx)
  .obtain ⟨sl,e1⟩:=I.base.slot b o e n hb hx;exact ⟨sl,(hs.2 b (L8 (V2 (Heap.lt_size e) (I.ok.cab x c yR hc)))).trans e1⟩
  .obtain ⟨o',e1⟩:=I.base.there b o e hx;exact ⟨o',(hs.2 b (L8 (V2 (Heap.lt_size e) (I.ok.cab x c yR hc)))).trans e1⟩
  .by_cases hj:j=i
   .subst hj;rw [hi] at e1;cases e1;rw [List.getElem?_set_self hiσ] at e2;cases e2;exact ⟨u,r,.inr ⟨.inl hk,c,hc,aV⟩⟩
   .rw [List.getElem?_set_ne (Ne.symm hj)] at e2;obtain ⟨u',r',q⟩:=hl j y v' e1 e2 e3;refine ⟨u',r',?_⟩
    rcases q with q | ⟨k,c',e,z'⟩
    .exact .inl q
    .refine .inr ⟨k,c',e,z'.sameBut hs ?_⟩;rintro rfl;exact hj (ahH hN e1 (I.ok.inj _ _ _ e hc ▸ hi))
  .by_cases hcc:c'=c
   .subst hcc;exact ⟨_,aV⟩
   .obtain ⟨w2,z2⟩:=I.cell y c' e;exact ⟨w2,z2.sameBut hs hcc⟩
  .obtain ⟨e,n,ne,nf,d⟩:=I.pin p hp;refine ⟨(hs.2 p.1 ?_).trans e,n,ne,nf,d⟩;intro q;rw [q,yS] at e;have q':oc=p.2:=Option.some.inj e;exact d w' (by rw [<- q'];exact yT)
theorem pW{M:Model}{A:Around}{E:Value->Shared->Prop}{i:Nat}{x:Str}{v:V}{u:Value}{Q:Unit->Shared->Prop}(I:Inv X pins Y H s)(hN:X.N.Nodup)(hi:X.N[i]?=some x)(hx:t5 X.env.scope x)(r:RelV v u)(h:∀ s',Inv X pins (Y.set i (some v)) H s'->Q () s')(hf:X.fn x=true\/X.env.scope.names.lookup x=some .local:=by first | exact .inl rfl | exact .inr rfl | assumption):wpAny M A (storeName X.env x u) Q E s:=
 ajb I hN hi hx r (fun s' I' _=>h s' I') hf
theorem Inv.call'{s':Shared}{ch:List Addr}(I:Inv X pins Y H s)(ho:s'.os=s.os)(u:Un (t4 X.stack) ch H H' s.heap s'.heap)(hok:M8 X.prog X.w H' s'.heap)(hg:AllBare s'.gens)(aU:∀ b∈ch,(b∈X.ex\/X.s₀.heap.objs.size<=b)/\b≠X.env.locals/\(∀ x c,X.env.cells.lookup x=some c->c≠b)/\∀ p∈X.pn++pins,p.1≠b):Inv X pins Y H' s':=by
 obtain ⟨h',g',d',t',o'⟩:=s';have e:o'=s.os:=ho;subst e;exact I.call (g':=g') (t':=t') (d':=d') u hok hg aU
end
noncomputable abbrev XK:=Value->Option Addr->Hp->Prop
noncomputable abbrev St:=List (Option V)
noncomputable abbrev VK:=V->Hp->Prop
noncomputable abbrev TE:=St->Hp->VK->Prop
noncomputable abbrev TT:=St->Hp->(Bool->Hp->Prop)->Prop
noncomputable abbrev TA:=St->Hp->(List V->Hp->Prop)->Prop
structure Ends where
 nx:St->Hp->Prop
 rt:VK
 bk:St->Hp->Prop:=fun _ _=>False
 ct:St->Hp->Prop:=fun _ _=>False
noncomputable abbrev TS:=Ends->St->Hp->Prop
noncomputable def EP (X:Cx) (pins:List (Addr×Obj)) (Y:St) (Q:VK) (u:Value) (s':Shared):Prop:=∃ v H',Inv X pins Y H' s'/\RelV v u/\Q v H'
noncomputable def TP (X:Cx) (pins:List (Addr×Obj)) (Y:St) (Q:Bool->Hp->Prop) (b:Bool) (s':Shared):Prop:=∃ H',Inv X pins Y H' s'/\Q b H'
noncomputable def AP (X:Cx) (pins:List (Addr×Obj)) (Y:St) (Q:List V->Hp->Prop) (us:List Value) (s':Shared):Prop:=∃ vs H',Inv X pins Y H' s'/\Vals vs us/\Q vs H'
noncomputable def SP (X:Cx) (pins:List (Addr×Obj)) (D:Ends) (f:Flow) (s':Shared):Prop:=
 match f with
 | .next=>∃ σ' H',Inv X pins σ' H' s'/\D.nx σ' H'
 | .brk=>∃ σ' H',Inv X pins σ' H' s'/\D.bk σ' H'
 | .cont=>∃ σ' H',Inv X pins σ' H' s'/\D.ct σ' H'
 | .ret u=>∃ v σ' H',Inv X pins σ' H' s'/\RelV v u/\D.rt v H'
noncomputable def PE (X:Cx) (e:Expr) (t:TE):Prop:=
 ∀ (pins:List (Addr×Obj)) (s:Shared) (Y:St) (H:Hp) (Q:VK),Inv X pins Y H s->t Y H Q->wpAny (model X.prog X.w) X.A (eval e X.env) (EP X pins Y Q) X.xe s
noncomputable def PT (X:Cx) (e:Expr) (t:TT):Prop:=
 ∀ (pins:List (Addr×Obj)) (s:Shared) (Y:St) (H:Hp) (Q:Bool->Hp->Prop),Inv X pins Y H s->t Y H Q->wpAny (model X.prog X.w) X.A (isTrue e X.env (eval e X.env)) (TP X pins Y Q) X.xe s
noncomputable def PW (X:Cx) (e:Expr) (t:TT):Prop:=
 ∀ (whole:Sem Value) (pins:List (Addr×Obj)) (s:Shared) (Y:St) (H:Hp) (Q:Bool->Hp->Prop),Inv X pins Y H s->t Y H Q->wpAny (model X.prog X.w) X.A (isTrue e X.env whole) (TP X pins Y Q) X.xe s
theorem PW.pt{X:Cx}{e:Expr}{t:TT}(h:PW X e t):PT X e t:=h _
noncomputable def PA (X:Cx) (es:List Expr) (t:TA):Prop:=
 ∀ (pos:Pos) (pins:List (Addr×Obj)) (s:Shared) (Y:St) (H:Hp) (Q:List V->Hp->Prop),Inv X pins Y H s->t Y H Q->wpAny (model X.prog X.w) X.A (spliced (backTo pos (starEach es X.env))) (AP X pins Y Q) X.xe s
noncomputable def PS (X:Cx) (st:Stmt) (t:TS):Prop:=
 ∀ (pins:List (Addr×Obj)) (s:Shared) (Y:St) (H:Hp) (D:Ends),Inv X pins Y H s->t D Y H->wpAny (model X.prog X.w) X.A (exec st X.env) (SP X pins D) X.xe s
noncomputable def Y5 (X:Cx) (st:List Stmt) (t:TS):Prop:=
 ∀ (pins:List (Addr×Obj)) (s:Shared) (Y:St) (H:Hp) (D:Ends),Inv X pins Y H s->t D Y H->wpAny (model X.prog X.w) X.A (execs st X.env) (SP X pins D) X.xe s
theorem A9{α:Type}{t:Sem α}{Q Q':α->Shared->Prop}{M:Model}{A:Around}{E:Value->Shared->Prop}{s:Shared}(h:wpAny M A t Q E s)(hQ:∀ a s,Q a s->Q' a s):wpAny M A t Q' E s:=wpAny_mono h hQ fun _ _ x=>x
end L2
namespace L2
open PySem PySem.Spec PyProof.Rows
section
variable {X:Cx}
noncomputable def tVar (i:Nat):TE:=fun Y H Q=>∃ v,Y[i]?=some (some v)/\Q v H
noncomputable def tC (v:V):TE:=fun _ H Q=>Q v H
theorem amz{i:Nat}{x:Str}{pos:Pos}(hN:X.N[i]?=some x)(hv:mL X.env.scope x)(hd:(x==("__debug__" : Str))=false:=by decide)(o7:(x==("__classdict__" : Str))=false:=by decide):PE X (.Name x pos) (tVar i):=by
 intro pins s Y H Q I h;obtain ⟨v,e,h⟩:=h;obtain ⟨m,hn,hl⟩:=I.loc;obtain ⟨u,r,l⟩:=hl i x v hN e hv;have fin:EP X pins Y Q u s:=⟨v,H,I,r,h⟩
 rcases l with ⟨hk,hm⟩ | ⟨hk,c,hc,M4⟩
 .exact wpAny_Name (wpAny_loadName_local I.ok.kind hk hn hm fin) hd
 .rcases hk with hk | hk
  .exact wpAny_Name (wpAny_loadName_cell I.ok.kind hk hc M4 fin) hd
  .exact wpAny_Name (wpAny_loadName_free I.ok.kind hk hc M4 fin o7) hd
theorem amA{i j pos} : PE X (.Constant (.int i) j pos) (tC (.int i)):=fun _ _ _ H _ I h=>wpAny_Constant_int ⟨.int i,H,I.tok _,⟨_,rfl⟩,h⟩
theorem pe_bl{b j pos} : PE X (.Constant (.bool b) j pos) (tC (.bl b)):=fun _ _ _ H _ I h=>Constant_bool ⟨.bl b,H,I,rfl,h⟩
theorem aoQ{j pos} : PE X (.Constant .none j pos) (tC .non):=fun _ _ _ H _ I h=>Constant_none ⟨.non,H,I,rfl,h⟩
theorem aoR{x j pos} : PE X (.Constant (.str x) j pos) (tC (.str x)):=fun _ _ _ H _ I h=>Calls.Constant_str ⟨.str x,H,I.tok _,⟨_,rfl⟩,h⟩
noncomputable def Gl (X:Cx) (x:Str):Prop:=X.env.kindOf x=some .globalImplicit
theorem tS{E:Value->Shared->Prop}{pins:List (Addr×Obj)}{s:Shared}{Y:St}{H:Hp}{x:Str}{u:Value}{pos:Pos}{Q:Value->Shared->Prop}(I:Inv X pins Y H s)(hg:Gl X x)(hm:X.mg x=some u)(h:Q u s)(hd:(x==("__debug__" : Str))=false:=by decide):wpAny (model X.prog X.w) X.A (eval (.Name x pos) X.env) Q E s:=
 Calls.Name_function_global I.ok.kind hg (Calls.loadGlobal_global (by rw [I.ok.glob];exact I.mod.glob.keeps I.bk) hm h) hd
theorem z8{E:Value->Shared->Prop}{pins:List (Addr×Obj)}{s:Shared}{Y:St}{H:Hp}{x:Str}{u:Value}{pos:Pos}{Q:Value->Shared->Prop}(I:Inv X pins Y H s)(hg:Gl X x)(hm:X.mg x=none)(hv:bootBuiltins x=some u)(h:Q u s)(hn:x≠"__name__":=by decide)(hd:(x==("__debug__" : Str))=false:=by decide):wpAny (model X.prog X.w) X.A (eval (.Name x pos) X.env) Q E s:=by
 obtain ⟨mb,h1,h2⟩:=I.mod.blt;exact Calls.Name_function_global I.ok.kind hg (Calls.loadGlobal_builtin (by rw [I.ok.glob];exact I.mod.glob.keeps I.bk) hm (by rw [I.ok.blt];exact h1.keeps I.bk) ((h2 x hn).trans hv) h) hd
theorem ajc{x:Str}{v:V}{u:Value}{pos:Pos}(hg:Gl X x)(hm:X.mg x=some u)(r:RelV v u)(hd:(x==("__debug__" : Str))=false:=by decide):PE X (.Name x pos) (tC v):=
 fun _ _ _ H _ I h=>tS I hg hm ⟨v,H,I,r,h⟩ hd
theorem ana{x:Str}{v:V}{u:Value}{pos:Pos}(hg:Gl X x)(hm:X.mg x=none)(hv:bootBuiltins x=some u)(r:RelV v u)(hn:x≠"__name__":=by decide)(hd:(x==("__debug__" : Str))=false:=by decide):PE X (.Name x pos) (tC v):=
 fun _ _ _ H _ I h=>z8 I hg hm hv ⟨v,H,I,r,h⟩ hn hd
variable {a b:Expr} {ta tb:TE} {pos:Pos}
noncomputable def tB (t:TE):TT:=fun Y H Q=>t Y H fun x H1=>∃ c,x=.bl c/\Q c H1
variable {tA tB':TT} {rest:List Expr}
noncomputable def tAnd (t u:TT):TT:=fun Y H Q=>t Y H fun c H1=>if c=true then u Y H1 Q else Q false H1
noncomputable def tT (t u:TT):TT:=fun Y H Q=>t Y H fun c H1=>if c=true then Q true H1 else u Y H1 Q
noncomputable def tNot (t:TT):TT:=fun Y H Q=>t Y H fun c H1=>Q (!c) H1
theorem anb(ha:PT X a tA):PW X (.BoolOp .And [a] pos) tA:=by
 intro wh pins s Y H Q I h;refine isTrue_and (A9 (ha pins s Y H Q I h) fun c s1 e=>?_)
 cases c with
 | true=>exact isTrue_and_nil e
 | false=>exact e
theorem aoS(ha:PT X a tA):PW X (.BoolOp .Or [a] pos) tA:=by
 intro wh pins s Y H Q I h;refine isTrue_or (A9 (ha pins s Y H Q I h) fun c s1 e=>?_)
 cases c with
 | false=>exact isTrue_or_nil e
 | true=>exact e
theorem aoT(ha:PT X a tA)(hb:PW X (.BoolOp .And (b::rest) pos) tB'):PW X (.BoolOp .And (a::b::rest) pos) (tAnd tA tB'):=by
 intro wh pins s Y H Q I h;refine isTrue_and (A9 (ha pins s Y H _ I h) fun c s1 ⟨H1,I1,q1⟩=>?_)
 cases c with
 | true=>exact hb wh pins s1 Y H1 Q I1 q1
 | false=>exact ⟨H1,I1,q1⟩
theorem pw_or(ha:PT X a tA)(hb:PW X (.BoolOp .Or (b::rest) pos) tB'):PW X (.BoolOp .Or (a::b::rest) pos) (tT tA tB'):=by
 intro wh pins s Y H Q I h;refine isTrue_or (A9 (ha pins s Y H _ I h) fun c s1 ⟨H1,I1,q1⟩=>?_)
 cases c with
 | true=>exact ⟨H1,I1,q1⟩
 | false=>exact hb wh pins s1 Y H1 Q I1 q1
theorem aoU(ha:PT X a tA):PT X (.UnaryOp .Not a pos) (tNot tA):=by
 intro pins s Y H Q I h;exact isTrue_not (ha pins s Y H (fun c H1=>Q (!c) H1) I h)
noncomputable def tAndV (ta tb:TE):TE:=fun Y H Q=>ta Y H fun x H1=>∃ c,x=.bl c/\if c=true then tb Y H1 Q else Q (.bl false) H1
noncomputable def tOrV (ta tb:TE):TE:=fun Y H Q=>ta Y H fun x H1=>∃ c,x=.bl c/\if c=true then Q (.bl true) H1 else tb Y H1 Q
noncomputable def tNotV (ta:TE):TE:=fun Y H Q=>ta Y H fun x H1=>∃ c,x=.bl c/\Q (.bl (!c)) H1
theorem aoV{op}{t:TE}(h:PE X a t):PE X (.BoolOp op [a] pos) t:=fun pins s Y H Q I hw=>BoolOp_one (h pins s Y H Q I hw)
theorem aoW(ha:PE X a ta)(hb:PE X (.BoolOp .And (b::rest) pos) tb):PE X (.BoolOp .And (a::b::rest) pos) (tAndV ta tb):=by
 intro pins s Y H Q I h;refine BoolOp_and (A9 (ha pins s Y H _ I h) fun v s1 ⟨x,H1,I1,r1,q1⟩=>?_);obtain ⟨c,rfl,q1⟩:=q1
 cases r1
 refine wpAny_truthy_bool ?_
 cases c with
 | true=>exact hb pins s1 Y H1 Q I1 q1
 | false=>exact ⟨.bl false,H1,I1,rfl,q1⟩
noncomputable def tU (t:TT) (ta tb:TE):TE:=fun Y H Q=>t Y H fun c H1=>if c=true then ta Y H1 Q else tb Y H1 Q
theorem ak4{c:Expr}(hc:PT X c tA)(ha:PE X a ta)(hb:PE X b tb):PE X (.IfExp c a b pos) (tU tA ta tb):=by
 intro pins s Y H Q I h;refine wpAny_IfExp (A9 (hc pins s Y H _ I h) fun d s1 ⟨H1,I1,q1⟩=>?_)
 cases d with
 | true=>exact ha pins s1 Y H1 Q I1 q1
 | false=>exact hb pins s1 Y H1 Q I1 q1
end
end L2
namespace L2
open PySem PySem.Spec PyProof.Rows
noncomputable def D0 (K:PySem.W.Frag) (H:Hp) (a:Addr) (xs:List V):Prop:=
 Rd H a (.lst xs)\/
  ∃ (o:Obj) (its:Array Value) (n:Nat),K.lookup a=some o/\o.cls=.type "list"/\o.dict=none/\o.data=.seq its n/\its.size<=sizeLine/\Vals xs its.toList
noncomputable def B1 (K:PySem.W.Frag) (H:Hp) (a:Addr) (xs:List V):Prop:=
 Rd H a (.tup xs)\/
  ∃ (o:Obj) (its:Array Value) (n:Nat),K.lookup a=some o/\o.cls=.type "tuple"/\o.data=.seq its n/\its.size<=sizeLine/\Vals xs its.toList
noncomputable def absV:Value->Option V
 | .none=>some .non
 | .bool b=>some (.bl b)
 | .int i _=>some (.int i)
 | .str x _=>some (.str x)
 | .bytes b _=>some (.byt b)
 | .float b _=>some (.flt b)
 | .ref a=>some (.ref a)
 | .type n=>some (.ty n)
 | _=>none
theorem RelV.abs{x:V}{u:Value}(r:RelV x u):absV u=some x:=by
 cases x with
 | non=>cases r;rfl
 | bl _=>cases r;rfl
 | int _=>obtain ⟨t,rfl⟩:=r;rfl
 | str _=>obtain ⟨t,rfl⟩:=r;rfl
 | byt _=>obtain ⟨t,rfl⟩:=r;rfl
 | flt _=>obtain ⟨t,rfl⟩:=r;rfl
 | ref _=>cases r;rfl
 | ty _=>cases r;rfl
theorem RelV.inj{x y:V}{u:Value}(r:RelV x u)(q:RelV y u):x=y:=Option.some.inj (r.abs.symm.trans q.abs)
theorem Vals.inj:∀ {xs ys:List V} {us:List Value},Vals xs us->Vals ys us->xs=ys
 | _,_,_,.nil,.nil=>rfl
 | _,_,_,.cons r t,.cons r' t'=>by rw [r.inj r',Vals.inj t t']
section
variable {X:Cx} {pins:List (Addr×Obj)} {Y:St} {H:Hp} {s:Shared} {a:Addr} {xs ys:List V}
theorem D0.of{K:PySem.W.Frag}(h:H a=some (.lst xs)):D0 K H a xs:=.inl (.inl h)
theorem B1.of{K:PySem.W.Frag}(h:H a=some (.tup xs)):B1 K H a xs:=.inl (.inl h)
theorem Inv.list(I:Inv X pins Y H s)(h:D0 X.K H a xs):∃ its:List Value,Vals xs its/\PlainL s.heap a its.toArray/\xs.length<=sizeLine:=by
 rcases h with h | ⟨o,its,n,hk,hc,hd,hs,hz,r⟩
 .obtain ⟨z,its,n,r,e⟩:=h.ok I.hok;exact ⟨its,r,⟨_,n,e,rfl,rfl,rfl⟩,z⟩
 .refine ⟨its.toList,r,⟨o,n,I.kIn a o hk,hc,hd,by simpa using hs⟩,?_⟩;have e:=r.length;simp only [dP] at e;lia
theorem Inv.tuple(I:Inv X pins Y H s)(h:B1 X.K H a xs):∃ its:List Value,Vals xs its/\IsTup s.heap a its.toArray/\xs.length<=sizeLine:=by
 rcases h with h | ⟨o,its,n,hk,hc,hs,hz,r⟩
 .obtain ⟨z,its,r,p⟩:=h.ok I.hok;exact ⟨its,r,p,z⟩
 .refine ⟨its.toList,r,⟨o,I.kIn a o hk,hc,n,by simpa using hs⟩,?_⟩;have e:=r.length;simp only [dP] at e;lia
theorem Inv.list_inj(I:Inv X pins Y H s)(h:D0 X.K H a xs)(h':D0 X.K H a ys):xs=ys:=by
 obtain ⟨its,r,⟨o,n,e,_,_,d⟩,_⟩:=I.list h;obtain ⟨its',r',⟨o',n',e',_,_,d'⟩,_⟩:=I.list h';rw [e] at e';cases e';rw [d] at d'
 injection d' with d1 _
 have:its=its':=by simpa using congrArg Array.toList d1
 subst this;exact r.inj r'
theorem Inv.tuple_inj(I:Inv X pins Y H s)(h:B1 X.K H a xs)(h':B1 X.K H a ys):xs=ys:=by
 obtain ⟨its,r,⟨o,e,_,n,d⟩,_⟩:=I.tuple h;obtain ⟨its',r',⟨o',e',_,n',d'⟩,_⟩:=I.tuple h';rw [e] at e';cases e';rw [d] at d'
 injection d' with d1 _
 have:its=its':=by simpa using congrArg Array.toList d1
 subst this;exact r.inj r'
end
noncomputable abbrev Cx.wish (X:Cx) (E:Value->Shared->Prop):Cx:={ X with xe:=E }
noncomputable abbrev Cx.nox (X:Cx):Cx:=X.wish fun _ _=>False
theorem Cx.Ok.wish{X:Cx}(ok:X.Ok)(E:Value->Shared->Prop):(X.wish E).Ok:=
 ⟨ok.mod,ok.kind,ok.glob,ok.blt,ok.above,ok.inj,ok.has,ok.cab,ok.hd,ok.frames,ok.stk,ok.exf,ok.bs,ok.bsz,ok.noex,ok.exfs,ok.funs,ok.frf⟩
theorem Cx.Ok.unwish{X:Cx}{E:Value->Shared->Prop}(ok:(X.wish E).Ok):X.Ok:=
 ⟨ok.mod,ok.kind,ok.glob,ok.blt,ok.above,ok.inj,ok.has,ok.cab,ok.hd,ok.frames,ok.stk,ok.exf,ok.bs,ok.bsz,ok.noex,ok.exfs,ok.funs,ok.frf⟩
section
variable {X:Cx} {pins:List (Addr×Obj)} {Y:St} {H:Hp} {s:Shared} {E:Value->Shared->Prop}
theorem Inv.wish(I:Inv X pins Y H s)(E:Value->Shared->Prop):Inv (X.wish E) pins Y H s:=⟨I.ok.wish E,I.os,I.bare,I.base,I.loc,I.cell,I.free,I.freeC,I.pin,I.hok,I.len⟩
theorem Inv.unwish(I:Inv (X.wish E) pins Y H s):Inv X pins Y H s:=⟨I.ok.unwish,I.os,I.bare,I.base,I.loc,I.cell,I.free,I.freeC,I.pin,I.hok,I.len⟩
theorem SP.unwish{D:Ends}{f:Flow}{s':Shared}(h:SP (X.wish E) pins D f s'):SP X pins D f s':=by
 cases f with
 | next=>obtain ⟨σ',H',I,q⟩:=h;exact ⟨σ',H',I.unwish,q⟩
 | brk=>obtain ⟨σ',H',I,q⟩:=h;exact ⟨σ',H',I.unwish,q⟩
 | cont=>obtain ⟨σ',H',I,q⟩:=h;exact ⟨σ',H',I.unwish,q⟩
 | ret u=>obtain ⟨v,σ',H',I,r,q⟩:=h;exact ⟨v,σ',H',I.unwish,r,q⟩
theorem Y5.nox{st:List Stmt}{t:TS}(h:Y5 X.nox st t):Y5 X st t:=fun pins s Y H D I hw=>
 wpAny_mono (h pins s Y H D (I.wish _) hw) (fun _ _ q=>q.unwish) fun _ _ z=>False.elim z
end
section
variable {X:Cx} {st:Stmt} {rest:List Stmt} {t u:TS} {e:Expr} {te:TE} {pos:Pos}
noncomputable def tNext:TS:=fun D Y H=>D.nx Y H
noncomputable def tSeq (t u:TS):TS:=fun D Y H=>t { D with nx:=u D } Y H
theorem anc:Y5 X [] tNext:=fun _ _ Y H _ I h=>wpAny_execs_nil ⟨Y,H,I,h⟩
theorem ak5(h1:PS X st t)(h2:Y5 X rest u):Y5 X (st::rest) (tSeq t u):=by
 intro pins s Y H D I h;refine wpAny_execs_cons (A9 (h1 pins s Y H { D with nx:=u D } I h) fun f s1 q=>?_)
 cases f with
 | next=>
  obtain ⟨σ',H',I',q⟩:=q;exact h2 pins s1 σ' H' D I' q
 | ret v=>exact q
 | brk=>exact q
 | cont=>exact q
theorem ane(h1:PS X st t):Y5 X [st] t:=by
 intro pins s Y H D I h;refine wpAny_execs_cons (A9 (h1 pins s Y H D I h) fun f s1 q=>?_)
 cases f with
 | next=>exact wpAny_execs_nil q
 | ret v=>exact q
 | brk=>exact q
 | cont=>exact q
noncomputable def aoX:TS:=fun D Y H=>D.bk Y H
noncomputable def tCont:TS:=fun D Y H=>D.ct Y H
theorem Inv.quiet{pins:List (Addr×Obj)}{Y:St}{H:Hp}{s:Shared}(I:Inv X pins Y H s):interactive X.env=false:=by simp [interactive,I.ok.kind]
noncomputable def tDrop (te:TE):TS:=fun D Y H=>te Y H fun _ H1=>D.nx Y H1
theorem anf(he:PE X e te)(hs:swapsWith e none pos.line X.env=pure false:=by rfl):PS X (.Expr e pos) (tDrop te):=by
 intro pins s Y H D I h;exact wpAny_Expr_any (A9 (he pins s Y H _ I h) fun v s1 ⟨x,H1,I1,r1,q1⟩=>⟨Y,H1,I1,q1⟩) I.quiet hs
noncomputable def tRet (te:TE):TS:=fun D Y H=>te Y H D.rt
theorem aoY(he:PE X e te):PS X (.Return (some e) pos) (tRet te):=by
 intro pins s Y H D I h;exact wpAny_Return_some (A9 (he pins s Y H _ I h) fun v s1 ⟨x,H1,I1,r1,q1⟩=>⟨x,Y,H1,I1,r1,q1⟩)
noncomputable def tRetN:TS:=fun D _ H=>D.rt .non H
noncomputable def tIfS (c:TT) (t u:TS):TS:=fun D Y H=>c Y H fun b H1=>if b=true then t D Y H1 else u D Y H1
theorem ps_if{c:Expr}{a b:List Stmt}{tc:TT}(hc:PT X c tc)(ha:Y5 X a t)(hb:Y5 X b u):PS X (.If c a b pos) (tIfS tc t u):=by
 intro pins s Y H D I h;refine wpAny_If (A9 (hc pins s Y H _ I h) fun d s1 ⟨H1,I1,q1⟩=>?_)
 cases d with
 | true=>exact ha pins s1 Y H1 D I1 q1
 | false=>exact hb pins s1 Y H1 D I1 q1
noncomputable def tV:TS:=fun _ _ _=>False
theorem ak6:PS X st tV:=fun _ _ _ _ _ _ h=>h.elim
end
noncomputable abbrev TG:=V->St->Hp->(St->Hp->Prop)->Prop
noncomputable abbrev m5:=List V->St->Hp->(St->Hp->Prop)->Prop
noncomputable def PG (X:Cx) (target:Expr) (t:TG):Prop:=
 ∀ (pins:List (Addr×Obj)) (s:Shared) (Y:St) (H:Hp) (v:V) (u:Value) (Q:St->Hp->Prop),Inv X pins Y H s->RelV v u->t v Y H Q->
  wpAny (model X.prog X.w) X.A (assign target X.env u) (fun _ s'=>∃ σ' H',Inv X pins σ' H' s'/\Q σ' H') X.xe s
noncomputable def mM (X:Cx) (ts:List Expr) (t:m5):Prop:=
 ∀ (pins:List (Addr×Obj)) (s:Shared) (Y:St) (H:Hp) (vs:List V) (us:List Value) (Q:St->Hp->Prop),Inv X pins Y H s->Vals vs us->t vs Y H Q->
  wpAny (model X.prog X.w) X.A (assignInOrder ((assignEach ts X.env).map (·.2)) us) (fun _ s'=>∃ σ' H',Inv X pins σ' H' s'/\Q σ' H') X.xe s
noncomputable abbrev TSet:=V->V->V->Hp->(Hp->Prop)->Prop
noncomputable def PSet (X:Cx) (t:TSet):Prop:=
 ∀ (pins:List (Addr×Obj)) (s:Shared) (Y:St) (H:Hp) (o i v:V) (ov iv u:Value) (Q:Hp->Prop),Inv X pins Y H s->RelV o ov->RelV i iv->RelV v u->t o i v H Q->
  wpAny (model X.prog X.w) X.A (setItem ov iv u) (fun _ s'=>∃ H',Inv X pins Y H' s'/\Q H') X.xe s
noncomputable abbrev fY:=V->V->Hp->VK->Prop
noncomputable def tW (X:Cx) (op:Operator) (t:fY):Prop:=
 ∀ (pins:List (Addr×Obj)) (s:Shared) (Y:St) (H:Hp) (x y:V) (v u:Value) (Q:VK),Inv X pins Y H s->RelV x v->RelV y u->t x y H Q->
  wpAny (model X.prog X.w) X.A (inplaceOp op v u) (EP X pins Y Q) X.xe s
section
variable {X:Cx} {pos:Pos}
noncomputable def gName (i:Nat):TG:=fun v Y H Q=>Q (Y.set i (some v)) H
theorem ang{i:Nat}{x:Str}(hN:X.N.Nodup)(hi:X.N[i]?=some x)(hx:t5 X.env.scope x)(hf:X.fn x=true\/X.env.scope.names.lookup x=some .local:=by first | exact .inl rfl | exact .inr rfl | assumption):PG X (.Name x pos) (gName i):=by
 intro pins s Y H v u Q I r h;exact wpAny_assign_Name (pW I hN hi hx r (fun s' I'=>⟨_,H,I',h⟩) hf)
noncomputable def gNil:m5:=fun vs Y H Q=>vs=[]/\Q Y H
noncomputable def gCons (t:TG) (u:m5):m5:=fun vs Y H Q=>∃ v r,vs=v::r/\t v Y H fun σ' H'=>u r σ' H' Q
theorem anh:mM X [] gNil:=by
 intro pins s Y H vs us Q I r h;obtain ⟨e,h⟩:=h;subst e
 cases r
 exact assignInOrder_nil ⟨Y,H,I,h⟩
theorem ak7{e:Expr}{es:List Expr}{t:TG}{u:m5}(h1:PG X e t)(h2:mM X es u)(hs:(assignEach (e::es) X.env).map (·.2)=assign e X.env::(assignEach es X.env).map (·.2):=by rfl):mM X (e::es) (gCons t u):=by
 intro pins s Y H vs us Q I r h;obtain ⟨v,vr,e1,h⟩:=h;subst e1
 cases r with
 | cons r rr=>
  rw [hs];refine assignInOrder_cons (A9 (h1 pins s Y H _ _ _ I r h) fun _ s1 ⟨σ1,H1,I1,q1⟩=>?_);exact h2 pins s1 σ1 H1 _ _ Q I1 rr q1
noncomputable def gTup (K:PySem.W.Frag) (n:Nat) (t:m5):TG:=fun v Y H Q=>∃ a xs,v=.ref a/\B1 K H a xs/\xs.length=n/\t xs Y H Q
theorem aoZ{es:List Expr}{k:Nat}{t:m5}{n:Nat}(hc:X.calm=true)(h:mM X es t)(hn:(assignEach es X.env).length=n:=by rfl)(Y7:(assignEach es X.env).findIdx? (·.1)=none:=by rfl):PG X (.Tuple es k pos) (gTup X.K n t):=by
 intro pins s Y H v u Q I r hw;obtain ⟨a,xs,e1,hq,hl,hw⟩:=hw;subst e1
 cases r
 obtain ⟨its,rv,ht,hz⟩:=I.tuple hq;refine assign_Tuple_tuple (I.ok.hd hc) ht (by simp [hn,<- hl,rv.length]) Y7 fun h' hx=>?_
 have I1:Inv X pins Y H { s with heap:=h' }:=I.kept (t':=s.toks) fun b o e=>hx b o (L8 (Heap.lt_size e)) e
 exact h pins _ Y H xs _ Q I1 (by simpa using rv) hw
noncomputable def gSub (to ti:TE) (t:TSet):TG:=fun v Y H Q=>to Y H fun o H1=>ti Y H1 fun i H2=>t o i v H2 fun H3=>Q Y H3
theorem ao0{o i:Expr}{to ti:TE}{t:TSet}(ho:PE X o to)(hi:PE X i ti)(hs:PSet X t)(ha:∀ v,assign (.Subscript o i pos) X.env v=(do
   let ov <- holding [v] (eval o X.env)
   let iv <- holding [v,ov] (eval i X.env)
   standAt pos
   holding [v,ov,iv] (setItem ov iv v)
   release [v,ov,iv] []):=by intro _;rfl):PG X (.Subscript o i pos) (gSub to ti t):=by
 intro pins s Y H v u Q I r h;rw [ha];refine wpAny_bind (wpAny_holding (A9 (ho pins s Y H _ I h) fun ov s1 ⟨x,H1,I1,r1,q1⟩=>?_));refine wpAny_bind (wpAny_holding (A9 (hi pins s1 Y H1 _ I1 q1) fun iv s2 ⟨y,H2,I2,r2,q2⟩=>?_));refine wpAny_bind (wpAny_standAt (wpAny_bind (wpAny_holding (A9 (hs pins s2 Y H2 x y v ov iv u _ I2 r1 r2 r q2) fun _ s3 ⟨H3,I3,q3⟩=>?_))));exact wpAny_release ⟨Y,H3,I3,q3⟩
noncomputable def tAsg (te:TE) (g:TG):TS:=fun D Y H=>te Y H fun x H1=>g x Y H1 D.nx
theorem ao1{tg e:Expr}{te:TE}{g:TG}(he:PE X e te)(hg:PG X tg g)(hs:swapsWithSole [tg] e pos.line X.env=pure false:=by rfl)(hw:swappedStores [tg] e X.env=pure none:=by rfl)(h1:(assignEach [tg] X.env).map (·.2)=[assign tg X.env]:=by rfl):PS X (.Assign [tg] e pos) (tAsg te g):=by
 intro pins s Y H D I h;refine wpAny_Assign_stores (A9 (he pins s Y H _ I h) fun v s1 ⟨x,H1,I1,r1,q1⟩=>?_) hs hw;rw [h1];exact A9 (hg pins s1 Y H1 x v _ I1 r1 q1) fun _ s2 q=>q
theorem ao2{i:Nat}{x:Str}{e:Expr}{te:TE}{pos':Pos}(hN:X.N.Nodup)(hi:X.N[i]?=some x)(hx:t5 X.env.scope x)(he:PE X e te)(hs:swapsWith e (some (.Name x pos')) pos.line X.env=pure false:=by rfl)(hf:X.fn x=true\/X.env.scope.names.lookup x=some .local:=by first | exact .inl rfl | exact .inr rfl | assumption) :
  PS X (.Assign [.Name x pos'] e pos) (tAsg te (gName i)):=by
 intro pins s Y H D I h;refine wpAny_Assign_Name (A9 (he pins s Y H _ I h) fun v s1 ⟨y,H1,I1,r1,q1⟩=>?_) hs;exact pW I1 hN hi hx r1 (fun s2 I2=>⟨_,H1,I2,q1⟩) hf
noncomputable def tAug (i:Nat) (te:TE) (ti:fY):TS:=fun D Y H=>∃ x,Y[i]?=some (some x)/\te Y H fun y H1=>ti x y H1 fun z H2=>D.nx (Y.set i (some z)) H2
theorem ao3{i:Nat}{x:Str}{e:Expr}{te:TE}{op:Operator}{ti:fY}{pos':Pos}(hN:X.N.Nodup)(hi:X.N[i]?=some x)(hx:t5 X.env.scope x)(he:PE X e te)(ho:tW X op ti)(hf:X.fn x=true\/X.env.scope.names.lookup x=some .local:=by first | exact .inl rfl | exact .inr rfl | assumption) :
  PS X (.AugAssign (.Name x pos') op e pos) (tAug i te ti):=by
 intro pins s Y H D I h;obtain ⟨v,e1,h⟩:=h;obtain ⟨m,hn,hl⟩:=I.loc;have vis:mL X.env.scope x:=by rcases hx with k | k;exact .inl k;exact .inr (.inl k)
 obtain ⟨u,r,l⟩:=hl i x v hi e1 vis;refine wpAny_AugAssign_Name ?_;have go:wpAny (model X.prog X.w) X.A (eval e X.env) (fun w zx=>wpAny (model X.prog X.w) X.A (inplaceOp op u w) (fun r zw=>wpAny (model X.prog X.w) X.A (storeName X.env x r) (fun _=>SP X pins D .next) X.xe zw) X.xe zx) X.xe s:=by
  refine A9 (he pins s Y H _ I h) fun w s1 ⟨y,H1,I1,r1,q1⟩=>?_
  refine A9 (ho pins s1 Y H1 v y u w _ I1 r r1 q1) fun z s2 ⟨zv,H2,I2,r2,q2⟩=>?_
  exact pW I2 hN hi hx r2 (fun s3 I3=>⟨_,H2,I3,q2⟩) hf
 rcases l with ⟨hk,hm⟩ | ⟨hk,c,hc,M4⟩
 .exact wpAny_loadName_local I.ok.kind hk hn hm go
 .rcases hk with hk | hk
  .exact wpAny_loadName_cell I.ok.kind hk hc M4 go
  .rcases hx with k | k
   .have:X.env.scope.names.lookup x=some .free:=hk
    rw [k] at this;cases this
   .have:X.env.scope.names.lookup x=some .free:=hk
    rw [k] at this;cases this
noncomputable def tX (f:Int->Int->Int):fY:=fun x y H Q=>∃ i j,x=.int i/\y=.int j/\Q (.int (f i j)) H
theorem ao4:tW X .Add (tX fun i j=>i+j):=by
 intro pins s Y H x y v u Q I r1 r2 h;obtain ⟨i,j,e1,e2,q⟩:=h;subst e1;subst e2;obtain ⟨t,rfl⟩:=r1;obtain ⟨t',rfl⟩:=r2;exact iadd_int ⟨.int _,H,I.tok _,⟨_,rfl⟩,q⟩
end
section
variable {X:Cx} {pos:Pos}
noncomputable def pX (c:TT) (tb:TS):TS:=fun D Y H=>∃ W:Nat->St->Hp->Prop,(∃ m,W m Y H)/\∀ m Y H,W m Y H->
 c Y H fun b H1=>if b=true then ∃ N:St->Hp->Prop,(∀ σ' H',N σ' H'->∃ m',m'<m/\W m' σ' H')/\tb { D with nx:=N,ct:=N,bk:=D.nx } Y H1 else D.nx Y H1
theorem ak8{c:Expr}{body:List Stmt}{tc:TT}{tb:TS}(hp:PassesOwn (model X.prog X.w) X.A X.env X.xe)(hc:PT X c tc)(hb:Y5 X body tb):PS X (.While c body [] pos) (pX tc tb):=by
 intro pins s Y H D I h;obtain ⟨W,⟨m0,w0⟩,turn⟩:=h;refine wpAny_While (codeAny_whileLoop (fun n s'=>∃ σ' H',Inv X pins σ' H' s'/\W n σ' H') ?_ m0 ⟨Y,H,I,w0⟩);rintro n s1 ⟨σ1,H1,I1,w1⟩;refine wpAny_passesOwn hp (A9 (hc pins s1 σ1 H1 _ I1 (turn n σ1 H1 w1)) fun b s2 ⟨H2,I2,q2⟩=>?_)
 cases b with
 | true=>
  obtain ⟨N,hN,q2⟩:=q2;rw [if_pos rfl];refine wpAny_passesOwn hp (A9 (hb pins s2 σ1 H2 _ I2 q2) fun f s3 q3=>?_)
  cases f with
  | next=>
   obtain ⟨σ3,H3,I3,n3⟩:=q3;obtain ⟨m',hm,w3⟩:=hN σ3 H3 n3;exact ⟨m',hm,σ3,H3,I3,w3⟩
  | cont=>
   obtain ⟨σ3,H3,I3,n3⟩:=q3;obtain ⟨m',hm,w3⟩:=hN σ3 H3 n3;exact ⟨m',hm,σ3,H3,I3,w3⟩
  | brk=>exact q3
  | ret v=>exact q3
 | false=>
  rw [if_neg L5];exact wpAny_execs_nil ⟨σ1,H2,I2,q2⟩
end
structure It where
 go:Nat->Hp->Prop
 yld:Nat->Hp->V->Hp->Prop
 stop:Nat->Hp->Prop
noncomputable def FpOk (X:Cx) (pins:List (Addr×Obj)) (H:Hp) (b:Addr):Prop:=
 H b=none/\b≠X.env.locals/\b∉X.fs/\(b∈X.ex\/X.s₀.heap.objs.size<=b)/\(∀ x c,X.env.cells.lookup x=some c->c≠b)/\∀ p∈X.pn++pins,p.1≠b
theorem Inv.fpOk{X:Cx}{pins:List (Addr×Obj)}{Y:St}{H H':Hp}{s:Shared}{b:Addr}(I:Inv X pins Y H s)(hb:s.heap.objs.size<=b)(hn:H' b=none):FpOk X pins H' b:=by
 refine ⟨hn,Nat.ne_of_gt (V2 I.lt hb),I.nofs hb,.inr (N4 I.sz hb),fun x c e z=>?_,fun p hp z=>?_⟩
 .obtain ⟨v,q⟩:=I.cell x c e;exact absurd (V2 q.lt (by rw [z];exact hb)) (Z4 _)
 .exact absurd (V2 (Heap.lt_size (I.pin p hp).1) (by rw [z];exact hb)) (Z4 _)
structure Turn(P:Program)(w:World)(K:PySem.W.Frag)(tg:Expr)(J:It)(fp:List Addr)(it:Addr)(tn:Nat->Heap->Prop):Prop where
 mem:it∈fp
 obj:∀ i h,tn i h->∀ b∈fp,∃ o,h.get? b=some o/\∀ v,o.data≠.cell v
 keep:∀ i h h',tn i h->(∀ b∈fp,∀ o,h.get? b=some o->h'.get? b=some o)->tn i h'
 item:∀ (X:Cx),X.prog=P->X.w=w->X.K=K->X.calm=true->∀ (i:Nat) (pins:List (Addr×Obj)) (s:Shared) (Y:St) (H:Hp) (E:Value->Shared->Prop),Inv X pins Y H s->(∀ b∈fp,FpOk X pins H b)->tn i s.heap->J.go i H->
  wpAny (model P w) X.A (pyNext (.ref it)) (fun r s1=>∃ u,r=some u/\
   wpAny (model P w) X.A (letOwnedTupleGo tg (.ref it) u) (fun _ s2=>∃ x H',Inv X pins Y H' s2/\RelV x u/\J.yld i H x H'/\tn (i+1) s2.heap/\∀ b∈fp,H' b=none) E s1) E s
 done:∀ (X:Cx),X.prog=P->X.w=w->X.K=K->X.calm=true->∀ (i:Nat) (pins:List (Addr×Obj)) (s:Shared) (Y:St) (H:Hp) (E:Value->Shared->Prop),Inv X pins Y H s->(∀ b∈fp,FpOk X pins H b)->tn i s.heap->J.stop i H->
  wpAny (model P w) X.A (pyNext (.ref it)) (fun r s1=>r=none/\Inv X pins Y H s1) E s
 self:∀ (A:Around) (i:Nat) (s:Shared) (Q:Value->Shared->Prop) (E:Value->Shared->Prop),tn i s.heap->Q (.ref it) s->wpAny (model P w) A (pyIter (.ref it)) Q E s
noncomputable abbrev TI:=St->Hp->(It->Hp->Prop)->Prop
noncomputable def tY (X:Cx) (pins:List (Addr×Obj)) (Y:St) (tg:Expr) (R:It->Hp->Prop) (itv:Value) (s2:Shared):Prop:=
 ∃ (it:Addr) (fp:List Addr) (tn:Nat->Heap->Prop) (J:It) (H':Hp),itv=.ref it/\Inv X pins Y H' s2/\Turn X.prog X.w X.K tg J fp it tn/\tn 0 s2.heap/\(∀ b∈fp,FpOk X pins H' b)/\R J H'
noncomputable def PI (X:Cx) (tg iter:Expr) (wi:TI):Prop:=
 ∀ (pins:List (Addr×Obj)) (s:Shared) (Y:St) (H:Hp) (R:It->Hp->Prop),Inv X pins Y H s->wi Y H R->
  wpAny (model X.prog X.w) X.A (eval iter X.env) (fun v s1=>wpAny (model X.prog X.w) X.A (pyIter v) (tY X pins Y tg R) X.xe s1) X.xe s
theorem go_of{M : Model}{A : Around}{E : Value -> Shared -> Prop}{s : Shared}{tg : Expr}{it : Addr}{u : Value}{o : Obj}{n : String}{vs : Array Value}{Q : Unit -> Shared -> Prop}(ho : s.heap.get? it = some o)(hc : o.cls = .type n)(hd : o.data = .fields vs)(hn : ["enumerate", "zip", "dict_itemiterator", "dict_reverseitemiterator", "odict_iterator", "itertools.zip_longest", "itertools.pairwise"].contains n = false)(hQ : Q () s) : wpAny M A (letOwnedTupleGo tg (.ref it) u) Q E s := by
  unfold letOwnedTupleGo
  cases tg <;> first
    | exact wpAny_pure hQ
    | (cases u <;> first
        | exact wpAny_pure hQ
        | (refine wpAny_bind (wpAny_load ho ?_)
           rw [hc, hd];show wpAny M A (if (["enumerate", "zip", "dict_itemiterator", "dict_reverseitemiterator", "odict_iterator", "itertools.zip_longest", "itertools.pairwise"].contains n&&vs[0]? == some (rawInt _)) = true then _ else _) Q E s;rw [if_neg (by intro h; rw [hn, Bool.false_and] at h; cases h)];exact wpAny_pure hQ))
noncomputable def z9 (K:PySem.W.Frag) (a:Addr):It:=
 ⟨fun i H=>∃ xs x,D0 K H a xs/\xs[i]?=some x,fun i H x H'=>H'=H/\∀ xs,D0 K H a xs->xs[i]?=some x,fun i H=>∃ xs,D0 K H a xs/\xs.length<=i⟩
noncomputable def dQ (K:PySem.W.Frag) (a:Addr):It:=
 ⟨fun i H=>∃ xs x,B1 K H a xs/\xs[i]?=some x,fun i H x H'=>H'=H/\∀ xs,B1 K H a xs->xs[i]?=some x,fun i H=>∃ xs,B1 K H a xs/\xs.length<=i⟩
noncomputable def m6 (lo:Int) (n:Nat):It:=⟨fun i _=>i<n,fun i H x H'=>H'=H/\x=.int (lo+i),fun i _=>n<=i⟩
theorem aje{P:Program}{w:World}{K:PySem.W.Frag}{tg:Expr}(a it:Addr):Turn P w K tg (z9 K a) [it] it (fun i h=>h.IsListIter it a i) where
 mem:=by simp
 obj:=fun i h st b hb=>by
  have e:b=it:=by simpa using hb
  subst e;obtain ⟨o,e,c,d⟩:=st;exact ⟨o,e,fun v z=>by rw [d] at z;cases z⟩
 keep:=fun i h h' st k=>st.at fun o e=>k it (by simp) o e
 item:=by
  intro X hP hw hK hc i pins s Y H E I hf st hg;subst hP hw hK;obtain ⟨xs,x,hq,hx⟩:=hg;obtain ⟨its,rv,p,hz⟩:=I.list hq;obtain ⟨u,hu,ru⟩:=rv.get hx;obtain ⟨f0,f1,f2,f3,f4,f5⟩:=hf it (by simp);refine wpAny_pyNext_list_item st p.isList (x:=u) (by simpa using hu) fun h' st' sb=>?_
  have I1:Inv X pins Y H { s with heap:=h' }:=I.turned (t':=s.toks) (fun b o hb e=>(sb.2 b hb).trans e) f0 f1 f3 f4 f5;obtain ⟨o,e,c,d⟩:=id st';exact ⟨u,rfl,go_of (s:={ s with heap:=h' }) e c d (by decide) ⟨x,H,I1,ru,⟨rfl,fun ys hy=>by rw [I.list_inj hy hq];exact hx⟩,st',fun b hb=>(hf b hb).1⟩⟩
 done:=by
  intro X hP hw hK hc i pins s Y H E I hf st hg;subst hP hw hK;obtain ⟨xs,hq,hx⟩:=hg;obtain ⟨its,rv,p,hz⟩:=I.list hq;obtain ⟨f0,f1,f2,f3,f4,f5⟩:=hf it (by simp);have hl:=rv.length;exact wpAny_pyNext_list_end (I.ok.hd hc) st p.isList (by simp;lia) fun h' eb=>⟨rfl,I.turned (t':=s.toks) (fun b o hb e=>eb b o hb e) f0 f1 f3 f4 f5⟩
 self:=fun _ _ _ _ _ st h=>wpAny_pyIter_listiter st h
theorem aiq{P:Program}{w:World}{K:PySem.W.Frag}{tg:Expr}(a it:Addr):Turn P w K tg (dQ K a) [it] it (fun i h=>h.IsTupleIter it a i) where
 mem:=by simp
 obj:=fun i h st b hb=>by
  have e:b=it:=by simpa using hb
  subst e;obtain ⟨o,e,c,d⟩:=st;exact ⟨o,e,fun v z=>by rw [d] at z;cases z⟩
 keep:=fun i h h' st k=>st.at fun o e=>k it (by simp) o e
 item:=by
  intro X hP hw hK hc i pins s Y H E I hf st hg;subst hP hw hK;obtain ⟨xs,x,hq,hx⟩:=hg;obtain ⟨its,rv,p,hz⟩:=I.tuple hq;obtain ⟨u,hu,ru⟩:=rv.get hx;obtain ⟨f0,f1,f2,f3,f4,f5⟩:=hf it (by simp);refine wpAny_pyNext_tuple_item st (show s.heap.IsTuple a its.toArray from p) (x:=u) (by simpa using hu) fun h' st' sb=>?_
  have I1:Inv X pins Y H { s with heap:=h' }:=I.turned (t':=s.toks) (fun b o hb e=>(sb.2 b hb).trans e) f0 f1 f3 f4 f5;obtain ⟨o,e,c,d⟩:=id st';exact ⟨u,rfl,go_of (s:={ s with heap:=h' }) e c d (by decide) ⟨x,H,I1,ru,⟨rfl,fun ys hy=>by rw [I.tuple_inj hy hq];exact hx⟩,st',fun b hb=>(hf b hb).1⟩⟩
 done:=by
  intro X hP hw hK hc i pins s Y H E I hf st hg;subst hP hw hK;obtain ⟨xs,hq,hx⟩:=hg;obtain ⟨its,rv,p,hz⟩:=I.tuple hq;obtain ⟨f0,f1,f2,f3,f4,f5⟩:=hf it (by simp);have hl:=rv.length;exact wpAny_pyNext_tuple_end (I.ok.hd hc) st (show s.heap.IsTuple a its.toArray from p) (by simp;lia) fun h' eb=>⟨rfl,I.turned (t':=s.toks) (fun b o hb e=>eb b o hb e) f0 f1 f3 f4 f5⟩
 self:=fun _ _ _ _ _ st h=>wpAny_pyIter_tupleiter st h
theorem air{P:Program}{w:World}{K:PySem.W.Frag}{tg:Expr}(it:Addr)(lo:Int)(n:Nat):Turn P w K tg (m6 lo n) [it] it (fun i h=>IsRangeIter h it (lo+(i:Nat)*1) ((n:Int)-(i:Nat)) 1) where
 mem:=by simp
 obj:=fun i h st b hb=>by
  have e:b=it:=by simpa using hb
  subst e;exact ⟨_,st,fun v z=>by
   have z':Data.fields _=Data.cell v:=z
   cases z'⟩
 keep:=fun i h h' st k=>k it (by simp) _ st
 item:=by
  intro X hP hw hK hc i pins s Y H E I hf st hg;subst hP hw hK;obtain ⟨f0,f1,f2,f3,f4,f5⟩:=hf it (by simp);have W:=Walks.range (prog:=X.prog) (w:=X.w) (I.ok.hd hc) it lo 1 n;refine W.item i s _ _ hg st fun v h' tk hv st' kk=>?_
  obtain ⟨t,rfl⟩:=hv;have I1:Inv X pins Y H { s with heap:=h',toks:=tk }:=I.turned (fun b o hb e=>kk b o (by simpa using hb) e) f0 f1 f3 f4 f5;refine ⟨_,rfl,go_of (s:={ s with heap:=h',toks:=tk }) (n:="range_iterator") st' rfl rfl (by decide) ⟨.int (lo+i),H,I1,⟨t,?_⟩,⟨rfl,rfl⟩,st',fun b hb=>(hf b hb).1⟩⟩;rw [Int.mul_one]
 done:=by
  intro X hP hw hK hc i pins s Y H E I hf st hg;subst hP hw hK;obtain ⟨f0,f1,f2,f3,f4,f5⟩:=hf it (by simp);exact wpAny_pyNext_range_end (I.ok.hd hc) st (by have:n<=i:=hg;lia) fun h' eb=>⟨rfl,I.turned (t':=s.toks) (fun b o hb e=>eb b o hb e) f0 f1 f3 f4 f5⟩
 self:=fun _ _ _ _ _ st h=>wpAny_pyIter_rangeiter st h
end L2
namespace L2
open PySem PySem.Spec PyProof.Rows
section
variable {X:Cx} {tg:Expr}
noncomputable def iList (K:PySem.W.Frag) (tl:TE):TI:=fun Y H R=>tl Y H fun x H1=>∃ a,x=.ref a/\(∃ xs,D0 K H1 a xs)/\R (z9 K a) H1
noncomputable def iTup (K:PySem.W.Frag) (tl:TE):TI:=fun Y H R=>tl Y H fun x H1=>∃ a,x=.ref a/\(∃ xs,B1 K H1 a xs)/\R (dQ K a) H1
theorem ani{l:Expr}{tl:TE}(hl:PE X l tl):PI X tg l (iList X.K tl):=by
 intro pins s Y H R I h;refine A9 (hl pins s Y H _ I h) fun v s1 ⟨x,H1,I1,r1,q1⟩=>?_
 obtain ⟨a,e,⟨xs,hq⟩,q⟩:=q1;subst e
 cases r1
 obtain ⟨its,rv,p,hz⟩:=I1.list hq;refine wpAny_pyIter_list p.isList ?_;refine ⟨s1.heap.objs.size,[s1.heap.objs.size],_,_,H1,rfl,I1.kept (t':=s1.toks) fun b o e=>Heap.get?_push_of_some _ e,aje a _,⟨_,Heap.get?_push_size _ rfl,rfl,rfl⟩,fun b hb=>?_,q⟩;have e:b=s1.heap.objs.size:=by simpa using hb
 subst e;exact I1.fpOk (C3 _) (I1.hok.fresh (C3 _))
theorem ao5{l:Expr}{tl:TE}(hl:PE X l tl):PI X tg l (iTup X.K tl):=by
 intro pins s Y H R I h;refine A9 (hl pins s Y H _ I h) fun v s1 ⟨x,H1,I1,r1,q1⟩=>?_
 obtain ⟨a,e,⟨xs,hq⟩,q⟩:=q1;subst e
 cases r1
 obtain ⟨its,rv,p,hz⟩:=I1.tuple hq;refine wpAny_pyIter_tuple (show s1.heap.IsTuple a its.toArray from p) ?_;refine ⟨s1.heap.objs.size,[s1.heap.objs.size],_,_,H1,rfl,I1.kept (t':=s1.toks) fun b o e=>Heap.get?_push_of_some _ e,aiq a _,⟨_,Heap.get?_push_size _ rfl,rfl,rfl⟩,fun b hb=>?_,q⟩;have e:b=s1.heap.objs.size:=by simpa using hb
 subst e;exact I1.fpOk (C3 _) (I1.hok.fresh (C3 _))
theorem ahJ{pins:List (Addr×Obj)}{Y:St}{H:Hp}{s:Shared}{R:It->Hp->Prop}{E:Value->Shared->Prop}{lo hi:Int}{t u v:Tok}{tk:Nat}(I:Inv X pins Y H s)(h1:-(2 ^ 62)<=lo)(h2:lo<2 ^ 62)(h3:-(2 ^ 62)<=hi)(h4:hi<2 ^ 62)(q:R (m6 lo (hi-lo).toNat) H):wpAny (model X.prog X.w) X.A (pyIter (.ref s.heap.objs.size)) (tY X pins Y tg R) E { s with heap:=s.heap.push { cls:=.type "range",data:=.fields #[.int lo t,.int hi u,.int 1 v] },toks:=tk }:=by
 refine wpAny_pyIter_range (IsRange.new ..) (small_one h1 h2 h3 h4) ?_;have I1:Inv X pins Y H { s with heap:=s.heap.push { cls:=.type "range",data:=.fields #[.int lo t,.int hi u,.int 1 v] },toks:=tk }:=I.kept fun b o e=>Heap.get?_push_of_some _ e
 refine ⟨(s.heap.push { cls:=.type "range",data:=.fields #[.int lo t,.int hi u,.int 1 v] }).objs.size,[(s.heap.push { cls:=.type "range",data:=.fields #[.int lo t,.int hi u,.int 1 v] }).objs.size],_,_,H,rfl,
  I1.kept (t':=tk) fun b o e=>Heap.get?_push_of_some _ e,air _ lo (hi-lo).toNat,?_,fun b hb=>?_,q⟩
 .have e1:lo+((0:Nat):Int)*1=lo:=by simp
  have e2:(((hi-lo).toNat:Nat):Int)-((0:Nat):Int)=Builtin.Range.rangeSize lo hi 1:=by rw [rangeSize_one];split <;> lia
  show IsRangeIter _ _ (lo+((0:Nat):Int)*1) ((((hi-lo).toNat:Nat):Int)-((0:Nat):Int)) 1;rw [e1,e2];exact Heap.get?_push_size _ rfl
 .have e:b=(s.heap.push { cls:=.type "range",data:=.fields #[.int lo t,.int hi u,.int 1 v] }).objs.size:=by simpa using hb
  subst e;exact I1.fpOk (C3 _) (I1.hok.fresh (C3 _))
noncomputable def iRng1 (ta:TA):TI:=fun Y H R=>ta Y H fun vs H1=>∃ j:Int,vs=[.int j]/\-(2 ^ 62)<=j/\j<2 ^ 62/\R (m6 0 j.toNat) H1
noncomputable def iRng2 (ta:TA):TI:=fun Y H R=>ta Y H fun vs H1=>∃ i j:Int,vs=[.int i,.int j]/\(-(2 ^ 62)<=i/\i<2 ^ 62/\-(2 ^ 62)<=j/\j<2 ^ 62)/\R (m6 i (j-i).toNat) H1
theorem ajf{a:Expr}{ta:TA}{p pos:Pos}(hg:Gl X "range")(hm:X.mg "range"=none)(ha:PA X [a] ta)(hs:starEach [a] X.env=[(false,eval a X.env)]:=by rfl):PI X tg (.Call (.Name "range" p) [a] [] pos) (iRng1 ta):=by
 intro pins s Y H R I h;refine Call_ (z8 I hg hm boot_range (PyProof.Rows.callWith_type1 (A9 (ha pos pins s Y H _ I h) fun us s1 ⟨vs,H1,I1,r1,q1⟩=>?_) hs rfl));obtain ⟨j,e,q1,q2,q⟩:=q1;subst e
 cases r1 with
 | cons r rr=>
  cases rr
  obtain ⟨t,rfl⟩:=r;exact call_range_1 (ahJ I1 (by lia) (by lia) q1 q2 (by simpa using q))
theorem ajg{a b:Expr}{ta:TA}{p pos:Pos}(hg:Gl X "range")(hm:X.mg "range"=none)(ha:PA X [a,b] ta)(hs:starEach [a,b] X.env=[(false,eval a X.env),(false,eval b X.env)]:=by rfl)(cJ:starEach [b] X.env=[(false,eval b X.env)]:=by rfl) :
  PI X tg (.Call (.Name "range" p) [a,b] [] pos) (iRng2 ta):=by
 intro pins s Y H R I h;refine Call_ (z8 I hg hm boot_range (PyProof.Rows.callWith_type1 (A9 (ha pos pins s Y H _ I h) fun us s1 ⟨vs,H1,I1,r1,q1⟩=>?_) (by rw [hs,cJ]) (by rw [cJ];rfl)));obtain ⟨i,j,e,⟨q1,q2,q3,q4⟩,q⟩:=q1;subst e
 cases r1 with
 | cons r rr=>
  cases rr with
  | cons r' rr=>
   cases rr
   obtain ⟨t,rfl⟩:=r;obtain ⟨t',rfl⟩:=r';exact call_range_2 (ahJ I1 q1 q2 q3 q4 q)
noncomputable def tFor (wi:TI) (g:TG) (tb:TS):TS:=fun D Y H=>wi Y H fun J H1=>∃ W:Nat->Nat->St->Hp->Prop,(∃ m,W 0 m Y H1)/\∀ i m Y H,W i m Y H->
 (J.stop i H/\D.nx Y H)\/(J.go i H/\∃ N:St->Hp->Prop,(∀ σ' H',N σ' H'->∃ m',m'<m/\W (i+1) m' σ' H')/\∀ x H',J.yld i H x H'->g x Y H' fun σ2 H2=>tb { D with nx:=N,ct:=N,bk:=D.nx } σ2 H2)
noncomputable def jP (fp:List Addr) (h:Heap):List (Addr×Obj):=fp.filterMap fun b=>(h.get? b).map fun o=>(b,o)
theorem jQ{fp:List Addr}{h:Heap}{b:Addr}{o:Obj}(hb:b∈fp)(e:h.get? b=some o):(b,o)∈jP fp h:=jF.mpr ⟨b,hb,by rw [e];rfl⟩
theorem ajh{fp:List Addr}{h:Heap}{p:Addr×Obj}(hp:p∈jP fp h):p.1∈fp/\h.get? p.1=some p.2:=by
 obtain ⟨b,hb,e⟩:=jF.mp hp
 cases q:h.get? b with
 | none=>rw [q] at e;cases e
 | some o=>
  rw [q] at e;have e':(b,o)=p:=Option.some.inj e;subst e';exact ⟨hb,q⟩
theorem Inv.pinned{pins:List (Addr×Obj)}{Y:St}{H:Hp}{s:Shared}{fp:List Addr}(I:Inv X pins Y H s)(hf:∀ b∈fp,FpOk X pins H b)(ho:∀ b∈fp,∃ o,s.heap.get? b=some o/\∀ v,o.data≠.cell v):Inv X (pins++jP fp s.heap) Y H s:=
 I.pins_of fun p hp=>(G0.mp hp).elim (fun z=>I.pin p (O5 _ z)) fun z=>by
  obtain ⟨hb,e⟩:=ajh z;obtain ⟨f0,f1,f2,_⟩:=hf p.1 hb;obtain ⟨o,e',d⟩:=ho p.1 hb;rw [e] at e';cases e';exact ⟨e,f0,f1,f2,d⟩
theorem Inv.unpinned{pins pl:List (Addr×Obj)}{Y:St}{H:Hp}{s:Shared}(I:Inv X (pins++pl) Y H s):Inv X pins Y H s:=I.pins_of fun p hp=>I.pin p (O5 _ (Q5 _ hp))
theorem ao6{iter:Expr}{body:List Stmt}{wi:TI}{g:TG}{tb:TS}{pos:Pos}(hp:PassesOwn (model X.prog X.w) X.A X.env X.xe)(hc:X.calm=true)(hi:PI X tg iter wi)(hg:PG X tg g)(hb:Y5 X body tb)(hs:∀ x,foldedSetIterable iter X.env x=pure x:=by intro _;rfl):PS X (.For tg iter body [] pos) (tFor wi g tb):=by
 intro pins s Y H D I h;refine wpAny_For (A9 (hi pins s Y H _ I h) fun v s1 h1=>A9 h1 fun itv s2 h2=>?_) hs;obtain ⟨it,fp,tn,J,H2,e,I2,T,oO,f2,W,⟨m0,w0⟩,turn⟩:=h2;subst e;have stat:∀ {H':Hp},(∀ b∈fp,H' b=none)->∀ b∈fp,FpOk X pins H' b:=fun hn b hb=>⟨hn b hb,(f2 b hb).2⟩
 refine codeAny_forLoop_any (fun n s'=>∃ i σ' H',Inv X pins σ' H' s'/\tn i s'.heap/\(∀ b∈fp,H' b=none)/\W i n σ' H') ?_ m0 ⟨0,Y,H2,I2,oO,fun b hb=>(f2 b hb).1,w0⟩;rintro n s3 ⟨i,σ3,H3,I3,eT,oP,w3⟩
 rcases turn i n σ3 H3 w3 with ⟨stop,qn⟩ | ⟨go,N,hN,step⟩
 .refine wpAny_passesOwn hp (A9 (T.done X rfl rfl rfl hc i pins s3 σ3 H3 X.xe I3 (stat oP) eT stop) fun r s4 ⟨hr,I4⟩=>?_);subst hr;exact wpAny_execs_nil ⟨σ3,H3,I4,qn⟩
 .refine wpAny_passesOwn hp (A9 (T.item X rfl rfl rfl hc i pins s3 σ3 H3 X.xe I3 (stat oP) eT go) fun r s4 ⟨u,hr,h4⟩=>?_);subst hr;refine wpAny_passesOwn hp (A9 h4 fun _ s5 ⟨x,H5,I5,r5,y5,iA,yU⟩=>?_);have I5':=I5.pinned (stat yU) (T.obj _ _ iA);refine wpAny_passesOwn hp (A9 (hg _ s5 σ3 H5 x u _ I5' r5 (step x H5 y5)) fun _ s6 ⟨σ6,H6,I6,q6⟩=>?_);refine wpAny_passesOwn hp (A9 (hb _ s6 σ6 H6 _ I6 q6) fun f s7 q7=>?_);have again:∀ {σ7:St} {H7:Hp},Inv X (pins++jP fp s5.heap) σ7 H7 s7->N σ7 H7->∃ m,m<n/\∃ i σ' H',Inv X pins σ' H' s7/\tn i s7.heap/\(∀ b∈fp,H' b=none)/\W i m σ' H':=fun {σ7 H7} I7 n7=>by
   obtain ⟨m',hm,w7⟩:=hN σ7 H7 n7;refine ⟨m',hm,i+1,σ7,H7,I7.unpinned,T.keep _ _ _ iA fun b hb o e=>(I7.pin (b,o) (O5 _ (O5 _ (jQ hb e)))).1,fun b hb=>?_,w7⟩;obtain ⟨o,e,d⟩:=T.obj _ _ iA b hb;exact (I7.pin (b,o) (O5 _ (O5 _ (jQ hb e)))).2.1
  cases f with
  | next=>obtain ⟨σ7,H7,I7,n7⟩:=q7;exact again I7 n7
  | cont=>obtain ⟨σ7,H7,I7,n7⟩:=q7;exact again I7 n7
  | brk=>obtain ⟨σ7,H7,I7,q7⟩:=q7;exact ⟨σ7,H7,I7.unpinned,q7⟩
  | ret v=>obtain ⟨x7,σ7,H7,I7,r7,q7⟩:=q7;exact ⟨x7,σ7,H7,I7.unpinned,r7,q7⟩
end
theorem ak9{K:PySem.W.Frag}{a:Addr}{xs:List V}{g:TG}{tb:TS}{D:Ends}{Y:St}{H:Hp}(Pv:Nat->St->Hp->Prop)(h0:Pv 0 Y H)(hl:∀ i Y H,i<=xs.length->Pv i Y H->D0 K H a xs)(hs:∀ i x Y H,xs[i]?=some x->Pv i Y H->g x Y H fun σ2 H2=>tb { D with nx:=Pv (i+1),ct:=Pv (i+1),bk:=D.nx } σ2 H2)(hd:∀ Y H,Pv xs.length Y H->D.nx Y H) :
  ∃ W:Nat->Nat->St->Hp->Prop,(∃ m,W 0 m Y H)/\∀ i m Y H,W i m Y H->
   ((z9 K a).stop i H/\D.nx Y H)\/((z9 K a).go i H/\∃ N:St->Hp->Prop,(∀ σ' H',N σ' H'->∃ m',m'<m/\W (i+1) m' σ' H')/\∀ x H',(z9 K a).yld i H x H'->g x Y H' fun σ2 H2=>tb { D with nx:=N,ct:=N,bk:=D.nx } σ2 H2):=by
 refine ⟨fun i m Y H=>m=xs.length-i/\i<=xs.length/\Pv i Y H,⟨xs.length,by simp,F7 _,h0⟩,?_⟩;rintro i m Y H ⟨rfl,hi,p⟩;have q:=hl i Y H hi p
 by_cases C4:i<xs.length
 .refine .inr ⟨⟨xs,xs[i],q,by simp [C4]⟩,Pv (i+1),fun σ' H' p'=>⟨xs.length-(i+1),by lia,rfl,C4,p'⟩,fun x H' y=>?_⟩;obtain ⟨e,y⟩:=y;subst e;exact hs i x Y _ (y xs q) p
 .have e:i=xs.length:=by lia
  subst e;exact .inl ⟨⟨xs,q,C3 _⟩,hd Y H p⟩
theorem anj{K:PySem.W.Frag}{a:Addr}{xs:List V}{g:TG}{tb:TS}{D:Ends}{Y:St}{H:Hp}(Pv:Nat->St->Hp->Prop)(h0:Pv 0 Y H)(hl:∀ i Y H,i<=xs.length->Pv i Y H->B1 K H a xs)(hs:∀ i x Y H,xs[i]?=some x->Pv i Y H->g x Y H fun σ2 H2=>tb { D with nx:=Pv (i+1),ct:=Pv (i+1),bk:=D.nx } σ2 H2)(hd:∀ Y H,Pv xs.length Y H->D.nx Y H) :
  ∃ W:Nat->Nat->St->Hp->Prop,(∃ m,W 0 m Y H)/\∀ i m Y H,W i m Y H->
   ((dQ K a).stop i H/\D.nx Y H)\/((dQ K a).go i H/\∃ N:St->Hp->Prop,(∀ σ' H',N σ' H'->∃ m',m'<m/\W (i+1) m' σ' H')/\∀ x H',(dQ K a).yld i H x H'->g x Y H' fun σ2 H2=>tb { D with nx:=N,ct:=N,bk:=D.nx } σ2 H2):=by
 refine ⟨fun i m Y H=>m=xs.length-i/\i<=xs.length/\Pv i Y H,⟨xs.length,by simp,F7 _,h0⟩,?_⟩;rintro i m Y H ⟨rfl,hi,p⟩;have q:=hl i Y H hi p
 by_cases C4:i<xs.length
 .refine .inr ⟨⟨xs,xs[i],q,by simp [C4]⟩,Pv (i+1),fun σ' H' p'=>⟨xs.length-(i+1),by lia,rfl,C4,p'⟩,fun x H' y=>?_⟩;obtain ⟨e,y⟩:=y;subst e;exact hs i x Y _ (y xs q) p
 .have e:i=xs.length:=by lia
  subst e;exact .inl ⟨⟨xs,q,C3 _⟩,hd Y H p⟩
theorem aji{lo:Int}{n:Nat}{g:TG}{tb:TS}{D:Ends}{Y:St}{H:Hp}(Pv:Nat->St->Hp->Prop)(h0:Pv 0 Y H)(hs:∀ i Y H,i<n->Pv i Y H->g (.int (lo+i)) Y H fun σ2 H2=>tb { D with nx:=Pv (i+1),ct:=Pv (i+1),bk:=D.nx } σ2 H2)(hd:∀ Y H,Pv n Y H->D.nx Y H) :
  ∃ W:Nat->Nat->St->Hp->Prop,(∃ m,W 0 m Y H)/\∀ i m Y H,W i m Y H->
   ((m6 lo n).stop i H/\D.nx Y H)\/((m6 lo n).go i H/\∃ N:St->Hp->Prop,(∀ σ' H',N σ' H'->∃ m',m'<m/\W (i+1) m' σ' H')/\∀ x H',(m6 lo n).yld i H x H'->g x Y H' fun σ2 H2=>tb { D with nx:=N,ct:=N,bk:=D.nx } σ2 H2):=by
 refine ⟨fun i m Y H=>m=n-i/\i<=n/\Pv i Y H,⟨n,by simp,F7 _,h0⟩,?_⟩;rintro i m Y H ⟨rfl,hi,p⟩
 by_cases C4:i<n
 .refine .inr ⟨C4,Pv (i+1),fun σ' H' p'=>⟨n-(i+1),by lia,rfl,C4,p'⟩,fun x H' y=>?_⟩;obtain ⟨e,y⟩:=y;subst e y;exact hs i Y _ C4 p
 .have e:i=n:=by lia
  subst e;exact .inl ⟨C3 _,hd Y H p⟩
end L2
namespace L2
open PySem PySem.Spec PyProof.Rows
noncomputable abbrev R2:=V->V->Hp->VK->Prop
noncomputable def G6 (X:Cx) (f:Value->Value->Sem Value) (r:R2):Prop:=
 ∀ (pins:List (Addr×Obj)) (s:Shared) (Y:St) (H:Hp) (x y:V) (v u:Value) (Q:VK),Inv X pins Y H s->RelV x v->RelV y u->r x y H Q->
  wpAny (model X.prog X.w) X.A (f v u) (EP X pins Y Q) X.xe s
noncomputable def pY (X:Cx) (f:Value->Sem Value) (r:V->Hp->VK->Prop):Prop:=
 ∀ (pins:List (Addr×Obj)) (s:Shared) (Y:St) (H:Hp) (x:V) (v:Value) (Q:VK),Inv X pins Y H s->RelV x v->r x H Q->
  wpAny (model X.prog X.w) X.A (f v) (EP X pins Y Q) X.xe s
noncomputable def CallR (X:Cx) (f:Value) (r:List V->Hp->VK->Prop):Prop:=
 ∀ (pins:List (Addr×Obj)) (s:Shared) (Y:St) (H:Hp) (xs:List V) (us:List Value) (Q:VK),Inv X pins Y H s->Vals xs us->r xs H Q->
  wpAny (model X.prog X.w) X.A (call f us) (EP X pins Y Q) X.xe s
noncomputable def TruR (X:Cx) (r:V->Hp->(Bool->Hp->Prop)->Prop):Prop:=
 ∀ (pins:List (Addr×Obj)) (s:Shared) (Y:St) (H:Hp) (x:V) (v:Value) (Q:Bool->Hp->Prop),Inv X pins Y H s->RelV x v->r x H Q->
  wpAny (model X.prog X.w) X.A (truthy v) (TP X pins Y Q) X.xe s
noncomputable def bQ (r:R2) (ta tb:TE):TE:=fun Y H Q=>ta Y H fun x H1=>tb Y H1 fun y H2=>r x y H2 Q
noncomputable def tZ (r:V->Hp->VK->Prop) (ta:TE):TE:=fun Y H Q=>ta Y H fun x H1=>r x H1 Q
noncomputable def rI (C:Int->Int->Prop) (g:Int->Int->V):R2:=fun x y H Q=>∃ i j,x=.int i/\y=.int j/\C i j/\Q (g i j) H
noncomputable def aA (g:Int->Int->V):R2:=fun x y H Q=>∃ i j,x=.int i/\y=.int j/\Q (g i j) H
noncomputable def rU (g:Int->V):V->Hp->VK->Prop:=fun x H Q=>∃ i,x=.int i/\Q (g i) H
section
variable {X:Cx} {a b c:Expr} {ta tb tc:TE} {pos:Pos}
theorem binT(ha:PE X a ta)(hb:PE X b tb){pins:List (Addr×Obj)}{s:Shared}{Y:St}{H:Hp}{R:V->V->Hp->Prop}(I:Inv X pins Y H s)(h:ta Y H fun x H1=>tb Y H1 fun y H2=>R x y H2){Q:Value->Shared->Prop}{f:Value->Value->Sem Value}(hf:∀ v u s2 x y H2,Inv X pins Y H2 s2->RelV x v->RelV y u->R x y H2->wpAny (model X.prog X.w) X.A (f v u) Q X.xe s2) :
  wpAny (model X.prog X.w) X.A (eval a X.env) (fun v zu=>wpAny (model X.prog X.w) X.A (eval b X.env) (fun u zx=>wpAny (model X.prog X.w) X.A (f v u) Q X.xe zx) X.xe zu) X.xe s:=by
 refine A9 (ha pins s Y H _ I h) fun v s1 ⟨x,H1,I1,r1,q1⟩=>?_
 refine A9 (hb pins s1 Y H1 _ I1 q1) fun u s2 ⟨y,H2,I2,r2,q2⟩=>?_
 exact hf v u s2 x y H2 I2 r1 r2 q2
theorem pe_op{op:Operator}{r:R2}(ho:G6 X (binaryOp op) r)(ha:PE X a ta)(hb:PE X b tb):PE X (.BinOp a op b pos) (bQ r ta tb):=by
 intro pins s Y H Q I h;exact wpAny_BinOp (binT ha hb I h fun v u s2 x y H2 I2 rx ry q=>ho pins s2 Y H2 x y v u Q I2 rx ry q)
theorem pe_un{op:UnaryOp}{r:V->Hp->VK->Prop}(ho:pY X (unaryOp op) r)(ha:PE X a ta):PE X (.UnaryOp op a pos) (tZ r ta):=by
 intro pins s Y H Q I h;exact UnaryOp_ (A9 (ha pins s Y H _ I h) fun v s1 ⟨x,H1,I1,r1,q1⟩=>ho pins s1 Y H1 x v Q I1 r1 q1)
theorem uA{f:Value->Value->Sem Value}{C:Int->Int->Prop}{g:Int->Int->Int}(rule:∀ (i j:Int) (t u:Tok) (s:Shared) (Q:Value->Shared->Prop) (E:Value->Shared->Prop),C i j->Q (.int (g i j) s.toks) { s with toks:=s.toks+1 }->wpAny (model X.prog X.w) X.A (f (.int i t) (.int j u)) Q E s) :
  G6 X f (rI C fun i j=>.int (g i j)):=by
 intro pins s Y H x y v u Q I rx ry h;obtain ⟨i,j,rfl,rfl,hc,q⟩:=h;obtain ⟨t,rfl⟩:=rx;obtain ⟨t',rfl⟩:=ry;exact rule i j t t' s _ _ hc ⟨.int (g i j),H,I.tok _,⟨_,rfl⟩,q⟩
theorem opI0{f:Value->Value->Sem Value}{g:Int->Int->Int}(rule:∀ (i j:Int) (t u:Tok) (s:Shared) (Q:Value->Shared->Prop) (E:Value->Shared->Prop),Q (.int (g i j) s.toks) { s with toks:=s.toks+1 }->wpAny (model X.prog X.w) X.A (f (.int i t) (.int j u)) Q E s) :
  G6 X f (aA fun i j=>.int (g i j)):=by
 intro pins s Y H x y v u Q I rx ry h;obtain ⟨i,j,rfl,rfl,q⟩:=h;obtain ⟨t,rfl⟩:=rx;obtain ⟨t',rfl⟩:=ry;exact rule i j t t' s _ _ ⟨.int (g i j),H,I.tok _,⟨_,rfl⟩,q⟩
theorem opB0{f:Value->Value->Sem Value}{g:Int->Int->Bool}(rule:∀ (i j:Int) (t u:Tok) (s:Shared) (Q:Value->Shared->Prop) (E:Value->Shared->Prop),Q (.bool (g i j)) s->wpAny (model X.prog X.w) X.A (f (.int i t) (.int j u)) Q E s) :
  G6 X f (aA fun i j=>.bl (g i j)):=by
 intro pins s Y H x y v u Q I rx ry h;obtain ⟨i,j,rfl,rfl,q⟩:=h;obtain ⟨t,rfl⟩:=rx;obtain ⟨t',rfl⟩:=ry;exact rule i j t t' s _ _ ⟨.bl (g i j),H,I,rfl,q⟩
noncomputable def CDiv (i j:Int):Prop:=0<j/\j<1073741824
noncomputable def CMul (i j:Int):Prop:=(-(2 ^ 64)<i/\i<2 ^ 64)\/(-(2 ^ 64)<j/\j<2 ^ 64)
theorem CMul.ok{i j:Int}(h:CMul i j):IntMulOk i j:=by
 rcases h with ⟨h1,h2⟩ | ⟨h1,h2⟩
 .exact .of_left (intBits_le_64 h1 h2)
 .exact .of_right (intBits_le_64 h1 h2)
theorem ao7:G6 X (binaryOp .Add) (aA fun i j=>.int (i+j)):=opI0 fun _ _ _ _ _ _ _ q=>add_int q
theorem ao8:G6 X (binaryOp .Sub) (aA fun i j=>.int (i-j)):=opI0 fun _ _ _ _ _ _ _ q=>sub_int q
theorem ao9:G6 X (binaryOp .Mult) (rI CMul fun i j=>.int (i*j)):=uA fun _ _ _ _ _ _ _ hc q=>mul_int q hc.ok
theorem ank:G6 X (binaryOp .FloorDiv) (rI CDiv fun i j=>.int (i / j)):=uA fun i j _ _ _ _ _ hc q=>by
 have h1:(0:Int)<j:=hc.1;have h2:j<1073741824:=hc.2;exact floordiv_int (by lia) (by rw [Int.fdiv_eq_ediv_of_nonneg i (by lia)];exact q) (.inl (PyProof.noPylong_small (by lia)))
theorem aqa:G6 X (binaryOp .Mod) (rI (fun _ j=>0<j) fun i j=>.int (i % j)):=uA fun i j _ _ _ _ _ hc q=>by
 have h1:(0:Int)<j:=hc;exact mod_int' (by lia) (by rw [Int.fmod_eq_emod_of_nonneg i (by lia)];exact q)
theorem unI{f:Value->Sem Value}{g:Int->Int}(rule:∀ (i:Int) (t:Tok) (s:Shared) (Q:Value->Shared->Prop) (E:Value->Shared->Prop),Q (.int (g i) s.toks) { s with toks:=s.toks+1 }->wpAny (model X.prog X.w) X.A (f (.int i t)) Q E s) :
  pY X f (rU fun i=>.int (g i)):=by
 intro pins s Y H x v Q I rx h;obtain ⟨i,rfl,q⟩:=h;obtain ⟨t,rfl⟩:=rx;exact rule i t s _ _ ⟨.int (g i),H,I.tok _,⟨_,rfl⟩,q⟩
theorem aqb:pY X (unaryOp .USub) (rU fun i=>.int (-i)):=unI fun _ _ _ _ _ q=>neg_int q
end
noncomputable def scal:V->V->Bool
 | .non,.non=>true | .non,.int _=>true | .int _,.non=>true | .non,.bl _=>true | .bl _,.non=>true | .non,.str _=>true | .str _,.non=>true
 | .int _,.int _=>true | .bl _,.bl _=>true | .str _,.str _=>true | .byt _,.byt _=>true
 | .int _,.str _=>true | .str _,.int _=>true | .bl _,.str _=>true | .str _,.bl _=>true
 | _,_=>false
noncomputable def rEq:R2:=fun x y H Q=>scal x y=true/\Q (.bl (decide (x=y))) H
noncomputable def rNe:R2:=fun x y H Q=>scal x y=true/\Q (.bl (!decide (x=y))) H
theorem ajj{i j:Int} : decide (V.int i=V.int j)=(i==j):=by
 rw [jL]
 simp
theorem amB{i j:Bool} : decide (V.bl i=V.bl j)=(i==j):=by
 rw [jL]
 simp
theorem ajk{i j:Str} : decide (V.str i=V.str j)=(i==j):=by
 rw [jL]
 simp
theorem ajl{i j:Array UInt8} : decide (V.byt i=V.byt j)=(i.toList==j.toList):=by
 rw [jL]
 cases i
 cases j
 simp
section
variable {X:Cx} {a b c:Expr} {ta tb tc:TE} {pos:Pos}
theorem L7{pins:List (Addr×Obj)}{Y:St}{H:Hp}{s:Shared}{Q:VK}{k k':Bool}(I:Inv X pins Y H s)(q:Q (.bl k) H)(e:k=k'):EP X pins Y Q (.bool k') s:=by
 subst e;exact ⟨.bl k,H,I,rfl,q⟩
theorem op_eq:G6 X (compareOp .Eq) rEq:=by
 intro pins s Y H x y v u Q I rx ry h;obtain ⟨hs,q⟩:=h
 cases x with
 | non=>
  cases rx
  cases y with
  | non=>cases ry;exact PySem.EqNone.eq_none_none (L7 I q (by simp))
  | bl j=>cases ry;exact PySem.EqNone.eq_none_bool (L7 I q (by simp))
  | int j=>obtain ⟨t',rfl⟩:=ry;exact PySem.EqNone.eq_none_int (L7 I q (by simp))
  | str j=>obtain ⟨t',rfl⟩:=ry;exact PySem.EqNone.eq_none_str (L7 I q (by simp))
  | _=>exact absurd (show false=true from hs) L5
 | bl i=>
  cases rx
  cases y with
  | non=>cases ry;exact PySem.EqNone.eq_bool_none (L7 I q (by simp))
  | bl j=>cases ry;exact eq_bool (L7 I q amB)
  | str j=>obtain ⟨t',rfl⟩:=ry;exact PySem.EqMixed.eq_bool_str (L7 I q (by simp))
  | _=>exact absurd (show false=true from hs) L5
 | int i=>
  obtain ⟨t,rfl⟩:=rx
  cases y with
  | non=>cases ry;exact PySem.EqNone.eq_int_none (L7 I q (by simp))
  | int j=>obtain ⟨t',rfl⟩:=ry;exact eq_int (L7 I q ajj)
  | str j=>obtain ⟨t',rfl⟩:=ry;exact PySem.EqMixed.eq_int_str (L7 I q (by simp))
  | _=>exact absurd (show false=true from hs) L5
 | str i=>
  obtain ⟨t,rfl⟩:=rx
  cases y with
  | non=>cases ry;exact PySem.EqNone.eq_str_none (L7 I q (by simp))
  | bl j=>cases ry;exact PySem.EqMixed.eq_str_bool (L7 I q (by simp))
  | int j=>obtain ⟨t',rfl⟩:=ry;exact PySem.EqMixed.eq_str_int (L7 I q (by simp))
  | str j=>obtain ⟨t',rfl⟩:=ry;exact eq_str (L7 I q ajk)
  | _=>exact absurd (show false=true from hs) L5
 | byt i=>
  obtain ⟨t,rfl⟩:=rx
  cases y with
  | byt j=>obtain ⟨t',rfl⟩:=ry;exact PySem.W.eq_bytes (L7 I q ajl)
  | _=>exact absurd (show false=true from hs) L5
 | _=>cases y <;> exact absurd (show false=true from hs) L5
theorem op_ne:G6 X (compareOp .NotEq) rNe:=by
 intro pins s Y H x y v u Q I rx ry h;obtain ⟨hs,q⟩:=h
 cases x with
 | non=>
  cases rx
  cases y with
  | non=>cases ry;exact PySem.EqNone.ne_none_none (L7 I q (by simp))
  | bl j=>cases ry;exact PySem.EqNone.ne_none_bool (L7 I q (by simp))
  | int j=>obtain ⟨t',rfl⟩:=ry;exact PySem.EqNone.ne_none_int (L7 I q (by simp))
  | str j=>obtain ⟨t',rfl⟩:=ry;exact PySem.EqNone.ne_none_str (L7 I q (by simp))
  | _=>exact absurd (show false=true from hs) L5
 | bl i=>
  cases rx
  cases y with
  | non=>cases ry;exact PySem.EqNone.ne_bool_none (L7 I q (by simp))
  | bl j=>cases ry;exact ne_bool (L7 I q (congrArg not amB))
  | str j=>obtain ⟨t',rfl⟩:=ry;exact PySem.EqMixed.ne_bool_str (L7 I q (by simp))
  | _=>exact absurd (show false=true from hs) L5
 | int i=>
  obtain ⟨t,rfl⟩:=rx
  cases y with
  | non=>cases ry;exact PySem.EqNone.ne_int_none (L7 I q (by simp))
  | int j=>obtain ⟨t',rfl⟩:=ry;exact ne_int (L7 I q (congrArg not ajj))
  | str j=>obtain ⟨t',rfl⟩:=ry;exact PySem.EqMixed.ne_int_str (L7 I q (by simp))
  | _=>exact absurd (show false=true from hs) L5
 | str i=>
  obtain ⟨t,rfl⟩:=rx
  cases y with
  | non=>cases ry;exact PySem.EqNone.ne_str_none (L7 I q (by simp))
  | bl j=>cases ry;exact PySem.EqMixed.ne_str_bool (L7 I q (by simp))
  | int j=>obtain ⟨t',rfl⟩:=ry;exact PySem.EqMixed.ne_str_int (L7 I q (by simp))
  | str j=>obtain ⟨t',rfl⟩:=ry;exact ne_str (L7 I q (congrArg not ajk))
  | _=>exact absurd (show false=true from hs) L5
 | byt i=>
  obtain ⟨t,rfl⟩:=rx
  cases y with
  | byt j=>obtain ⟨t',rfl⟩:=ry;exact PySem.W.ne_bytes (L7 I q (congrArg not ajl))
  | _=>exact absurd (show false=true from hs) L5
 | _=>cases y <;> exact absurd (show false=true from hs) L5
theorem op_lt:G6 X (compareOp .Lt) (aA fun i j=>.bl (decide (i<j))):=opB0 fun _ _ _ _ _ _ _ q=>lt_int q
theorem op_le:G6 X (compareOp .LtE) (aA fun i j=>.bl (decide (i<=j))):=opB0 fun _ _ _ _ _ _ _ q=>le_int q
theorem op_gt:G6 X (compareOp .Gt) (aA fun i j=>.bl (decide (j<i))):=opB0 fun _ _ _ _ _ _ _ q=>gt_int q
theorem afU:G6 X (compareOp .Lt) (fun x y H Q=>∃ i j,x=.str i/\y=.str j/\Q (.bl (decide (i.cps.toList<j.cps.toList))) H):=by
 intro pins s Y H x y v u Q I rx ry h;obtain ⟨i,j,rfl,rfl,q⟩:=h;obtain ⟨t,rfl⟩:=rx;obtain ⟨t',rfl⟩:=ry;exact lt_str (L7 I q rfl)
theorem ajm:G6 X (compareOp .In) (fun x y H Q=>∃ i j,x=.str i/\y=.str j/\Q (.bl (!(Builtin.Str.occurrences j i 0 j.length 1).isEmpty)) H):=by
 intro pins s Y H x y v u Q I rx ry h;obtain ⟨i,j,rfl,rfl,q⟩:=h;obtain ⟨t,rfl⟩:=rx;obtain ⟨t',rfl⟩:=ry;exact in_str (L7 I q rfl)
theorem aqc:G6 X (compareOp .Is) (fun x y H Q=>y=.non/\Q (.bl (decide (x=.non))) H):=by
 intro pins s Y H x y v u Q I rx ry h;obtain ⟨rfl,q⟩:=h
 cases ry
 refine is_none_gen (L7 I q ?_)
 cases x <;> first
  | (cases rx;rfl)
  | (obtain ⟨t,rfl⟩:=rx;rfl)
theorem anl:G6 X (compareOp .IsNot) (fun x y H Q=>y=.non/\Q (.bl (!decide (x=.non))) H):=by
 intro pins s Y H x y v u Q I rx ry h;obtain ⟨rfl,q⟩:=h
 cases ry
 refine isnot_none_gen (L7 I q ?_)
 cases x <;> first
  | (cases rx;rfl)
  | (obtain ⟨t,rfl⟩:=rx;rfl)
theorem amC(b:Expr){op:CmpOp}(h:op≠.In:=by decide)(h2:op≠.NotIn:=by decide):behindInMarks op b=false:=by
 have e1:(op==CmpOp.In)=false:=by cases op <;> first | rfl | exact absurd rfl h
 have e2:(op==CmpOp.NotIn)=false:=by cases op <;> first | rfl | exact absurd rfl h2
 cases b <;> simp [behindInMarks,e1,e2]
theorem anm{op:CmpOp}{r:R2}(ho:G6 X (compareOp op) r)(ha:PE X a ta)(hb:PE X b tb)(hm:behindInMarks op b=false):PE X (.Compare a [op] [b] pos) (bQ r ta tb):=by
 intro pins s Y H Q I h;exact wpAny_Compare1 (binT ha hb I h fun v u s2 x y H2 I2 rx ry q=>ho pins s2 Y H2 x y v u Q I2 rx ry q) hm
noncomputable def tTest (t:TE):TT:=fun Y H Q=>t Y H fun x H'=>∃ k,x=.bl k/\Q k H'
theorem ann{op:CmpOp}{r:R2}(ho:G6 X (compareOp op) r)(ha:PE X a ta)(hb:PE X b tb)(hm:behindInMarks op b=false):PT X (.Compare a [op] [b] pos) (tTest (bQ r ta tb)):=by
 intro pins s Y H Q I h;refine wpAny_isTrue_Compare1 (A9 (ha pins s Y H _ I h) fun v s1 ⟨x,H1,I1,r1,q1⟩=>A9 (hb pins s1 Y H1 _ I1 q1) fun u s2 ⟨y,H2,I2,r2,q2⟩=>
  A9 (ho pins s2 Y H2 x y v u _ I2 r1 r2 q2) fun c s3 ⟨z,H3,I3,r3,k,e,q3⟩=>?_) hm
 subst e
 cases r3
 exact wpAny_truthy_bool ⟨H3,I3,q3⟩
noncomputable def uB (r r':R2) (ta tb tc:TE):TE:=fun Y H Q=>ta Y H fun x H1=>tb Y H1 fun y H2=>r x y H2 fun z H3=>∃ k,z=.bl k/\
 (if k=true then tc Y H3 fun w' H4=>r' y w' H4 Q else Q (.bl false) H3)
theorem ala{op op':CmpOp}{r r':R2}(ho:G6 X (compareOp op) r)(j7:G6 X (compareOp op') r')(ha:PE X a ta)(hb:PE X b tb)(hc:PE X c tc)(hm:lastMarks [op,op'] [b,c]=false:=by with_unfolding_all rfl):PE X (.Compare a [op,op'] [b,c] pos) (uB r r' ta tb tc):=by
 intro pins s Y H Q I h;refine Compare_chain (A9 (ha pins s Y H _ I h) fun v s1 ⟨x,H1,I1,r1,q1⟩=>chain_link (A9 (hb pins s1 Y H1 _ I1 q1) fun u s2 ⟨y,H2,I2,r2,q2⟩=>
  A9 (ho pins s2 Y H2 x y v u _ I2 r1 r2 q2) fun d s3 ⟨z,H3,I3,r3,k,e,q3⟩=>?_)) hm
 subst e
 cases r3
 refine wpAny_truthy_bool ?_
 cases k with
 | false=>exact ite_ff ⟨.bl false,H3,I3,rfl,q3⟩
 | true=>exact ite_tt (chain_last (A9 (hc pins s3 Y H3 _ I3 q3) fun w' s4 ⟨z',H4,I4,r4,q4⟩=>j7 pins s4 Y H4 y z' u w' Q I4 r2 r4 q4))
noncomputable def TruV (K:PySem.W.Frag) (x:V) (H:Hp) (k:Bool):Prop:=
 match x with
 | .non=>k=false
 | .bl b=>k=b
 | .int i=>k=(i != 0)
 | .str y=>y.length<=sizeLine/\k=((y.length:Int) != 0)
 | .byt y=>y.size<=sizeLine/\k=((y.size:Int) != 0)
 | .ref p=>(∃ xs,D0 K H p xs/\k=!xs.isEmpty)\/(∃ xs,B1 K H p xs/\k=!xs.isEmpty)\/∃ kvs,H p=some (.dK kvs)/\k=!kvs.isEmpty
 | _=>False
theorem ais{κ:Type}{kvs:List (κ×V)}{vs:List (κ×Value)}(r:KV kvs vs):(!vs.isEmpty)=!kvs.isEmpty:=by
 cases r <;> rfl
theorem aeY{xs:List V}{its:List Value}(r:Vals xs its):(!its.toArray.isEmpty)=!xs.isEmpty:=by
 cases r <;> simp
theorem jR:(sizeLine:Nat)<2 ^ 63:=by rw [sizeLine_eq];decide
theorem aqd:TruR X (fun x H Q=>∃ k,TruV X.K x H k/\Q k H):=by
 intro pins s Y H x v Q I rx h;obtain ⟨k,e,q⟩:=h;have hl:=jR;have hs:sizeLine=16777216:=sizeLine_eq
 cases x with
 | non=>
  cases rx
  have e':k=false:=e;subst e';exact truthy_none ⟨H,I,q⟩
 | bl b=>
  cases rx
  have e':k=b:=e;subst e';exact wpAny_truthy_bool ⟨H,I,q⟩
 | int i=>
  obtain ⟨t,rfl⟩:=rx;have e':k=(i != 0):=e;subst e';exact PySem.P.truthy_int ⟨H,I,q⟩
 | str y=>
  obtain ⟨t,rfl⟩:=rx;obtain ⟨hy,e'⟩:y.length<=sizeLine/\k=((y.length:Int) != 0):=e;subst e';exact PySem.P.truthy_str (by lia) ⟨H,I.tok _,q⟩
 | byt y=>
  obtain ⟨t,rfl⟩:=rx;obtain ⟨hy,e'⟩:y.size<=sizeLine/\k=((y.size:Int) != 0):=e;subst e';exact PySem.W.truthy_bytes (by lia) ⟨H,I.tok _,q⟩
 | ref p=>
  cases rx
  have e':(∃ xs,D0 X.K H p xs/\k=!xs.isEmpty)\/(∃ xs,B1 X.K H p xs/\k=!xs.isEmpty)\/∃ kvs,H p=some (.dK kvs)/\k=!kvs.isEmpty:=e
  rcases e' with ⟨xs,hx,e'⟩ | ⟨xs,hx,e'⟩ | ⟨kvs,hx,e'⟩
  .subst e';obtain ⟨its,r,pl,hz⟩:=I.list hx;have A8:=r.length;exact wpAny_truthy_list pl.isList (by simp only [J8];lia) ⟨H,I.tok _,by rw [aeY r];exact q⟩
  .subst e';obtain ⟨its,r,pl,hz⟩:=I.tuple hx;have A8:=r.length;exact truthy_tuple pl (by simp only [J8];lia) ⟨H,I.tok _,by rw [aeY r];exact q⟩
  .subst e';obtain ⟨hz,hS,vs,r,m⟩:kvs.length<=sizeLine/\(p==sysModules)=false/\∃ vs,KV kvs vs/\s.heap.DictOf (M6 X.prog X.w) p vs:=I.hok p _ hx;have A8:kvs.length=vs.length:=Paired.length r;exact wpAny_truthy_dict hS m (by lia) ⟨H,I.tok _,by rw [ais r];exact q⟩
 | _=>exact (show False from e).elim
theorem alb(ha:PE X a ta)(he:∀ whole,isTrue a X.env whole=(do let v <- whole;standAt a.pos;holding [v] (truthy v))) :
  PT X a (fun Y H Q=>ta Y H fun x H'=>∃ k,TruV X.K x H' k/\Q k H'):=by
 intro pins s Y H Q I h;exact isTrue_plain (A9 (ha pins s Y H _ I h) fun v s1 ⟨x,H1,I1,r1,q1⟩=>aqd pins s1 Y H1 x v Q I1 r1 q1) (he _)
theorem ait:G6 X (binaryOp .Add) (fun x y H Q=>∃ i j,x=.str i/\y=.str j/\i.length+j.length<=sizeLine/\Q (.str (i++j)) H):=by
 intro pins s Y H x y v u Q I rx ry h;obtain ⟨i,j,rfl,rfl,hz,q⟩:=h;obtain ⟨t,rfl⟩:=rx;obtain ⟨t',rfl⟩:=ry;exact add_str (fun t' tk=>⟨.str (i++j),H,I.tok _,⟨_,rfl⟩,q⟩) hz
theorem vals1{x:V}{us:List Value}(r:Vals [x] us):∃ u,us=[u]/\RelV x u:=by
 cases r with
 | cons r1 r2=>cases r2;exact ⟨_,rfl,r1⟩
theorem vals2{x y:V}{us:List Value}(r:Vals [x,y] us):∃ u w',us=[u,w']/\RelV x u/\RelV y w':=by
 cases r with
 | cons r1 r2=>
  cases r2 with
  | cons r3 r4=>cases r4;exact ⟨_,_,rfl,r1,r3⟩
theorem ajo:CallR X (.type "int") (fun xs H Q=>(∃ i,xs=[.int i]/\Q (.int i) H)\/∃ k,xs=[.bl k]/\Q (.int (if k then 1 else 0)) H):=by
 intro pins s Y H xs us Q I r h
 rcases h with ⟨i,rfl,q⟩ | ⟨k,rfl,q⟩
 .obtain ⟨u,rfl,t,rfl⟩:=vals1 r;exact call_int_int ⟨.int i,H,I,⟨_,rfl⟩,q⟩
 .obtain ⟨u,rfl,r1⟩:=vals1 r
  cases r1
  exact call_int_bool ⟨.int (if k then 1 else 0),H,I.tok _,⟨_,rfl⟩,q⟩
noncomputable def LenV (K:PySem.W.Frag) (x:V) (H:Hp) (n:Nat):Prop:=
 match x with
 | .str y=>y.length<=sizeLine/\n=y.length
 | .byt y=>y.size<=sizeLine/\n=y.size
 | .ref p=>(∃ xs,D0 K H p xs/\n=xs.length)\/∃ xs,B1 K H p xs/\n=xs.length
 | _=>False
theorem uC:CallR X (.builtin "len") (fun xs H Q=>∃ x n,xs=[x]/\LenV X.K x H n/\Q (.int n) H):=by
 intro pins s Y H xs us Q I r h;obtain ⟨x,n,rfl,e,q⟩:=h;obtain ⟨u,rfl,rx⟩:=vals1 r;have hl:=jR;have hs:sizeLine=16777216:=sizeLine_eq
 cases x with
 | str y=>
  obtain ⟨t,rfl⟩:=rx;obtain ⟨hy,e'⟩:y.length<=sizeLine/\n=y.length:=e;subst e';exact len_str (by lia) ⟨.int _,H,I.tok _,⟨_,rfl⟩,q⟩
 | byt y=>
  obtain ⟨t,rfl⟩:=rx;obtain ⟨hy,e'⟩:y.size<=sizeLine/\n=y.size:=e;subst e';exact PySem.W.len_bytes (by lia) ⟨.int _,H,I.tok _,⟨_,rfl⟩,q⟩
 | ref p=>
  cases rx
  have e':(∃ xs,D0 X.K H p xs/\n=xs.length)\/∃ xs,B1 X.K H p xs/\n=xs.length:=e
  rcases e' with ⟨xs,hx,e'⟩ | ⟨xs,hx,e'⟩
  .subst e';obtain ⟨its,r',pl,hz⟩:=I.list hx;have A8:=r'.length;exact Calls.call_len_list pl.isList (by simp only [J8];lia) ⟨.int xs.length,H,I.tok _,⟨_,by simp only [J8];rw [A8]⟩,q⟩
  .subst e';obtain ⟨its,r',pl,hz⟩:=I.tuple hx;have A8:=r'.length;exact len_tuple pl (by simp only [J8];lia) ⟨.int xs.length,H,I.tok _,⟨_,by simp only [J8];rw [A8]⟩,q⟩
 | _=>exact (show False from e).elim
end
end L2
namespace L2
open PySem PySem.Spec PyProof.Rows
structure ObjM(h:Heap)(x dx C:Addr)(mA:Str->Option Value):Prop where
 obj:h.get? x=some (dO C dx)
 ns:h.Ns1 dx mA
 ne:dx≠x
theorem ajp{h:Heap}{dx:Addr}{mA:Str->Option Value}(n:h.Ns1 dx mA):∃ od,h.get? dx=some od/\∀ name,PySem.W.lookIn name od=some (mA name):=by
 obtain ⟨o,es,ep,ho,hd,hk,_,hm⟩:=n;refine ⟨o,ho,fun name=>?_⟩;have e:=hm name;unfold nsFind findBy at e;rw [<- Array.find?_toList] at e;unfold PySem.W.lookIn;rw [hd]
 dsimp only
 split
 .rename_i y q
  rw [q] at e;exact congrArg some e
 .rename_i q
  rw [q] at e;have a:es.toList.any (·.refKey)=false:=by
   rw [List.any_eq_false];intro y hy;obtain ⟨z,t,j8⟩:=hk y (Array.mem_toList_iff.mp hy);simp [DictEntry.refKey,j8]
  have a':¬ es.toList.any (·.refKey)=true:=by rw [a];exact L5
  rw [if_neg a'];exact congrArg some e
theorem ObjM.look{h:Heap}{x dx C:Addr}{mA:Str->Option Value}(I:ObjM h x dx C mA):∃ od,PySem.W.InstAt h x (dO C dx) C (some od)/\∀ name,PySem.W.lookIn name od=some (mA name):=
 let ⟨od,ho,hl⟩:=ajp I.ns
 ⟨od,⟨I.obj,rfl,rfl,ho⟩,hl⟩
section
variable {prog:Program} {w:World} {A:Around} {E:Value->Shared->Prop} {s:Shared} {K:PySem.W.Frag} {x dx C f:Addr} {mA:Str->Option Value} {name:Str} {v:Value}
theorem ano{expr:Bool}{Q:Value->Shared->Prop}(X:K.In s.heap)(I:ObjM s.heap x dx C mA)(hg:mH K C name=true)(hh:PySem.W.hasDictIn K C=true)(ha:R0 K (.ref C) name=some none)(hv:mA name=some v)(sO:PySem.W.handedIn v=true)(h:Q v { s with toks:=s.toks+1 }) :
  wpAny (model prog w) A (getAttr (.ref x) name expr) Q E s:=by
 obtain ⟨od,J,hl⟩:=I.look;exact PySem.W.get_value X J (PySem.W.plainGet_of hg).1 (PySem.W.findObj_own hh ha rfl (by rw [hl,hv])) sO h
theorem alc{pl:Sem Bool}{Q:Value×List Value->Shared->Prop}(X:K.In s.heap)(I:ObjM s.heap x dx C mA)(hg:mH K C name=true)(hf:R0 K (.ref C) name=some (some (.ref f)))(ht:fW K (.ref f)=true)(hv:mA name=none)(h:Q (.ref f,[.ref x]) s) :
  wpAny (model prog w) A (getMethod (.ref x) name pl) Q E s:=by
 obtain ⟨od,J,hl⟩:=I.look;exact PySem.W.method_fn X J (PySem.W.plainGet_of hg).1 (PySem.W.plainGet_of hg).2 hf (beq_iff_eq.mp ht) (by show (PySem.W.lookIn name od).map (·.isSome)=some false;rw [hl,hv];rfl) h
theorem anp{ns:List Str}{Q:Unit->Shared->Prop}(X:K.In s.heap)(I:ObjM s.heap x dx C mA)(hs:R0 K (.ref C) "__setattr__"=some (some (.builtin "object.__setattr__")))(hp:PySem.W.plainOver K C=true)(ht:PySem.W.takerIn K C name=some none)(hh:PySem.W.hasDictIn K C=true)(hw:PySem.Within mA ns)(hsz:ns.length<=sizeLine)(h:∀ h',ObjM h' x dx C (fun y=>if y=name then some v else mA y)->Heap.SameBut dx s.heap h'->Q () { s with heap:=h',toks:=s.toks+2 }) :
  wpAny (model prog w) A (setAttr (.ref x) name v) Q E s:=by
 obtain ⟨od,J,hl⟩:=I.look;refine PySem.W.set_plain X J hs (PySem.W.osa_open (s:={ s with toks:=s.toks+1 }) (r:=none) X J hp ht fun b=>?_);obtain ⟨cd,hc,hX⟩:=PySem.W.any_some hh;have hx:s.heap.get? x=some ⟨.ref C,some dx,.plain,#[]⟩:=I.obj;refine wpAny_bind (wpAny_pure (wpAny_bind (wpAny_bind (wpAny_loadPart hx (wpAny_bind (PySem.W.Looks.here (s:={ s with toks:=s.toks+1 }) (PySem.W.looks_clsIn X hc) ?_))))));rw [hX];refine wpAny_pure (a:=some dx) (wpAny_bind (wpAny_pure (wpAny_bind ?_)));refine wpAny_nsSet1 (s:={ s with toks:=s.toks+1 }) I.ns fun h' sP cJ=>?_
 obtain ⟨oD,esD,epD,hoD,hdD,hcD⟩:=sP.count (PySem.Within.cons name v hw);refine wpAny_bind (wpAny_lookBehind hoD (by rw [hdD];exact pastItsLine_dict (N4 hcD (by rw [J9];lia))) ?_);exact wpAny_pure (h _ ⟨(cJ.2 _ (Ne.symm I.ne)).trans I.obj,sP,I.ne⟩ cJ)
theorem ald{R:Result->Shared->Prop}{vs:List Value}{kw:List (Str×Value)}(X:K.In s.heap)(hm:PySem.W.makesIn K C=true)(hi:R0 K (.ref C) "__init__"=some (some (.ref f)))(hf:PySem.W.typeIn K (.ref f)=some (.type "function"))(h:codeAny (model prog w) (A.under (.builtin "type.__call__" ⟨.ref C::vs,kw⟩)) (.call (.ref f) ⟨.ref (s.heap.objs.size+1)::vs,kw⟩) (PySem.W.InitBack (s.heap.objs.size+1) R)
   { s with heap:=(s.heap.push bL).push (dO C s.heap.objs.size) }) :
  codeAny (model prog w) A (.call (.ref C) ⟨vs,kw⟩) R s:=by
 obtain ⟨hh,g,d,t,os⟩:=s;exact PySem.W.make_core (PySem.W.makes_of X hm) (PySem.W.looks_findIn X hi) (fun self=>PySem.W.bind_fn X self hf) (.inl rfl) h
end
noncomputable def putF (f:Str) (v:V):List (Str×V)->List (Str×V)
 | []=>[(f,v)]
 | (g,x)::r=>if g=f then (g,v)::r else (g,x)::putF f v r
theorem O3(f g:Str)(v:V):∀ fs:List (Str×V),(putF f v fs).lookup g=if g=f then some v else fs.lookup g
 | []=>by
  show dL g [(f,v)]=_
  by_cases h:g=f
  .have hb:(g==f)=true:=beq_iff_eq.mpr h;simp only [dL,hb,if_pos h]
  .have hb:(g==f)=false:=beq_eq_false_iff_ne.mpr h;simp only [dL,hb,if_neg h]
 | (k,x)::r=>by
  have ih:=O3 f g v r;rw [show putF f v ((k,x)::r)=(if k=f then (k,v)::r else (k,x)::putF f v r) from rfl]
  by_cases hk:k=f
  .rw [if_pos hk]
   by_cases h:g=k
   .have hb:(g==k)=true:=beq_iff_eq.mpr h;simp only [dL,hb,if_pos (h.trans hk)]
   .have hb:(g==k)=false:=beq_eq_false_iff_ne.mpr h;simp only [dL,hb,if_neg (fun e:g=f=>h (e.trans hk.symm))]
  .rw [if_neg hk]
   by_cases h:g=k
   .have hb:(g==k)=true:=beq_iff_eq.mpr h;simp only [dL,hb,if_neg (fun e:g=f=>hk (h.symm.trans e))]
   .have hb:(g==k)=false:=beq_eq_false_iff_ne.mpr h;simp only [dL,hb];exact ih
theorem uD(f:Str)(v:V):∀ fs:List (Str×V),f∈(putF f v fs).map (·.1)/\∀ g,g∈fs.map (·.1)->g∈(putF f v fs).map (·.1)
 | []=>⟨by simp [putF],fun g h=>by simp at h⟩
 | (k,x)::r=>by
  obtain ⟨i1,i2⟩:=uD f v r;rw [show putF f v ((k,x)::r)=(if k=f then (k,v)::r else (k,x)::putF f v r) from rfl]
  by_cases hk:k=f
  .rw [if_pos hk];subst hk;exact ⟨by simp,fun g h=>by simpa using h⟩
  .rw [if_neg hk];refine ⟨?_,fun g h=>?_⟩
   .rw [E6];exact N9 _ i1
   .rw [E6] at h ⊢
    rcases K0.mp h with e | e
    .exact K0.mpr (.inl e)
    .exact N9 _ (i2 g e)
theorem uE(f:Str)(v:V):∀ fs:List (Str×V),(putF f v fs).length<=fs.length+1
 | []=>by simp [putF]
 | (k,x)::r=>by
  have ih:=uE f v r;rw [show putF f v ((k,x)::r)=(if k=f then (k,v)::r else (k,x)::putF f v r) from rfl]
  by_cases hk:k=f
  .rw [if_pos hk,J9,J9];lia
  .rw [if_neg hk,J9,J9];lia
theorem mN{v:V}{o:Option Value}(r:RelO (some v) o):∃ u,o=some u/\RelV v u:=by
 cases o with
 | none=>exact (show False from r).elim
 | some u=>exact ⟨u,rfl,r⟩
theorem RelO.none_of{o:Option Value}(r:RelO none o):o=none:=by
 cases o with
 | none=>rfl
 | some u=>exact (show False from r).elim
theorem ajq{v:V}{u:Value}(r:RelV v u):PySem.W.handedIn u=true:=by
 cases v with
 | non=>cases (show u=Value.none from r);rfl
 | bl b=>cases (show u=Value.bool b from r);rfl
 | int i=>obtain ⟨t,e⟩:=(show ∃ t,u=Value.int i t from r);cases e;rfl
 | str x=>obtain ⟨t,e⟩:=(show ∃ t,u=Value.str x t from r);cases e;rfl
 | byt b=>obtain ⟨t,e⟩:=(show ∃ t,u=Value.bytes b t from r);cases e;rfl
 | flt b=>obtain ⟨t,e⟩:=(show ∃ t,u=Value.float b t from r);cases e;rfl
 | ref a=>cases (show u=Value.ref a from r);rfl
 | ty n=>cases (show u=Value.type n from r);rfl
section
variable {P:Program} {w:World} {H H':Hp} {h h':Heap} {a C dx:Addr} {fs fs':List (Str×V)}
theorem pZ(hok:M8 P w H h)(e:H a=some (.ins C dx fs)):∃ mA,ObjM h a dx C mA/\(∀ f,RelO (fs.lookup f) (mA f))/\PySem.Within mA (fs.map (·.1))/\fs.length<=1000/\H dx=some (.own a):=by
 obtain ⟨d,z,ne,ob,mA,n,r,q⟩:=(show ObjOk P w H h a (.ins C dx fs) from hok a _ e)
 exact ⟨mA,⟨ob,n,ne⟩,r,q,z,d⟩
end
structure Cls(K:PySem.W.Frag)(C:Addr):Prop where
 pg:mH K C Str.empty=true
 hd:PySem.W.hasDictIn K C=true
 po:PySem.W.plainOver K C=true
 sa:R0 K (.ref C) "__setattr__"=some (some (.builtin "object.__setattr__"))
theorem Cls.get{K:PySem.W.Frag}{C:Addr}(c:Cls K C)(f:Str):mH K C f=true:=c.pg
noncomputable def NoAttr (K:PySem.W.Frag) (C:Addr) (f:Str):Prop:=R0 K (.ref C) f=some none
theorem NoAttr.taker{K:PySem.W.Frag}{C:Addr}{f:Str}(n:NoAttr K C f):PySem.W.takerIn K C f=some none:=by
 unfold PySem.W.takerIn;rw [show R0 K (.ref C) f=some none from n];rfl
structure Meth(K:PySem.W.Frag)(C:Addr)(m:Str)(f:Addr):Prop where
 at_:R0 K (.ref C) m=some (some (.ref f))
 fn:fW K (.ref f)=true
 kp:V3 K (.ref f)=true
section
variable {X:Cx} {pins:List (Addr×Obj)} {Y:St} {H:Hp} {s:Shared} {a C dx:Addr} {fs:List (Str×V)} {f:Str} {v:V} {A:Around} {E:Value->Shared->Prop}
theorem aiu{b:Bool}{Q:Value->Shared->Prop}(I:Inv X pins Y H s)(e:H a=some (.ins C dx fs))(c:Cls X.K C)(n:NoAttr X.K C f)(l:fs.lookup f=some v)(h:∀ u s',Inv X pins Y H s'->RelV v u->Q u s'):wpAny (model X.prog X.w) A (getAttr (.ref a) f b) Q E s:=by
 obtain ⟨mA,O,r,_,_,_⟩:=pZ I.hok e;obtain ⟨u,hu,ru⟩:=mN (v:=v) (o:=mA f) (by rw [<- l];exact r f);exact ano I.kIn O (c.get f) c.hd n hu (ajq ru) (h u _ (I.tok _) ru)
theorem ae0{m:Str}{g:Addr}{pl:Sem Bool}{Q:Value×List Value->Shared->Prop}(I:Inv X pins Y H s)(e:H a=some (.ins C dx fs))(c:Cls X.K C)(k:Meth X.K C m g)(l:fs.lookup m=none)(h:Q (.ref g,[.ref a]) s):wpAny (model X.prog X.w) A (getMethod (.ref a) m pl) Q E s:=by
 obtain ⟨mA,O,r,_,_,_⟩:=pZ I.hok e;have hn:mA m=none:=RelO.none_of (by rw [<- l];exact r m);exact alc I.kIn O (c.get m) k.at_ k.fn hn h
theorem aiv{y:V}{u:Value}{Q:Unit->Shared->Prop}(I:Inv X pins Y H s)(e:H a=some (.ins C dx fs))(c:Cls X.K C)(n:NoAttr X.K C f)(hl:fs.length<1000)(ry:RelV y u)(h:∀ s',Inv X pins Y (A0 H a (.ins C dx (putF f y fs))) s'->Q () s'):wpAny (model X.prog X.w) A (setAttr (.ref a) f u) Q E s:=by
 obtain ⟨mA,O,r,wi,_,ho⟩:=pZ I.hok e;have hz:(fs.map (·.1)).length<=sizeLine:=by rw [A6,sizeLine_eq];lia
 refine anp I.kIn O c.sa c.po n.taker c.hd wi hz fun h' O' sb=>h _ ?_
 have hd:∃ o,h'.get? dx=some o:=let ⟨o,_,_,e',_⟩:=O'.ns;⟨o,e'⟩
 refine I.write (x:=a) (e:=dx) (by rw [e];exact True.intro) (.inr ho) (fun b q hb z=>(sb.2 b hb).trans z) hd ?_;refine ⟨by rw [A7 O.ne];exact ho,?_,O.ne,O'.obj,_,O'.ns,fun g=>?_,fun g hg=>?_⟩
 .have:=uE f y fs;lia
 .show RelO ((putF f y fs).lookup g) (if g=f then some u else mA g);rw [O3]
  by_cases q:g=f
  .rw [if_pos q,if_pos q];exact ry
  .rw [if_neg q,if_neg q];exact r g
 .by_cases q:g=f
  .rw [q];exact (uD f y fs).1
  .refine (uD f y fs).2 g (wi g fun z=>hg ?_);show (if g=f then some u else mA g)=none;rw [if_neg q];exact z
theorem Inv.made(I:Inv X pins Y H s):Inv X pins Y (A0 (A0 H s.heap.objs.size (.own (s.heap.objs.size+1))) (s.heap.objs.size+1) (.ins C s.heap.objs.size []))
  { s with heap:=(s.heap.push bL).push (dO C s.heap.objs.size) }:=by
 have e1:(s.heap.push bL).get? s.heap.objs.size=some bL:=Heap.get?_push_size s.heap rfl;have e2:((s.heap.push bL).push (dO C s.heap.objs.size)).get? (s.heap.objs.size+1)=some (dO C s.heap.objs.size):=by
  have:=Heap.get?_push_size (s.heap.push bL) (o:=dO C s.heap.objs.size) rfl
  rwa [Heap.size_push] at this
 have e3:(s.heap.push bL).Ns s.heap.objs.size (fun _=>none):=⟨bL,#[],_,e1,rfl,(fun e he=>absurd he (by simp)),fun _=>rfl⟩
 have I1:=I.laid (a:=s.heap.objs.size) (o:=.own (s.heap.objs.size+1)) (h':=s.heap.push bL) (t':=s.toks) (fun b u q=>Heap.get?_push_of_some _ q) (C3 _) ⟨_,e1⟩;refine I1.laid (a:=s.heap.objs.size+1) (o:=.ins C s.heap.objs.size []) (t':=s.toks) (fun b u q=>Heap.get?_push_of_some _ q) (Nat.le_of_eq (Heap.size_push _ _)) ?_;have ne:s.heap.objs.size≠s.heap.objs.size+1:=L8 (Nat.lt_succ_self _);refine ⟨by rw [A7 ne,A3],F7 _,ne,e2,fun _=>none,(Heap.Ns1.of_empty e3).at fun o q=>Heap.get?_push_of_some _ q,fun _=>True.intro,fun y hy=>absurd rfl hy⟩
theorem anq{prog:Program}{w:World}{env:Env}{e:Expr}{f:Str}{pos:Pos}{s:Shared}{Q:Value->Shared->Prop}(hb:attributeBase e f env (eval e env)=eval e env)(h:wpAny (model prog w) A (eval e env) (fun o zu=>wpAny (model prog w) A (getAttr o f true) Q E zu) E s):wpAny (model prog w) A (eval (.Attribute e f pos) env) Q E s:=
 Attribute_any_ h (by rw [arm_eval_Attribute,hb])
end
noncomputable def tFld (K:PySem.W.Frag) (ta:TE) (f:Str):TE:=fun Y H Q=>ta Y H fun x H1=>∃ a C dx fs v,x=.ref a/\H1 a=some (.ins C dx fs)/\Cls K C/\NoAttr K C f/\fs.lookup f=some v/\Q v H1
noncomputable def sFld (K:PySem.W.Frag) (ta tv:TE) (f:Str):TS:=fun D Y H=>tv Y H fun y H1=>ta Y H1 fun x H2=>∃ a C dx fs,x=.ref a/\H2 a=some (.ins C dx fs)/\Cls K C/\NoAttr K C f/\fs.length<1000/\
 D.nx Y (A0 H2 a (.ins C dx (putF f y fs)))
noncomputable def InOp (X:Cx) (op:Operator) (rd:V->V->Hp->VK->Prop):Prop:=
 ∀ (pins:List (Addr×Obj)) (s:Shared) (Y:St) (H:Hp) (x y:V) (u v:Value) (Q:VK),Inv X pins Y H s->RelV x u->RelV y v->rd x y H Q->wpAny (model X.prog X.w) X.A (inplaceOp op u v) (EP X pins Y Q) X.xe s
section
variable {X:Cx} {o e value:Expr} {f:Str} {pos pos' tpos:Pos} {ta tv:TE}
theorem aqe(he:PE X e ta)(hb:attributeBase e f X.env (eval e X.env)=eval e X.env):PE X (.Attribute e f pos) (tFld X.K ta f):=by
 intro pins s Y H Q I h;refine anq hb (A9 (he pins s Y H _ I h) fun u s1 ⟨x,H1,I1,rx,a,C,dx,fs,v,ex,ea,c,n,l,q⟩=>?_);subst ex;obtain rfl:u=Value.ref a:=rx;exact aiu I1 ea c n l fun u' s2 I2 ru=>⟨v,H1,I2,ru,q⟩
theorem aqf(ha:PE X o ta)(hv:PE X value tv)(hs:swapsWith value (some (.Attribute o f pos')) pos.line X.env=pure false):PS X (.Assign [.Attribute o f pos'] value pos) (sFld X.K ta tv f):=by
 intro pins s Y H D I h;refine plainObj_wpAny_Assign_Attribute (A9 (hv pins s Y H _ I h) fun u s1 ⟨y,H1,I1,ry,q⟩=>A9 (ha pins s1 Y H1 _ I1 q) fun ov s2 ⟨x,H2,I2,rx,a,C,dx,fs,ex,ea,c,n,l,q2⟩=>?_) hs;subst ex;obtain rfl:ov=Value.ref a:=rx;exact aiv I2 ea c n l ry fun s3 I3=>⟨Y,_,I3,q2⟩
noncomputable def rAdd:V->V->Hp->VK->Prop:=fun x y H Q=>∃ i j,x=.int i/\y=.int j/\Q (.int (i+j)) H
noncomputable def rSub:V->V->Hp->VK->Prop:=fun x y H Q=>∃ i j,x=.int i/\y=.int j/\Q (.int (i-j)) H
theorem aqg:InOp X .Add rAdd:=by
 rintro pins s Y H x y u v Q I rx ry ⟨i,j,rfl,rfl,q⟩;obtain ⟨t,rfl⟩:=(show ∃ t,u=Value.int i t from rx)
 obtain ⟨t',rfl⟩:=(show ∃ t',v=Value.int j t' from ry)
 exact PyProof.Rows.iadd_int ⟨.int (i+j),H,I.tok _,⟨_,rfl⟩,q⟩
theorem aqh:InOp X .Sub rSub:=by
 rintro pins s Y H x y u v Q I rx ry ⟨i,j,rfl,rfl,q⟩;obtain ⟨t,rfl⟩:=(show ∃ t,u=Value.int i t from rx)
 obtain ⟨t',rfl⟩:=(show ∃ t',v=Value.int j t' from ry)
 exact PyProof.Rows.isub_int ⟨.int (i-j),H,I.tok _,⟨_,rfl⟩,q⟩
end
section
variable {X:Cx} {pins:List (Addr×Obj)} {Y:St} {H:Hp} {s:Shared} {A:Around} {E:Value->Shared->Prop} {Q:Value->Shared->Prop} {c:Value} {b:Bool}
inductive TyOf (K:PySem.W.Frag) (H:Hp):V->Value->Prop where
 | non:TyOf K H .non (.type "NoneType")
 | bl (x:Bool):TyOf K H (.bl x) (.type "bool")
 | int (i:Int):TyOf K H (.int i) (.type "int")
 | str (x:Str):TyOf K H (.str x) (.type "str")
 | flt (x:UInt64):TyOf K H (.flt x) (.type "float")
 | lst {a:Addr} {xs:List V} (e:H a=some (.lst xs)):TyOf K H (.ref a) (.type "list")
 | frz {a:Addr} {o:Obj} {xs:List V} (e:H a=some (.frz o (.lst xs))):TyOf K H (.ref a) (.type "list")
 | tup {a:Addr} {xs:List V} (e:H a=some (.tup xs)):TyOf K H (.ref a) (.type "tuple")
 | dK {a:Addr} {kvs:List (B3×V)} (e:H a=some (.dK kvs)):TyOf K H (.ref a) (.type "dict")
 | dT {a:Addr} {kvs:List (List B3×V)} (e:H a=some (.dT kvs)):TyOf K H (.ref a) (.type "dict")
 | ins {a C dx:Addr} {fs:List (Str×V)} (e:H a=some (.ins C dx fs)) (cl:Cls K C) (ha:R0 K (.ref C) "__class__"=some (some (.builtin "object.__class__")))
   (hn:PySem.W.specialIn K (.builtin "object.__class__") "__get__"=some (some (.builtin "getset_descriptor.__get__"))) (htk:PySem.W.takesIn K (.builtin "object.__class__")=some true)
   (hm:PySem.W.mroIn K C (.type "object")=some true):TyOf K H (.ref a) (.ref C)
theorem ajr{x:V}{u t:Value}(I:Inv X pins Y H s)(rx:RelV x u)(ty:TyOf X.K H x t)(e:PySem.W.kitOne X.K t c=some b)(h:∀ tk,Q (.bool b) { s with toks:=tk }) :
  wpAny (model X.prog X.w) A (call (.builtin "isinstance") [u,c]) Q E s:=by
 cases ty with
 | non=>cases (show u=Value.none from rx);exact q9 PySem.W.kitx_none I.kIn True.intro e (fun z=>nomatch z) h
 | bl y=>cases (show u=Value.bool y from rx);exact q9 PySem.W.kitx_bool I.kIn True.intro e (fun z=>nomatch z) h
 | int i=>obtain ⟨t,q⟩:=(show ∃ t,u=Value.int i t from rx);cases q;exact q9 PySem.W.kitx_int I.kIn True.intro e (fun z=>nomatch z) h
 | str y=>obtain ⟨t,q⟩:=(show ∃ t,u=Value.str y t from rx);cases q;exact q9 PySem.W.kitx_str I.kIn True.intro e (fun z=>nomatch z) h
 | flt y=>obtain ⟨t,q⟩:=(show ∃ t,u=Value.float y t from rx);cases q;exact q9 PySem.W.kitx_float I.kIn True.intro e (fun z=>nomatch z) h
 | @lst a xs ea=>
  cases (show u=Value.ref a from rx)
  obtain ⟨_,_,n,_,h1⟩:=(show ObjOk X.prog X.w H s.heap a (.lst xs) from I.hok a _ ea)
  exact q9 PySem.W.kitx_list I.kIn ⟨_,h1,rfl⟩ e (fun z=>nomatch z) h
 | @frz a ob xs ea=>
  cases (show u=Value.ref a from rx)
  obtain ⟨_,_,_,n,_,h1⟩:=(show ObjOk X.prog X.w H s.heap a (.frz ob (.lst xs)) from I.hok a _ ea)
  exact q9 PySem.W.kitx_list I.kIn ⟨_,h1,rfl⟩ e (fun z=>nomatch z) h
 | @tup a xs ea=>
  cases (show u=Value.ref a from rx)
  obtain ⟨_,_,_,p⟩:=(show ObjOk X.prog X.w H s.heap a (.tup xs) from I.hok a _ ea)
  obtain ⟨o,h1,h2,_⟩:=p;exact q9 PySem.W.kitx_tuple I.kIn ⟨o,h1,h2⟩ e (fun z=>nomatch z) h
 | @dK a kvs ea=>
  cases (show u=Value.ref a from rx)
  obtain ⟨_,_,vs,_,p⟩:=(show ObjOk X.prog X.w H s.heap a (.dK kvs) from I.hok a _ ea)
  obtain ⟨o,es,ep,h1,h2,_⟩:=p;exact q9 PySem.W.kitx_dict I.kIn ⟨o,h1,h2.1⟩ e (fun z=>nomatch z) h
 | @dT a kvs ea=>
  cases (show u=Value.ref a from rx)
  obtain ⟨_,_,xs,_,o,es,ep,h1,h2,_⟩:=(show ObjOk X.prog X.w H s.heap a (.dT kvs) from I.hok a _ ea)
  exact q9 PySem.W.kitx_dict I.kIn ⟨o,h1,h2.1⟩ e (fun z=>nomatch z) h
 | @ins a C dx fs ea cl ha hn htk hm=>
  cases (show u=Value.ref a from rx)
  obtain ⟨mA,O,_⟩:=pZ I.hok ea;obtain ⟨od,J,_⟩:=O.look;exact q9 (PySem.W.kitx_own (cl.get _) cl.hd ha hn htk hm) I.kIn J e (fun z=>nomatch z) h
end
end L2
namespace L2
open PySem PySem.Spec PyProof.Rows
structure Room(k:Nat)(A:Around):Prop where
 hd:A.handled=none
 dp:A.depth+3*k+5<recursionLimit
 un:A.units+16*k+200<cLine
 gd:A.guards=some []
theorem Room.mono{j k:Nat}{A:Around}(r:Room k A)(h:j<=k):Room j A:=⟨r.hd,by have:=r.dp;lia,by have:=r.un;lia,r.gd⟩
theorem Room.deeper{k:Nat}{A:Around}(r:Room (k+1) A)(env:Env):Room k (A.deeper env):=
 ⟨r.hd,by have:=r.dp;show A.depth+1+3*k+5<_;lia,by have:=r.un;show A.units+3+16*k+200<_;lia,r.gd⟩
theorem aiw{A:Around}{C:Addr}{us:List Value}{kw:List (Str×Value)} : (A.under (.builtin "type.__call__" ⟨.ref C::us,kw⟩)).depth=A.depth+1:=by
 first | rfl | simp [Around.under,Code.weight,Code.isCreation,Code.isGuard,Code.isCaller,Code.frames,Code.isFrame,guardIds]
theorem aix{A:Around}{C:Addr}{us:List Value}{kw:List (Str×Value)} : (A.under (.builtin "type.__call__" ⟨.ref C::us,kw⟩)).units=A.units+1:=by
 first | rfl | simp [Around.under,Code.cUnits,Code.frames,Code.isFrame]
theorem Room.make{k:Nat}{A:Around}(r:Room (k+1) A)(C:Addr)(us:List Value)(kw:List (Str×Value)):Room k (A.under (.builtin "type.__call__" ⟨.ref C::us,kw⟩)):=
 ⟨r.hd,by have:=r.dp;rw [aiw];lia,by have:=r.un;rw [aix];lia,r.gd⟩
theorem Room.depth{k:Nat}{A:Around}(r:Room k A):A.depth<recursionLimit:=by have:=r.dp;lia
theorem Room.units{k:Nat}{A:Around}(r:Room k A):A.units+64<cLine:=by have:=r.un;lia
noncomputable def tNil:TA:=fun _ H Q=>Q [] H
noncomputable def tCons (ta:TE) (tr:TA):TA:=fun Y H Q=>ta Y H fun x H1=>tr Y H1 fun xs H2=>Q (x::xs) H2
section
variable {X:Cx} {e:Expr} {es:List Expr} {te:TE} {t:TA} {pos:Pos}
theorem aqi:PA X [] tNil:=fun _ _ _ _ H Q I h=>Calls.spliced_nil ⟨[],H,I,.nil,h⟩
theorem anr(ha:PE X e te)(hr:PA X es t)(hs:starEach (e::es) X.env=(false,eval e X.env)::starEach es X.env:=by rfl):PA X (e::es) (tCons te t):=by
 intro pos pins s Y H Q I h;rw [hs];show wpAny _ _ (spliced ((false,eval e X.env)::backTo pos (starEach es X.env))) _ _ s;refine Calls.spliced_cons (A9 (ha pins s Y H _ I h) fun u s1 ⟨x,H1,I1,r1,q1⟩=>?_);exact A9 (hr pos pins s1 Y H1 _ I1 q1) fun us s2 ⟨xs,H2,I2,r2,q2⟩=>⟨x::xs,H2,I2,.cons r1 r2,q2⟩
noncomputable def tTup (t:TA):TE:=fun Y H Q=>t Y H fun xs H1=>xs.length<=sizeLine/\∀ p,H1 p=none->Q (.ref p) (A0 H1 p (.tup xs))
noncomputable def tLst (t:TA):TE:=fun Y H Q=>t Y H fun xs H1=>xs.length<=sizeLine/\∀ p,H1 p=none->Q (.ref p) (A0 H1 p (.lst xs))
theorem aqj{x1}(h:PA X es t):PE X (.Tuple es x1 pos) (tTup t):=by
 intro pins s Y H Q I hq;refine wpAny_Tuple_spliced (A9 (h pos pins s Y H _ I hq) fun us s1 ⟨xs,H1,I1,r,z,q⟩=>⟨by rw [<- r.length];exact z,?_⟩);have hf:H1 s1.heap.objs.size=none:=I1.hok.fresh (C3 _);refine ⟨.ref s1.heap.objs.size,A0 H1 s1.heap.objs.size (.tup xs),I1.laid (t':=s1.toks) (fun b u e=>Heap.get?_push_of_some _ e) (C3 _) ?_,rfl,q _ hf⟩;exact ⟨z,us,r,⟨_,Heap.get?_push_size _ rfl,rfl,_,rfl⟩⟩
theorem aqk(h:PA X es t):PE X (.List es pos) (tLst t):=by
 intro pins s Y H Q I hq;refine wpAny_List_spliced (A9 (h pos pins s Y H _ I hq) fun us s1 ⟨xs,H1,I1,r,z,q⟩=>⟨by rw [<- r.length];exact z,?_⟩);have hf:H1 s1.heap.objs.size=none:=I1.hok.fresh (C3 _);refine ⟨.ref s1.heap.objs.size,A0 H1 s1.heap.objs.size (.lst xs),I1.laid (t':=s1.toks) (fun b u e=>Heap.get?_push_of_some _ e) (C3 _) ?_,rfl,q _ hf⟩;exact ⟨z,us,0,r,Heap.get?_push_size _ rfl⟩
end
noncomputable abbrev Sp:=List V->Hp->VK->XK->Prop
noncomputable abbrev i7:=List Env->Hp->Shared->XK->Value->Shared->Prop
structure Env0(P:Program)(w:World)(K:PySem.W.Frag)(mg:Str->Option Value)(base:Heap)(A:Around)(outer:List Env)(s:Shared)(H:Hp):Prop where
 frames:A.frames=some outer
 mod:Mod K mg base
 bs:∀ b o,base.get? b=some o->s.heap.get? b=some o/\H b=none
 bsz:base.objs.size<=s.heap.objs.size
 funs:s.heap.FunFrames base outer
 frf:∀ b∈t4 outer,H b=none
 hok:M8 P w H s.heap
 bare:AllBare s.gens
noncomputable def CE (outer:List Env) (P:Program) (w:World) (H:Hp) (s:Shared) (Q:VK) (u:Value) (s':Shared):Prop:=
 ∃ v H',s'.os=s.os/\AllBare s'.gens/\Un (t4 outer) [] H H' s.heap s'.heap/\M8 P w H' s'.heap/\RelV v u/\Q v H'
noncomputable def CR (CX:i7) (outer:List Env) (P:Program) (w:World) (H:Hp) (s:Shared) (Q:VK) (E:XK) (r:Result) (s':Shared):Prop:=
 match r with
 | .ok (.ret u)=>CE outer P w H s Q u s'
 | .ok _=>False
 | .error e=>CX outer H s E e s'
structure FnOk(P:Program)(w:World)(K:PySem.W.Frag)(mg:Str->Option Value)(base:Heap)(CX:i7)(k:Nat)(f:Addr)(fd:FuncData)(ps:List Str)(sp:Sp):Prop where
 len:∀ vs H Q E,sp vs H Q E->vs.length=ps.length
 run:∀ (A:Around) (outer:List Env) (s:Shared) (H:Hp) (args:Args) (us:List Value) (vs:List V) (Q:VK) (E:XK),Room k A->Env0 P w K mg base A outer s H->BindsTo s fd args (ps.zip us)->Vals vs us->sp vs H Q E->
  codeAny (model P w) A (.call (.ref f) args) (CR CX outer P w H s Q E) s
theorem Env0.make{P:Program}{w:World}{K:PySem.W.Frag}{mg:Str->Option Value}{base:Heap}{A:Around}{outer:List Env}{s:Shared}{H:Hp}(e:Env0 P w K mg base A outer s H)(C:Addr)(us:List Value)(kw:List (Str×Value)) :
  Env0 P w K mg base (A.under (.builtin "type.__call__" ⟨.ref C::us,kw⟩)) outer s H:=⟨by first | exact e.frames | (simpa [Around.under,Code.envs,Code.isFrame,pushEnvs] using e.frames),e.mod,e.bs,e.bsz,e.funs,e.frf,e.hok,e.bare⟩
section
variable {X:Cx} {pins:List (Addr×Obj)} {Y:St} {H:Hp} {s s':Shared}
theorem Inv.env0(I:Inv X pins Y H s):Env0 X.prog X.w X.K X.mg X.base X.A X.stack s H:=
 ⟨I.ok.frames,I.ok.mod,I.bs,N4 I.ok.bsz I.sz,I.stack,I.stkFree,I.hok,I.bare⟩
theorem Inv.after{Q:VK}{u:Value}(I:Inv X pins Y H s)(h:CE X.stack X.prog X.w H s Q u s'):EP X pins Y Q u s':=by
 obtain ⟨v,H',os,bare,un,hok,r,q⟩:=h;obtain ⟨hh,g,d,t,os'⟩:=s';obtain rfl:os'=s.os:=os;exact ⟨v,H',I.call (h':=hh) (g':=g) (d':=d) (t':=t) (ch:=[]) un hok bare (fun b z=>absurd z (by simp)),r,q⟩
end
noncomputable def tCall (sp:Sp) (dvs:List V) (E:XK) (t:TA):TE:=fun Y H Q=>t Y H fun vs H1=>sp (vs++dvs) H1 Q E
noncomputable def tMeth (C:Addr) (m:Str) (sp:Sp) (dvs:List V) (E:XK) (ta:TE) (t:TA):TE:=fun Y H Q=>ta Y H fun x H1=>∃ a dx fs,x=.ref a/\H1 a=some (.ins C dx fs)/\fs.lookup m=none/\
 t Y H1 fun vs H2=>sp (x::(vs++dvs)) H2 Q E
noncomputable def tMake (C:Addr) (sp:Sp) (dvs:List V) (E:XK) (t:TA):TE:=fun Y H Q=>t Y H fun vs H1=>∀ x dx,H1 x=none->H1 dx=none->dx≠x->
 sp (.ref x::(vs++dvs)) (A0 (A0 H1 dx (.own x)) x (.ins C dx [])) (fun v H2=>v=.non/\Q (.ref x) H2) E
noncomputable def Binds (K:PySem.W.Frag) (fd:FuncData) (ps:List Str) (ds:List Value):Prop:=
 ∀ (s:Shared) (us:List Value),K.In s.heap->(us++ds).length=ps.length->BindsTo s fd ⟨us,[]⟩ (ps.zip (us++ds))
theorem Binds.all{K:PySem.W.Frag}{fd:FuncData}{ps:List Str}(h:∀ us:List Value,us.length=ps.length->bindArgs fd ⟨us,[]⟩=pure (ps.zip us)):Binds K fd ps []:=fun s us _ hl=>by
 rw [M3] at hl ⊢
 exact .of_eq (h us hl)
noncomputable def fZ (CX:i7) (X:Cx) (E:XK):Prop:=∀ (pins:List (Addr×Obj)) (Y:St) (H:Hp) (s:Shared) (e:Value) (s':Shared),Inv X pins Y H s->CX X.stack H s E e s'->X.xe e s'
section
variable {X:Cx} {CX:i7} {k:Nat} {f C:Addr} {fd:FuncData} {ps:List Str} {sp:Sp} {dvs:List V} {ds:List Value} {E:XK} {x m:Str} {p pos apos:Pos} {e o:Expr} {es:List Expr} {ta:TE} {t:TA}
theorem uF{pins:List (Addr×Obj)}{Y:St}{H:Hp}{s:Shared}{Q:VK}{us:List Value}{vs:List V}(F:FnOk X.prog X.w X.K X.mg X.base CX k f fd ps sp)(hr:Room k X.A)(hb:Binds X.K fd ps ds)(hd:Vals dvs ds)(hx:fZ CX X E)(I:Inv X pins Y H s)(r:Vals vs us)(h:sp (vs++dvs) H Q E):wpAny (model X.prog X.w) X.A (call (.ref f) us) (EP X pins Y Q) X.xe s:=by
 have r2:Vals (vs++dvs) (us++ds):=r.append hd;have hl:(us++ds).length=ps.length:=by rw [<- r2.length];exact F.len _ _ _ _ h
 refine wpAny_call (codeAny_mono (F.run X.A X.stack s H ⟨us,[]⟩ (us++ds) (vs++dvs) Q E hr I.env0 (hb s us I.kIn hl) r2 h) fun r s' hq=>?_)
 cases r with
 | error e=>exact hx pins Y H s e s' I hq
 | ok fl=>
  cases fl with
  | ret u=>exact I.after hq
  | next=>exact False.elim hq
  | brk=>exact False.elim hq
  | cont=>exact False.elim hq
theorem ans(F:FnOk X.prog X.w X.K X.mg X.base CX k f fd ps sp)(hr:Room k X.A)(hg:Gl X x)(hm:X.mg x=some (.ref f))(hk:V3 X.K (.ref f)=true)(hb:Binds X.K fd ps ds)(hd:Vals dvs ds)(hx:fZ CX X E)(ha:PA X (e::es) t)(R7:(x==("__debug__" : Str))=false:=by decide)(he:starEach (e::es) X.env=(false,eval e X.env)::starEach es X.env:=by rfl)(X9:(backTo pos (starEach es X.env)).any (·.1)=false:=by rfl) :
  PE X (.Call (.Name x p) (e::es) [] pos) (tCall sp dvs E t):=by
 intro pins s Y H Q I h;refine wpAny_Call_Name_kw (tS I hg hm ?_ R7);refine PySem.W.callWith_K (h₀:=X.base) I.ok.mod.kin hk (A9 (ha pos pins s Y H _ I h) fun us s1 ⟨vs,H1,I1,r,q⟩=>⟨I1.kIn,?_⟩) he X9;exact uF F hr hb hd hx I1 r q
theorem ant{pl:Sem Bool}(he:PE X o ta)(c:Cls X.K C)(hm:Meth X.K C m f)(F:FnOk X.prog X.w X.K X.mg X.base CX k f fd ps sp)(hr:Room k X.A)(hb:Binds X.K fd ps ds)(hd:Vals dvs ds)(hx:fZ CX X E)(ha:PA X (e::es) t)(Y7:starEach (e::es) X.env=(false,eval e X.env)::starEach es X.env:=by rfl)(X9:(backTo pos (starEach es X.env)).any (·.1)=false:=by rfl)(ht:eval (.Call (.Attribute o m apos) (e::es) [] pos) X.env=(do
   let ov <- eval o X.env
   standAt apos.atName
   let (f,first) <- holding [ov] (getMethod ov m pl)
   callWith pos f first (backTo pos (starEach (e::es) X.env)) (backToKw pos (keywordEach [] X.env))):=by rfl) :
  PE X (.Call (.Attribute o m apos) (e::es) [] pos) (tMeth C m sp dvs E ta t):=by
 intro pins s Y H Q I h;refine PySem.W.methodCall_KW (pl:=pl) (A9 (he pins s Y H _ I h) fun u s1 ⟨x,H1,I1,rx,a,dx,fs,ex,ea,l,q⟩=>?_) ht;subst ex;obtain rfl:u=Value.ref a:=rx;refine ae0 I1 ea c hm l ?_;refine PySem.W.callWith_K (first:=[.ref a]) (h₀:=X.base) I.ok.mod.kin hm.kp (A9 (ha pos pins s1 Y H1 _ I1 q) fun us s2 ⟨vs,H2,I2,r,q2⟩=>⟨I2.kIn,?_⟩) Y7 X9;exact uF (us:=.ref a::us) (vs:=.ref a::vs) F hr hb hd hx I2 (.cons rfl r) q2
theorem ale{pl:Sem Bool}(he:PE X o ta)(c:Cls X.K C)(hm:Meth X.K C m f)(F:FnOk X.prog X.w X.K X.mg X.base CX k f fd ps sp)(hr:Room k X.A)(hb:Binds X.K fd ps ds)(hd:Vals dvs ds)(hx:fZ CX X E)(ht:eval (.Call (.Attribute o m apos) [] [] pos) X.env=(do
   let ov <- eval o X.env
   standAt apos.atName
   let (f,first) <- holding [ov] (getMethod ov m pl)
   callWith pos f first (backTo pos (starEach [] X.env)) (backToKw pos (keywordEach [] X.env))):=by rfl) :
  PE X (.Call (.Attribute o m apos) [] [] pos) (tMeth C m sp dvs E ta tNil):=by
 intro pins s Y H Q I h;refine PySem.W.methodCall_KW (pl:=pl) (A9 (he pins s Y H _ I h) fun u s1 ⟨x,H1,I1,rx,a,dx,fs,ex,ea,l,q⟩=>?_) ht;subst ex;obtain rfl:u=Value.ref a:=rx;refine ae0 I1 ea c hm l ?_;exact PySem.W.callWith_K0 (first:=[.ref a]) I1.kIn hm.kp (uF (us:=[.ref a]) (vs:=[.ref a]) F hr hb hd hx I1 (.cons rfl .nil) q)
structure Mk(K:PySem.W.Frag)(C f:Addr):Prop where
 makes:PySem.W.makesIn K C=true
 init:R0 K (.ref C) "__init__"=some (some (.ref f))
 fn:fW K (.ref f)=true
 kp:V3 K (.ref C)=true
theorem alf{pins:List (Addr×Obj)}{Y:St}{H:Hp}{s:Shared}{Q:VK}{us:List Value}{vs:List V}(M:Mk X.K C f)(F:FnOk X.prog X.w X.K X.mg X.base CX k f fd ps sp)(hr:Room (k+1) X.A)(hb:Binds X.K fd ps ds)(hd:Vals dvs ds)(hx:fZ CX X E)(I:Inv X pins Y H s)(r:Vals vs us)(h:∀ x dx,H x=none->H dx=none->dx≠x->sp (.ref x::(vs++dvs)) (A0 (A0 H dx (.own x)) x (.ins C dx [])) (fun v H2=>v=.non/\Q (.ref x) H2) E) :
  wpAny (model X.prog X.w) X.A (call (.ref C) us) (EP X pins Y Q) X.xe s:=by
 have hq:=h (s.heap.objs.size+1) s.heap.objs.size (I.hok.fresh (Nat.le_succ _)) (I.hok.fresh (C3 _)) (L8 (Nat.lt_succ_self _));have I2:=Inv.made (C:=C) I;have r2:Vals (V.ref (s.heap.objs.size+1)::(vs++dvs)) (Value.ref (s.heap.objs.size+1)::(us++ds)):=.cons rfl (r.append hd);have hl:(Value.ref (s.heap.objs.size+1)::us++ds).length=ps.length:=by
  have e:=r2.length;rw [F.len _ _ _ _ hq] at e;exact e.symm
 refine wpAny_call (ald (f:=f) I.kIn M.makes M.init (beq_iff_eq.mp M.fn) (codeAny_mono (F.run _ X.stack _ _ ⟨Value.ref (s.heap.objs.size+1)::us,[]⟩ (Value.ref (s.heap.objs.size+1)::(us++ds)) _ _ E (hr.make C us [])
  (I2.env0.make C us []) (hb _ (Value.ref (s.heap.objs.size+1)::us) I2.kIn hl) r2 hq) fun r s' iB=>?_))
 cases r with
 | error e=>exact hx pins Y _ _ e s' I2 iB
 | ok fl=>
  cases fl with
  | ret u=>
   obtain ⟨v,H',I3,rv,ev,q3⟩:=I2.after iB;subst ev;exact ⟨rv,⟨V.ref (s.heap.objs.size+1),H',I3,rfl,q3⟩⟩
  | next=>exact False.elim iB
  | brk=>exact False.elim iB
  | cont=>exact False.elim iB
theorem anu(M:Mk X.K C f)(F:FnOk X.prog X.w X.K X.mg X.base CX k f fd ps sp)(hr:Room (k+1) X.A)(hg:Gl X x)(hm:X.mg x=some (.ref C))(hb:Binds X.K fd ps ds)(hd:Vals dvs ds)(hx:fZ CX X E)(ha:PA X (e::es) t)(R7:(x==("__debug__" : Str))=false:=by decide)(he:starEach (e::es) X.env=(false,eval e X.env)::starEach es X.env:=by rfl)(X9:(backTo pos (starEach es X.env)).any (·.1)=false:=by rfl) :
  PE X (.Call (.Name x p) (e::es) [] pos) (tMake C sp dvs E t):=by
 intro pins s Y H Q I h;refine wpAny_Call_Name_kw (tS I hg hm ?_ R7);refine PySem.W.callWith_K (h₀:=X.base) I.ok.mod.kin M.kp (A9 (ha pos pins s Y H _ I h) fun us s1 ⟨vs,H1,I1,r,q⟩=>⟨I1.kIn,?_⟩) he X9;exact alf M F hr hb hd hx I1 r q
end
noncomputable def PK (X:Cx) (kws:List Keyword) (t:TA):Prop:=
 ∀ (pos:Pos) (pins:List (Addr×Obj)) (s:Shared) (Y:St) (H:Hp) (Q:List V->Hp->Prop),Inv X pins Y H s->t Y H Q->wpAny (model X.prog X.w) X.A (evalAll ((backToKw pos (keywordEach kws X.env)).map (·.2))) (AP X pins Y Q) X.xe s
section
variable {X:Cx} {CX:i7} {k:Nat} {f C:Addr} {fd:FuncData} {ps ks:List Str} {sp:Sp} {E:XK} {x m:Str} {p pos apos kpos:Pos} {e o:Expr} {es:List Expr} {kws:List Keyword} {te ta:TE} {t tk:TA} {nm:Option Str}
theorem aql:PK X [] tNil:=fun _ _ _ _ H Q I h=>wpAny_evalAll_nil ⟨[],H,I,.nil,h⟩
theorem anv(ha:PE X e te)(hr:PK X kws t):PK X (⟨nm,e,kpos⟩::kws) (tCons te t):=by
 intro pos pins s Y H Q I h;show wpAny _ _ (evalAll ((do let v <- eval e X.env;standAt pos;pure v)::(backToKw pos (keywordEach kws X.env)).map (·.2))) _ _ s;refine wpAny_evalAll_cons (wpAny_bind (A9 (ha pins s Y H _ I h) fun u s1 ⟨x,H1,I1,r1,q1⟩=>wpAny_bind (wpAny_standAt (wpAny_pure ?_))));exact A9 (hr pos pins s1 Y H1 _ I1 q1) fun us s2 ⟨xs,H2,I2,r2,q2⟩=>⟨x::xs,H2,I2,.cons r1 r2,q2⟩
variable {g:List Value->List Value->List Value} {gV:List V->List V->List V}
end
structure FnScope(N P:List Str)(sc:Scope):Prop where
 kind:sc.kind=.function
 co:sc.isCoroutine=false
 gen:sc.isGenerator=false
 nd:N.Nodup
 pre:N.take P.length=P
 par:∀ x∈P,sc.names.lookup x=some .local\/sc.names.lookup x=some .cell
 nofree:∀ y∈sc.names,y.2≠.free
theorem afV{kindOf:Str->Option NameKind}{x:Str} : ∀ {binds:List (Str×Value)} {m:Str->Option Value},(∀ v,(x,v)∉binds)->bindL kindOf binds m x=m x
 | [],_,_=>rfl
 | (n,v)::r,m,h=>by
  unfold bindL;rw [afV fun w hw=>h w (N9 _ hw)]
  split
  .have:x≠n:=by rintro rfl;exact h v N3
   simp [this]
  .rfl
theorem afW{kindOf:Str->Option NameKind}{x:Str} : ∀ {binds:List (Str×Value)} {m:Str->Option Value},(∀ v,(x,v)∉binds)->bindC kindOf binds m x=m x
 | [],_,_=>rfl
 | (n,v)::r,m,h=>by
  unfold bindC;rw [afW fun w hw=>h w (N9 _ hw)]
  split
  .rfl
  .have:x≠n:=by rintro rfl;exact h v N3
   simp [this]
theorem afX{kindOf:Str->Option NameKind}{x:Str}{v:Value} : ∀ {P:List Str} {vs:List Value} {i:Nat} {m:Str->Option Value},P.Nodup->P[i]?=some x->vs[i]?=some v->kindOf x=some .local->
  bindL kindOf (P.zip vs) m x=some v
 | [],_,_,_,_,h,_,_=>by simp at h
 | _::_,[],_,_,_,_,h,_=>by simp at h
 | p::P,w::vs,0,m,nd,h1,h2,hk=>by
  simp at h1 h2;subst h1;subst h2;show bindL kindOf ((p,w)::P.zip vs) m p=_;unfold bindL;rw [afV fun v hv=>(V1.mp nd).1 (List.of_mem_zip hv).1,if_pos hk]
  simp
 | p::P,w::vs,i+1,m,nd,h1,h2,hk=>by
  show bindL kindOf ((p,w)::P.zip vs) m x=_;unfold bindL;exact afX (i:=i) (V1.mp nd).2 (by simpa using h1) (by simpa using h2) hk
theorem afY{kindOf:Str->Option NameKind}{x:Str}{v:Value} : ∀ {P:List Str} {vs:List Value} {i:Nat} {m:Str->Option Value},P.Nodup->P[i]?=some x->vs[i]?=some v->kindOf x≠some .local->
  bindC kindOf (P.zip vs) m x=some v
 | [],_,_,_,_,h,_,_=>by simp at h
 | _::_,[],_,_,_,_,h,_=>by simp at h
 | p::P,w::vs,0,m,nd,h1,h2,hk=>by
  simp at h1 h2;subst h1;subst h2;show bindC kindOf ((p,w)::P.zip vs) m p=_;unfold bindC;rw [afW fun v hv=>(V1.mp nd).1 (List.of_mem_zip hv).1,if_neg hk]
  simp
 | p::P,w::vs,i+1,m,nd,h1,h2,hk=>by
  show bindC kindOf ((p,w)::P.zip vs) m x=_;unfold bindC;exact afY (i:=i) (V1.mp nd).2 (by simpa using h1) (by simpa using h2) hk
noncomputable def start (N:List Str) (vs:List V):St:=vs.map some++X1 (N.length-vs.length) none
noncomputable def cxOf (CX:i7) (P:Program) (w:World) (K:PySem.W.Frag) (mg:Str->Option Value) (base:Heap) (N:List Str) (qual:Str) (scope:Scope) (f:Addr) (cd:Value) (A:Around) (outer:List Env) (s:Shared) (H:Hp) (E:XK):Cx where
 prog:=P
 w:=w
 K:=K
 mg:=mg
 base:=base
 A:=A.deeper (envOfC qual scope s.heap.objs.size f cd)
 N:=N
 s₀:=s
 H₀:=H
 env:=envOfC qual scope s.heap.objs.size f cd
 outer:=outer
 stack:=envOfC qual scope s.heap.objs.size f cd::outer
 ex:=[]
 calm:=true
 fn:=fun _=>true
 pn:=[]
 xe:=fun e s'=>wpAny (model P w) (A.deeper (envOfC qual scope s.heap.objs.size f cd)) (leaving (envOfC qual scope s.heap.objs.size f cd) e) (fun _ s''=>CX outer H s E e s'') (fun e' s''=>CX outer H s E e' s'') s'
theorem ahK{sc:Scope}{n:Nat}{x:Str}(h:sc.names.lookup x=some .cell):∃ c,(cellsFrom n sc.names []).lookup x=some c:=by
 have q:=PySem.W.cellsFrom_some sc.names n [] (.inl h);exact Option.isSome_iff_exists.mp q
theorem ajt{CX:i7}{P:Program}{w:World}{K:PySem.W.Frag}{mg:Str->Option Value}{base:Heap}{N ps:List Str}{qual:Str}{scope:Scope}{f:Addr}{cd:Value}{A:Around}{outer:List Env}{s s1:Shared}{H:Hp}{E:XK}{us:List Value}{vs:List V}(S:FnScope N ps scope)(hd:A.handled=none)(e0:Env0 P w K mg base A outer s H)(hl:vs.length=ps.length)(r:Vals vs us)(x:InCallC s s.heap.objs.size (bindL (envOfC qual scope s.heap.objs.size f cd).kindOf (ps.zip us) fun _=>none) (cellsFrom (s.heap.objs.size+1) scope.names []) (bindC (envOfC qual scope s.heap.objs.size f cd).kindOf (ps.zip us) fun _=>none) s1) :
  Inv (cxOf CX P w K mg base N qual scope f cd A outer s H E) [] (start N vs) H s1:=by
 have X9:ps.length<=N.length:=by have:=congrArg Z3 S.pre;rw [L4] at this;lia
 obtain ⟨h1,tk,rfl,hk⟩:=x.done;have noA:∀ b:Addr,b∉(cxOf CX P w K mg base N qual scope f cd A outer s H E).ex:=fun b z=>absurd (show b∈([]:List Addr) from z) (by simp)
 refine ⟨⟨e0.mod,S.kind,rfl,rfl,C3 _,fun y z c h1 h2=>?_,fun y hy=>?_,fun y c _ h=>?_,fun _=>hd,Around.frames_deeper e0.frames,.inr ⟨rfl,rfl⟩,fun b z=>absurd z (noA b),e0.bs,e0.bsz,fun b _ _=>noA b,fun b z=>absurd z (noA b),e0.funs,e0.frf⟩,
  rfl,e0.bare,Un.kept hk,⟨_,x.toInCall.ns,fun i y v h1 h2 h3=>?_⟩,fun y c h=>⟨_,x.cell y c h⟩,e0.hok.fresh (C3 _),fun y c h=>?_,fun p hp=>absurd (show p∈([]:List (Addr×Obj)) from hp) (by simp),e0.hok.kept hk,?_⟩
 .exact name_of_addr x.apart (PySem.mem_of_lookup h1) (PySem.mem_of_lookup h2)
 .have hy:scope.names.lookup y=some .cell\/scope.names.lookup y=some .free:=hy
  rcases hy with hy | hy
  .exact ahK hy
  .exact absurd rfl (S.nofree _ (PySem.mem_of_lookup hy))
 .exact Nat.le_of_lt (x.above y c (PySem.mem_of_lookup h))
 .have hi:i<vs.length:=by
   unfold start at h2
   by_cases hi:i<vs.length
   .exact hi
   .rw [fO (by simpa using hi)] at h2;rw [List.getElem?_replicate] at h2
    split at h2 <;> cases h2
  have ha:vs[i]?=some v:=by
   unfold start at h2;rw [dD (by simpa using hi),T8] at h2;cases e:vs[i]? with
   | none=>rw [e] at h2;cases h2
   | some a=>rw [e] at h2;cases h2;rfl
  obtain ⟨u,hu,rv⟩:=r.get ha;have hp:ps[i]?=some y:=by
   rw [<- S.pre,List.getElem?_take_of_lt (by lia)];exact h1
  have ndP:ps.Nodup:=by rw [<- S.pre];exact S.nd.sublist (List.take_sublist _ _)
  refine ⟨u,rv,?_⟩
  rcases S.par y (K8 hp) with k | k
  .exact .inl ⟨k,afX ndP hp hu k⟩
  .obtain ⟨c,e⟩:=ahK (n:=s.heap.objs.size+1) k;refine .inr ⟨.inl k,c,e,?_⟩;have q:=x.cell y c e;rw [afY ndP hp hu (by show scope.names.lookup y≠_;rw [k];decide)] at q;exact q
 .exact e0.hok.fresh (Nat.le_of_lt (x.above y c (PySem.mem_of_lookup h)))
 .unfold start;show _=N.length;rw [D7,A6,List.length_replicate];lia
theorem fn_of{CX:i7}{P:Program}{w:World}{K:PySem.W.Frag}{mg:Str->Option Value}{base:Heap}{k:Nat}{f:Addr}{name qual:Str}{params:Arguments}{body:List Stmt}{scope:Scope}{dV kV doc pm cdv ct oc:Value}{an od:Option Addr}{osl:Array (Option Value)}{N ps:List Str}{sp:Sp}(lk:K.lookup f=some ⟨oc,od,.func (T9 name qual params body scope dV kV doc pm an cdv ct),osl⟩)(o7:X2 K cdv qual=true)(S:FnScope N ps scope)(len:∀ vs H Q E,sp vs H Q E->vs.length=ps.length)(v8:∀ (A:Around) (outer:List Env) (s:Shared) (H:Hp) (vs:List V) (Q:VK) (E:XK),Room k (A.deeper (envOfC qual scope s.heap.objs.size f cdv))->sp vs H Q E->
   ∃ t,Y5 (cxOf CX P w K mg base N qual scope f cdv A outer s H E) body t/\t { nx:=fun _ H'=>Q .non H',rt:=Q } (start N vs) H) :
  FnOk P w K mg base CX (k+1) f (T9 name qual params body scope dV kV doc pm an cdv ct) ps sp:=by
 refine ⟨len,fun A outer s H args us vs Q E hr e0 hb r eU=>?_⟩;have hl:=len _ _ _ _ eU;have KX:K.In s.heap:=e0.mod.kin.keeps fun b o e=>(e0.bs b o e).1
 have lim:s.heap.NoLimit:=e0.mod.nolimit.keeps fun b o e=>(e0.bs b o e).1
 have oQ:∀ y∈ps.zip us,scope.names.lookup y.1=some .local\/(scope.names.lookup y.1=some .cell/\((cellsFrom (s.heap.objs.size+1) scope.names []).lookup y.1).isSome=true):=fun ⟨n,v⟩ hy=>by
  rcases S.par n (List.of_mem_zip hy).1 with q | q
  .exact .inl q
  .exact .inr ⟨q,PySem.W.cellsFrom_some _ _ _ (.inl q)⟩
 refine codeAny_call_function hr.depth (KX _ _ lk) rfl S.co S.gen rfl (PySem.W.codeRec_of KX o7) (hb _ _ _ _ ?_);refine wpAny_newFunctionEnv_cells S.kind oQ fun env he s1 x=>?_
 subst he;refine ⟨lim.keeps x.toInCall.keep,codeAny_func ?_⟩;obtain ⟨t,ht,hq⟩:=v8 A outer s H vs Q E (hr.deeper _) eU;have I:Inv (cxOf CX P w K mg base N qual scope f cdv A outer s H E) [] (start N vs) H s1:=ajt S hr.hd e0 hl r x;refine wpAny_mono (ht [] s1 (start N vs) H _ I hq) (fun fl s' hs=>?_) fun e s' hs=>hs
 have fin:∀ {σ':St} {H':Hp} {v:V} {u:Value},Inv (cxOf CX P w K mg base N qual scope f cdv A outer s H E) [] σ' H' s'->RelV v u->Q v H'->CE outer P w H s Q u s':=
  fun {σ' H' v u} J rv q=>⟨v,H',J.os,J.bare,J.base,J.hok,rv,q⟩
 cases fl with
 | ret u=>
  obtain ⟨v,σ',H',J,rv,q⟩:=hs;exact fin J rv q
 | next=>
  obtain ⟨σ',H',J,q⟩:=hs;exact fin (v:=V.non) (u:=Value.none) J rfl q
 | brk=>
  obtain ⟨_,_,_,q⟩:=hs;exact False.elim q
 | cont=>
  obtain ⟨_,_,_,q⟩:=hs;exact False.elim q
end L2
section
variable {C a b f fa fo it ll md ml p r rl:PySem.Addr}{dvs vs xs ys:List L2.V}{Q:L2.VK}{v v' x:L2.V}{cd ct oc pm u vl vu:PySem.Value}{a0 a1 ck i j k m n t' x1:Nat}{items items2:Array PySem.Value}{ds fr ns:List Int}{its its' its2 us:List PySem.Value}{pins:List (PySem.Addr×PySem.Obj)}{Y:L2.St}{H H' H0 H1 H2 H3 Hb zt:L2.Hp}{s zw:PySem.Shared}{A:PySem.Around}{name q qual y z z':PySem.Str}{h h':PySem.Heap}{L L' M M' N N' acc bad g' ks line loose ls ls' ms ps ts zs:List PySem.Str}{K:PySem.W.Frag}{mg:PySem.Str->Option PySem.Value}{fd:PySem.FuncData}{sp:L2.Sp}{X:L2.Cx}{kvs:List (L2.B3×L2.V)}{prog:PySem.Program}{E:PySem.Value->PySem.Shared->Prop}{S ixs l' pre:List Nat}{e elt iter target tg:PySem.Expr}{elts ifs:List PySem.Expr}{g:L2.TG}{c:L2.TT}{td te ti tk tl to tv tx ty:L2.TE}{fp rs:List PySem.Addr}{apos cpos kpos p1 pos1 spos tpos:PySem.Pos}{b' bh calm fg neg:Bool}{st:PySem.Stmt}{an od:Option PySem.Addr}{tb:L2.TS}{D:L2.Ends}{lo:Int}{o:PySem.Obj}{ta:L2.TA}{ss:Array (Option PySem.Value)}
namespace L2
open PySem PySem.Spec PyProof.Rows
section
variable {X:Cx} {x:Str} {p pos:Pos} {e:Expr} {es:List Expr} {t:TA} {id T:String} {r:List V->Hp->VK->Prop}
noncomputable def gA (r:List V->Hp->VK->Prop) (t:TA):TE:=fun Y H Q=>t Y H fun vs H1=>r vs H1 Q
theorem alg(hc:CallR X (.builtin id) r)(hg:Gl X x)(hm:X.mg x=none)(hv:bootBuiltins x=some (.builtin id))(ha:PA X (e::es) t)(hn:x≠"__name__":=by decide)(R7:(x==("__debug__" : Str))=false:=by decide)(he:starEach (e::es) X.env=(false,eval e X.env)::starEach es X.env:=by rfl)(X9:(backTo pos (starEach es X.env)).any (·.1)=false:=by rfl):PE X (.Call (.Name x p) (e::es) [] pos) (gA r t):=by
 intro pins s Y H Q I h;refine wpAny_Call_Name_kw (z8 I hg hm hv ?_ hn R7);exact PyProof.Rows.callWith_builtin1 (A9 (ha pos pins s Y H _ I h) fun us s1 ⟨vs,H1,I1,r1,q1⟩=>hc pins s1 Y H1 vs us Q I1 r1 q1) he X9
theorem aju(hc:CallR X (.type T) r)(hg:Gl X x)(hm:X.mg x=none)(hv:bootBuiltins x=some (.type T))(ha:PA X (e::es) t)(hn:x≠"__name__":=by decide)(R7:(x==("__debug__" : Str))=false:=by decide)(he:starEach (e::es) X.env=(false,eval e X.env)::starEach es X.env:=by rfl)(X9:(backTo pos (starEach es X.env)).any (·.1)=false:=by rfl):PE X (.Call (.Name x p) (e::es) [] pos) (gA r t):=by
 intro pins s Y H Q I h;refine wpAny_Call_Name_kw (z8 I hg hm hv ?_ hn R7);exact PyProof.Rows.callWith_type1 (A9 (ha pos pins s Y H _ I h) fun us s1 ⟨vs,H1,I1,r1,q1⟩=>hc pins s1 Y H1 vs us Q I1 r1 q1) he X9
end
end L2
namespace HT
open PySem PyProof.Rows
section
open PySem.SeqAt
open PySem.AutoSeq1 (wpAny_loadPart')
open PySem.MeetsSeq PySem.MeetsSeq2 PySem.MeetsSeq3
end
section
variable {prog:Program} {w:World} {A:Around} {E:Value->Shared->Prop} {s:Shared}
theorem cat_tup{t:Addr}{vs ws:List Value}{Q:Value->Shared->Prop}(ht:IsTup s.heap t vs.toArray)(hb:IsTup s.heap b ws.toArray)(hv:vs≠[])(h1:ws=[]->Q (.ref t) s)(h2:ws≠[]->Q (.ref s.heap.objs.size) { s with heap:=s.heap.push { cls:=.type "tuple",data:=.seq (vs++ws).toArray } })(hsz:vs.length+ws.length<=sizeLine):wpAny (model prog w) A (binaryOp .Add (.ref t) (.ref b)) Q E s:=by
 obtain ⟨⟨cls,dd,data,sl⟩,ho,hc,n,hd⟩:=id ht;obtain ⟨⟨cls2,j9,data2,Z6⟩,aW,Q3,n2,U9⟩:=id hb;simp only at hc hd Q3 U9;subst hc hd Q3 U9;have e:vs.toArray++ws.toArray=(vs++ws).toArray:=by simp
 by_cases hw:ws=[]
 .exact concat_meets ⟨_,ho,rfl⟩ ⟨_,aW,rfl⟩ noFill_tuple_add seq_tuple_add PySem.F.slot_tuple_add PySem.F.entry_tuple_add (PySem.F.args_tuple_add_2 _ _)
   (tuple_addW1 t b vs.toArray ws.toArray n n2 dd j9 sl Z6 (by simpa using hv) (by simp [hw])) ⟨ho,aW,h1 hw⟩
 .refine concat_meets ⟨_,ho,rfl⟩ ⟨_,aW,rfl⟩ noFill_tuple_add seq_tuple_add PySem.F.slot_tuple_add PySem.F.entry_tuple_add (PySem.F.args_tuple_add_2 _ _)
   (tuple_addW2 t b vs.toArray ws.toArray n n2 dd j9 sl Z6 (by simpa using hv) (by simpa using hw) (by rw [J8,J8];exact hsz)) ⟨ho,aW,?_⟩
  rw [e];exact h2 hw
noncomputable def sIx (n d:Nat):Option Int->Nat
 | none=>d
 | some v=>if v<0 then (v+(n:Int)).toNat else min v.toNat n
theorem sIx_nat(n d k:Nat):sIx n d (some (k:Int))=min k n:=by
 show (if (k:Int)<0 then ((k:Int)+(n:Int)).toNat else min (k:Int).toNat n)=min k n;rw [if_neg (by lia),Int.toNat_natCast]
theorem sIx_le(n d:Nat)(hd:d<=n)(o:Option Int):sIx n d o<=n:=by
 cases o with
 | none=>exact hd
 | some v=>
  show (if v<0 then (v+(n:Int)).toNat else min v.toNat n)<=n
  by_cases hv:v<0
  .rw [if_pos hv];lia
  .rw [if_neg hv];exact Nat.min_le_right _ _
theorem clip_eq(v:Int)(n d:Nat):(if v<0 then max (v+(n:Int)) 0 else min v (n:Int))=((sIx n d (some v):Nat):Int):=by
 show (if v<0 then max (v+(n:Int)) 0 else min v (n:Int))=(((if v<0 then (v+(n:Int)).toNat else min v.toNat n):Nat):Int)
 by_cases hv:v<0
 .simp only [if_pos hv];lia
 .simp only [if_neg hv];lia
theorem aiy(lo hi:Option Int)(n:Nat):Builtin.Slice.sliceAdjust lo hi 1 (n:Int)=(((sIx n 0 lo:Nat):Int),((sIx n n hi:Nat):Int)):=by
 have h1:¬ ((1:Int)<0):=by lia
 unfold Builtin.Slice.sliceAdjust;simp only [h1,if_false];refine Prod.ext ?_ ?_
 .cases lo with
  | none=>rfl
  | some v=>exact clip_eq v n 0
 .cases hi with
  | none=>rfl
  | some v=>exact clip_eq v n n
theorem aiz(i j:Nat):Builtin.Slice.slicePlaces (i:Int) (j:Int) 1=j-i:=by
 unfold Builtin.Slice.slicePlaces;have h1:(1:Int) > 0:=by lia
 simp only [h1,if_true,Int.ediv_one]
 split <;> lia
theorem ae1{v:Value}{o:Option Int}{Q:Option Int->Shared->Prop}(p:IsPart v o)(h:Q o s):wpAny (model prog w) A (Builtin.Slice.slicePartIndex v) Q E s:=by
 cases p with
 | none=>exact slicePart_none h
 | int i t=>exact slicePart_int h
theorem sliceApplied_gen{sl:Addr}{lo hi:Option Int}{Q:Int×Int×Nat->Shared->Prop}(hs:s.heap.IsSliceOf sl vl vu .none)(pl:IsPart vl lo)(pu:IsPart vu hi)(h:Q (((sIx n 0 lo:Nat):Int),1,sIx n n hi-sIx n 0 lo) s):wpAny (model prog w) A (Builtin.Slice.sliceApplied (.ref sl) (pure (n:Int))) Q E s:=by
 obtain ⟨os,iC,sQ,eV⟩:=id hs;unfold Builtin.Slice.sliceApplied Builtin.Slice.sliceFields;refine wpAny_bind (wpAny_bind (wpAny_field iC eV (x:=vl) rfl (wpAny_bind (wpAny_field iC eV (x:=vu) rfl (wpAny_bind (wpAny_field iC eV (x:=.none) rfl (wpAny_pure ?_)))))));refine wpAny_bind (slicePart_none ?_);show wpAny _ _ (if ((1:Int)==0)=true then _ else _) _ _ s;rw [if_neg (by decide)];refine wpAny_bind (ae1 pl (wpAny_bind (ae1 pu (wpAny_bind (wpAny_pure ?_)))));show wpAny _ _ (match Builtin.Slice.sliceAdjust lo hi 1 (n:Int) with | (lo,hi)=>pure (lo,(1:Int),Builtin.Slice.slicePlaces lo hi 1)) _ _ s;rw [aiy lo hi n];show wpAny _ _ (pure (((sIx n 0 lo:Nat):Int),(1:Int),Builtin.Slice.slicePlaces ((sIx n 0 lo:Nat):Int) ((sIx n n hi:Nat):Int) 1)) _ _ s;rw [aiz];exact wpAny_pure h
theorem alh(xs:Array Value)(i k:Nat):((U1 k).filterMap fun (m:Nat)=>xs[((i:Int)+(m:Int)*1).toNat]?).toArray=((xs.toList.drop i).take k).toArray:=by
 have e:(fun (m:Nat)=>xs[((i:Int)+(m:Int)*1).toNat]?)=fun m=>xs[i+m]?:=by
  funext m
  have:((i:Int)+(m:Int)*1).toNat=i+m:=by lia
  rw [this]
 rw [e]
 have:=pick_run xs i k
 rw [List.filterMap_map] at this;have e2:((fun x=>xs[x]?)∘fun x=>i+x)=fun m=>xs[i+m]?:=rfl
 rw [e2] at this;rw [this]
theorem getItem_tuple_cut{t sl:Addr}{lo hi:Option Int}{Q:Value->Shared->Prop}(ht:IsTup s.heap t items)(hs:s.heap.IsSliceOf sl vl vu .none)(pl:IsPart vl lo)(pu:IsPart vu hi)(hw:¬ (sIx items.size 0 lo=0/\sIx items.size items.size hi=items.size))(h:Q (.ref s.heap.objs.size) { s with heap:=s.heap.push { cls:=.type "tuple",data:=.seq ((items.toList.drop (sIx items.size 0 lo)).take (sIx items.size items.size hi-sIx items.size 0 lo)).toArray } })(hsz:items.size<=sizeLine):wpAny (model prog w) A (getItem (.ref t) (.ref sl)) Q E s:=by
 have f7:sizeOk (.seq ((items.toList.drop (sIx items.size 0 lo)).take (sIx items.size items.size hi-sIx items.size 0 lo)).toArray):=by
  show ((items.toList.drop (sIx items.size 0 lo)).take (sIx items.size items.size hi-sIx items.size 0 lo)).toArray.size<=sizeLine;rw [J8,L4,y4,dP];lia
 have hj:sIx items.size items.size hi<=items.size:=sIx_le _ _ (C3 _) hi;obtain ⟨os,iC,sQ,eV⟩:=id hs;have hTs:s.TypeIs (.ref sl) "slice":=⟨os,iC,sQ⟩
 unfold getItem
 try with_reducible refine wpAny_holding ?_
 first | refine wpAny_bind (wpAny_pure ?_) | skip
 refine wpAny_bind (wpAny_sequenceKey ht.typeIs (by decide) ?_);refine wpAny_bind (wpAny_callSpecial?_slot (name:=Str.ofString "__getitem__") ht.typeIs PyProof.Rows.slot_tuple_getitem
  (wpAny_call_entry PyProof.Rows.slot_tuple_getitem ht.typeIs entry_tuple_getitem ?_ (args_tuple_getitem _ _)))
 show wpAny _ _ (Builtin.Tuple.tupleItemsOf (.ref t) >>= _) _ _ s;refine wpAny_bind (tupleItemsOf_ ht ?_);refine wpAny_bind (wpAny_typeOf hTs ?_);rw [if_pos (by decide)];refine wpAny_bind (sliceApplied_gen hs pl pu ?_);have iD:¬ ((((sIx items.size 0 lo:Nat):Int)==0&&(1:Int)==1&&(sIx items.size items.size hi-sIx items.size 0 lo)==items.size)=true):=by
  intro q;rw [Z5,Z5] at q;have q1:((sIx items.size 0 lo:Nat):Int)=0:=eq_of_beq q.1.1;have q2:sIx items.size items.size hi-sIx items.size 0 lo=items.size:=eq_of_beq q.2;exact hw ⟨by lia,by lia⟩
 show wpAny _ _ (if (((sIx items.size 0 lo:Nat):Int)==0&&(1:Int)==1&&(sIx items.size items.size hi-sIx items.size 0 lo)==items.size)=true then _ else _) _ _ s;rw [if_neg iD,alh]
 first
  | exact wpAny_bind (m:=Builtin.Tuple.tupleExact _) (wpAny_newObj_type (wpAny_pure ⟨_,rfl,wpAny_pure h⟩) f7)
  | exact wpAny_bind (m:=Builtin.Tuple.tupleExact _) (wpAny_newObj_type (wpAny_bind (wpAny_pure (wpAny_pure ⟨_,rfl,wpAny_pure h⟩))) f7)
  | exact wpAny_bind (wpAny_bind (m:=Builtin.Tuple.tupleExact _) (wpAny_newObj_type (wpAny_pure (wpAny_pure ⟨_,rfl,wpAny_pure h⟩)) f7))
  | exact wpAny_bind (wpAny_bind (m:=Builtin.Tuple.tupleExact _) (wpAny_newObj_type (wpAny_pure ⟨_,rfl,wpAny_pure h⟩) f7))
end
end HT
namespace L2
open PySem PySem.Spec PyProof.Rows
noncomputable abbrev TO:=St->Hp->(Option Int->Hp->Prop)->Prop
noncomputable def PO (X:Cx) (e:Option Expr) (t:TO):Prop:=
 ∀ (pins:List (Addr×Obj)) (s:Shared) (Y:St) (H:Hp) (Q:Option Int->Hp->Prop),Inv X pins Y H s->t Y H Q->
  wpAny (model X.prog X.w) X.A (evalPart e X.env) (fun u s'=>∃ o H',Inv X pins Y H' s'/\IsPart u o/\Q o H') X.xe s
noncomputable def uG:TO:=fun _ H Q=>Q none H
noncomputable def tPart (t:TE):TO:=fun Y H Q=>t Y H fun x H1=>∃ i,x=.int i/\Q (some i) H1
theorem qA : ∀ {us:List Value},Vals (ns.map V.int) us->IntsAre us ns:=by
 induction ns with
 | nil=>intro us r;rw [List.map_nil] at r;cases r;exact .nil
 | cons n ns ih=>
  intro us r;rw [E6] at r
  cases r with
  | cons r1 r2=>
   obtain ⟨t,e⟩:=r1;subst e;exact .cons n t (ih r2)
section
variable {X:Cx} {e:Expr} {te:TE} {lo hi:Option Expr} {tl th:TO} {pos p2:Pos}
theorem anw:PO X none uG:=by
 intro pins s Y H Q I h;rw [evalPart_none];exact wpAny_pure ⟨none,H,I,.none,h⟩
theorem anx(h:PE X e te):PO X (some e) (tPart te):=by
 intro pins s Y H Q I hw;rw [evalPart_some];refine A9 (h pins s Y H _ I hw) fun u s1 ⟨x,H1,I1,r1,q1⟩=>?_
 obtain ⟨i,rfl,q⟩:=q1;obtain ⟨t,rfl⟩:=r1;exact ⟨some i,H1,I1,.int i t,q⟩
noncomputable def jS (X:Cx) (r:V->Option Int->Option Int->Hp->VK->Prop):Prop:=
 ∀ (pins:List (Addr×Obj)) (s:Shared) (Y:St) (H:Hp) (x:V) (v vl vu:Value) (lo hi:Option Int) (sl:Addr) (Q:VK),Inv X pins Y H s->RelV x v->s.heap.IsSliceOf sl vl vu .none->IsPart vl lo->IsPart vu hi->r x lo hi H Q->
  ∃ T id,typeLookup (.type T) "__getitem__"=pure (some (.builtin id))/\s.TypeIs v T/\wpAny (model X.prog X.w) X.A (getItem v (.ref sl)) (EP X pins Y Q) X.xe s
noncomputable def uH (r:V->Option Int->Option Int->Hp->VK->Prop) (te:TE) (tl th:TO):TE:=fun Y H Q=>te Y H fun x H1=>tl Y H1 fun l H2=>th Y H2 fun u H3=>r x l u H3 Q
theorem ali{r:V->Option Int->Option Int->Hp->VK->Prop}(hr:jS X r)(he:PE X e te)(hl:PO X lo tl)(hu:PO X hi th):PE X (.Subscript e (.Slice lo hi none p2) pos) (uH r te tl th):=by
 intro pins s Y H Q I h;refine Subscript_ (A9 (he pins s Y H _ I h) fun v s1 ⟨x,H1,I1,r1,q1⟩=>?_);refine wpAny_Slice (A9 (hl pins s1 Y H1 _ I1 q1) fun vl s2 ⟨l,H2,I2,pl,q2⟩=>A9 (hu pins s2 Y H2 _ I2 q2) fun vu s3 ⟨u,H3,I3,pu,q3⟩=>?_);rw [evalPart_none];refine wpAny_pure ?_;have I4:Inv X pins Y H3 { s3 with heap:=s3.heap.push { cls:=.type "slice",data:=.fields #[vl,vu,.none] } }:=I3.kept (t':=s3.toks) fun b ob q=>Heap.get?_push_of_some _ q
 obtain ⟨T,id,hT,ht,hg⟩:=hr pins { s3 with heap:=s3.heap.push { cls:=.type "slice",data:=.fields #[vl,vu,.none] } } Y H3 x v vl vu l u s3.heap.objs.size Q I4 r1 (Heap.IsSliceOf.new ..) pl pu q3;show wpAny (model X.prog X.w) X.A (subscriptTail e (.Slice lo hi none p2) v (.ref s3.heap.objs.size)) (EP X pins Y Q) X.xe { s3 with heap:=s3.heap.push { cls:=.type "slice",data:=.fields #[vl,vu,.none] } };exact tail_any (ops:=[.ref s3.heap.objs.size,v]) ht hT hg (by with_unfolding_all rfl)
noncomputable def cutV (xs:List V) (lo hi:Option Int):List V:=(xs.drop (HT.sIx xs.length 0 lo)).take (HT.sIx xs.length xs.length hi-HT.sIx xs.length 0 lo)
theorem aeh(xs:List V)(lo hi:Option Int):(cutV xs lo hi).length<=xs.length:=by
 unfold cutV;rw [L4,y4];lia
noncomputable def rSlT (K:PySem.W.Frag):V->Option Int->Option Int->Hp->VK->Prop:=fun x lo hi H Q=>∃ a xs,x=.ref a/\B1 K H a xs/\
 ¬ (HT.sIx xs.length 0 lo=0/\HT.sIx xs.length xs.length hi=xs.length)/\∀ p,H p=none->Q (.ref p) (A0 H p (.tup (cutV xs lo hi)))
theorem aqm:jS X (rSlT X.K):=by
 intro pins s Y H x v vl vu lo hi sl Q I rx hs pl pu h;obtain ⟨a,xs,rfl,hx,hw,q⟩:=h
 cases rx
 obtain ⟨its,r,ht,hz⟩:=I.tuple hx;have A8:its.toArray.size=xs.length:=by rw [J8];exact r.length.symm
 refine ⟨"tuple",_,PyProof.Rows.slot_tuple_getitem.lookup,ht.typeIs,?_⟩;refine HT.getItem_tuple_cut ht hs pl pu (by rw [A8];exact hw) ?_ (by rw [A8];exact hz);rw [A8];refine ⟨.ref s.heap.objs.size,_,I.laid (t':=s.toks) (o:=.tup (cutV xs lo hi)) (fun b ob q=>Heap.get?_push_of_some _ q) (C3 _) ?_,rfl,q _ (I.hok.fresh (C3 _))⟩;exact ⟨N4 (aeh xs lo hi) hz,_,(r.drop (HT.sIx xs.length 0 lo)).take (HT.sIx xs.length xs.length hi-HT.sIx xs.length 0 lo),IsTup.new _ _⟩
noncomputable def rCatT (K:PySem.W.Frag):R2:=fun x y H Q=>∃ a b xs ys,x=.ref a/\y=.ref b/\B1 K H a xs/\B1 K H b ys/\xs≠[]/\xs.length+ys.length<=sizeLine/\
 (ys=[]->Q (.ref a) H)/\(ys≠[]->∀ p,H p=none->Q (.ref p) (A0 H p (.tup (xs++ys))))
theorem Vals.nil_iff(r:Vals xs us):us=[]↔xs=[]:=by
 cases r with
 | nil=>simp
 | cons _ _=>simp
theorem anz:G6 X (binaryOp .Add) (rCatT X.K):=by
 intro pins s Y H x y v u Q I rx ry h;obtain ⟨a,b,xs,ys,rfl,rfl,ha,hb,hx,hz,q1,q2⟩:=h
 cases rx
 cases ry
 obtain ⟨its,r1,p1,_⟩:=I.tuple ha;obtain ⟨its2,r2,p2,_⟩:=I.tuple hb;refine HT.cat_tup p1 p2 (fun z=>hx (r1.nil_iff.mp z)) (fun z=>⟨.ref a,H,I,rfl,q1 (r2.nil_iff.mp z)⟩) (fun z=>?_) (by rw [<- r1.length,<- r2.length];exact hz);refine ⟨.ref s.heap.objs.size,_,I.laid (t':=s.toks) (o:=.tup (xs++ys)) (fun b ob q=>Heap.get?_push_of_some _ q) (C3 _) ?_,rfl,q2 (fun w=>z (r2.nil_iff.mpr w)) _ (I.hok.fresh (C3 _))⟩;exact ⟨by rw [D7];exact hz,_,r1.append r2,IsTup.new _ _⟩
end
end L2
namespace L2
open PySem PySem.Spec PyProof.Rows
noncomputable def X3 (n:Nat) (i:Int):Option Nat:=if 0<=i then (if i<n then some i.toNat else none) else if -(n:Int)<=i then some (i+n).toNat else none
noncomputable def G2 {α:Type} (xs:List α) (i:Int):Option α:=(X3 xs.length i).bind fun j=>xs[j]?
theorem ajv{i:Int}(h:X3 n i=some j):seqIndex? i n=some j/\j<n/\-(n:Int)<=i/\i<n:=by
 unfold X3 at h
 by_cases h0:0<=i
 .rw [if_pos h0] at h
  by_cases h1:i<n
  .rw [if_pos h1] at h;have e:i.toNat=j:=Option.some.inj h;exact ⟨by rw [seqIndex_of h0 h1,e],by lia,by lia,h1⟩
  .rw [if_neg h1] at h;cases h
 .rw [if_neg h0] at h
  by_cases h1:-(n:Int)<=i
  .rw [if_pos h1] at h;have e:(i+n).toNat=j:=Option.some.inj h;exact ⟨by rw [seqIndex_neg (by lia) h1,e],by lia,h1,by lia⟩
  .rw [if_neg h1] at h;cases h
theorem uI{α:Type}{xs:List α}{i:Int}{v:α}(h:G2 xs i=some v):∃ j,seqIndex? i xs.length=some j/\xs[j]?=some v/\j<xs.length/\-(xs.length:Int)<=i/\i<xs.length:=by
 unfold G2 at h;cases e:X3 xs.length i with
 | none=>rw [e] at h;cases h
 | some j=>
  rw [e] at h;obtain ⟨h1,h2,h3,h4⟩:=ajv e;exact ⟨j,h1,h,h2,h3,h4⟩
theorem K9{α:Type}{xs:List α}{v:α}(h:xs[j]?=some v):G2 xs (j:Int)=some v:=by
 have hj:j<xs.length:=(E9.mp h).1;have e:X3 xs.length (j:Int)=some j:=by
  unfold X3;rw [if_pos (by lia),if_pos (by lia)];simp
 unfold G2;rw [e];exact h
theorem alj{α:Type}(xs:List α)(v:α):G2 (xs++[v]) (-1)=some v:=by
 have hl:(xs++[v]).length=xs.length+1:=by simp
 have e:X3 (xs++[v]).length (-1)=some xs.length:=by
  unfold X3;rw [hl,if_neg (by decide),if_pos (by lia)]
  congr 1
  lia
 unfold G2;rw [e];show (xs++[v])[xs.length]?=some v
 simp
noncomputable def ajw (b:Expr):Prop:=∀ o i,subscripted b false o i=operate [o,i] (getItem o i)
noncomputable def bR (X:Cx) (r:R2):Prop:=
 ∀ (value slice:Expr) (pins:List (Addr×Obj)) (s:Shared) (Y:St) (H:Hp) (x y:V) (v u:Value) (Q:VK),Inv X pins Y H s->RelV x v->RelV y u->r x y H Q->
  subscripted slice false v u=operate [v,u] (getItem v u)->wpAny (model X.prog X.w) X.A (subscriptTail value slice v u) (EP X pins Y Q) X.xe s
noncomputable def qB (X:Cx) (id:String) (r:V->List V->Hp->VK->Prop):Prop:=
 ∀ (pins:List (Addr×Obj)) (s:Shared) (Y:St) (H:Hp) (x:V) (xs:List V) (v:Value) (us:List Value) (Q:VK),Inv X pins Y H s->RelV x v->Vals xs us->r x xs H Q->
  wpAny (model X.prog X.w) X.A (call (.builtin id) (v::us)) (EP X pins Y Q) X.xe s
section
variable {X:Cx} {a b:Expr} {ta tb:TE} {pos:Pos}
theorem bR.or{r r':R2}(h:bR X r)(h':bR X r'):bR X (fun x y H Q=>r x y H Q\/r' x y H Q):=by
 intro value slice pins s Y H x y v u Q I rx ry q hs
 rcases q with q | q
 .exact h value slice pins s Y H x y v u Q I rx ry q hs
 .exact h' value slice pins s Y H x y v u Q I rx ry q hs
theorem pe_ix{r:R2}(hr:bR X r)(ha:PE X a ta)(hb:PE X b tb)(hs:ajw b):PE X (.Subscript a b pos) (bQ r ta tb):=by
 intro pins s Y H Q I h;exact Subscript_ (binT ha hb I h fun v u s2 x y H2 I2 rx ry q=>hr a b pins s2 Y H2 x y v u Q I2 rx ry q (hs _ _))
noncomputable def rIxL (K:PySem.W.Frag):R2:=fun x y H Q=>∃ p xs i v,x=.ref p/\y=.int i/\D0 K H p xs/\G2 xs i=some v/\Q v H
noncomputable def rIxT (K:PySem.W.Frag):R2:=fun x y H Q=>∃ p xs i v,x=.ref p/\y=.int i/\B1 K H p xs/\G2 xs i=some v/\Q v H
noncomputable def rIxS:R2:=fun x y H Q=>∃ z i c,x=.str z/\y=.int i/\z.length<=sizeLine/\G2 z.cps.toList i=some c/\Q (.str ⟨#[c]⟩) H
theorem ix_list:bR X (rIxL X.K):=by
 intro value slice pins s Y H x y v u Q I rx ry h hs;obtain ⟨p,xs,i,z,rfl,rfl,hq,he,q⟩:=h
 cases rx
 obtain ⟨t,rfl⟩:=ry;obtain ⟨its,r,pl,hz⟩:=I.list hq;obtain ⟨j,h1,h2,h3,h4,h5⟩:=uI he;obtain ⟨w,ew,rw'⟩:=r.get h2;have hl:=r.length;have hn:=jR;have fin:EP X pins Y Q w s:=⟨z,H,I,rw',q⟩
 by_cases h0:0<=i
 .have hj:i.toNat=j:=by
   rw [seqIndex_of h0 h5] at h1;exact Option.some.inj h1
  exact item_listR pl.isList h0 (by lia) (by rw [hj];simpa using ew) fin hs
 .have hj:(i+(its.toArray.size:Int)).toNat=j:=by
   rw [seqIndex_neg (by lia) h4] at h1;rw [J8,<- hl];exact Option.some.inj h1
  exact subscriptTail_builtinR (x:=w) pl.isList.typeIs slot_list_getitem.lookup
   (wpAny_getItem_list_neg (Q:=fun r s'=>r=w/\EP X pins Y Q r s') pl.isList (by lia) (by rw [J8] <;> lia) (by lia) (by rw [hj];simpa using ew) ⟨rfl,fin⟩) hs
theorem ix_tup:bR X (rIxT X.K):=by
 intro value slice pins s Y H x y v u Q I rx ry h hs;obtain ⟨p,xs,i,z,rfl,rfl,hq,he,q⟩:=h
 cases rx
 obtain ⟨t,rfl⟩:=ry;obtain ⟨its,r,pl,hz⟩:=I.tuple hq;obtain ⟨j,h1,h2,h3,h4,h5⟩:=uI he;obtain ⟨w,ew,rw'⟩:=r.get h2;have hl:=r.length;have hn:=jR;have fin:EP X pins Y Q w s:=⟨z,H,I,rw',q⟩
 exact subscriptTail_builtinR (x:=w) pl.typeIs slot_tuple_getitem.lookup
  (getItem_tuple (j:=j) (Q:=fun r s'=>r=w/\EP X pins Y Q r s') pl (by lia) (by lia) (by rw [J8,<- hl];exact h1) (by simpa using ew) ⟨rfl,fin⟩) hs
theorem aqn:bR X rIxS:=by
 intro value slice pins s Y H x y v u Q I rx ry h hs;obtain ⟨z,i,c,rfl,rfl,hz,he,q⟩:=h;obtain ⟨t,rfl⟩:=rx;obtain ⟨t',rfl⟩:=ry;obtain ⟨j,h1,h2,h3,h4,h5⟩:=uI he;have hl:z.cps.toList.length=z.length:=by simp [Str.length]
 rw [hl] at h1 h4 h5;have hn:=jR;exact tail_any (typeIs_str s z t) slot_str_getitem.lookup (getItem_str (c:=c) (by
  have e1:decide (i < -(2 ^ 63:Int))=false:=decide_eq_false (by lia);have e2:decide (i≥2 ^ 63)=false:=decide_eq_false (by lia);rw [e1,e2,Bool.or_false]) (by rw [h1];simpa using h2) ⟨.str ⟨#[c]⟩,H,I.tok _,⟨_,rfl⟩,q⟩) hs
noncomputable def jT (K:PySem.W.Frag):R2:=fun x y H Q=>rIxL K x y H Q\/rIxT K x y H Q\/rIxS x y H Q
theorem aqo:bR X (jT X.K):=ix_list.or (ix_tup.or aqn)
theorem aiA(its:List Value)(n j:Nat)(u:Value):Obj.mapSeq (·.setIfInBounds j u) { cls:=.type "list",data:=.seq its.toArray n }={ cls:=.type "list",data:=.seq (its.set j u).toArray n }:=by
 simp [Obj.mapSeq]
theorem Inv.lst(I:Inv X pins Y H s)(h:H p=some (.lst xs)) :
  ∃ (its:List Value) (n:Nat),Vals xs its/\s.heap.get? p=some { cls:=.type "list",data:=.seq its.toArray n }/\xs.length<=sizeLine:=by
 obtain ⟨z,its,n,r,e⟩:=I.hok p _ h;exact ⟨its,n,r,e,z⟩
theorem Inv.lstUpd{n':Nat}{f:Obj->Obj}(I:Inv X pins Y H s)(h:H p=some (.lst xs))(ho:s.heap.get? p=some { cls:=.type "list",data:=.seq its.toArray n })(hf:f { cls:=.type "list",data:=.seq its.toArray n }={ cls:=.type "list",data:=.seq its'.toArray n' })(r:Vals ys its')(hz:ys.length<=sizeLine)(t:Nat) :
  Inv X pins Y (A0 H p (.lst ys)) { s with heap:=s.heap.update p f,toks:=t }:=by
 have e:(s.heap.update p f).get? p=some { cls:=.type "list",data:=.seq its'.toArray n' }:=by
  rw [Heap.get?_update_self f ho (by rw [hf] <;> rfl),hf]
 refine I.write (x:=p) (e:=p) (by rw [h];trivial) (.inl rfl) (fun b u hb q=>(Heap.get?_update_other _ _ (Ne.symm hb)).trans q) ⟨_,e⟩ ?_;exact ⟨hz,its',n',r,e⟩
noncomputable def rSetL:V->V->V->Hp->(Hp->Prop)->Prop:=fun o i v H Q=>∃ p xs k j,o=.ref p/\i=.int k/\H p=some (.lst xs)/\X3 xs.length k=some j/\Q (A0 H p (.lst (xs.set j v)))
theorem alk:PSet X rSetL:=by
 intro pins s Y H o i v ov iv u Q I ro ri rv h;obtain ⟨p,xs,k,j,rfl,rfl,hp,hj,q⟩:=h
 cases ro
 obtain ⟨t,rfl⟩:=ri;obtain ⟨its,n,r,ho,hz⟩:=I.lst hp;obtain ⟨h1,h2,h3,h4⟩:=ajv hj;have hl:=r.length;have hn:=jR;have I':Inv X pins Y (A0 H p (.lst (xs.set j v))) { s with heap:=s.heap.update p (Obj.mapSeq (·.setIfInBounds j u)) }:=
  I.lstUpd hp ho (aiA its n j u) (r.set rv j) (by rw [List.length_set];exact hz) s.toks
 by_cases h0:0<=k
 .have hk:k.toNat=j:=by
   rw [seqIndex_of h0 h4] at h1;exact Option.some.inj h1
  exact PySem.W.ki_setAt ho h0 (by lia) (by rw [J8,<- hl];exact h4) (by rw [hk];exact ⟨_,I',q⟩)
 .have hk:(k+(its.toArray.size:Int)).toNat=j:=by
   rw [seqIndex_neg (by lia) h3] at h1;rw [J8,<- hl];exact Option.some.inj h1
  exact PySem.W.ki_setBack ho (by lia) (by rw [J8,<- hl];exact h3) (by lia) (by rw [hk];exact ⟨_,I',q⟩)
theorem afZ(lo hi:Option Int)(n:Nat):(sliceBounds lo hi none n).1=((HT.sIx n 0 lo:Nat):Int)/\(sliceBounds lo hi none n).2.1=((HT.sIx n n hi:Nat):Int)/\(sliceBounds lo hi none n).2.2=1:=by
 refine ⟨?_,?_,rfl⟩
 .cases lo with
  | none=>simp [sliceBounds,HT.sIx]
  | some i=>
   simp only [sliceBounds,HT.sIx,Option.getD_none,show (1:Int) > 0 by decide,if_true]
   by_cases h:i<0
   .simp only [h,if_true] <;> lia
   .simp only [h,if_false] <;> lia
 .cases hi with
  | none=>simp [sliceBounds,HT.sIx]
  | some i=>
   simp only [sliceBounds,HT.sIx,Option.getD_none,show (1:Int) > 0 by decide,if_true]
   by_cases h:i<0
   .simp only [h,if_true] <;> lia
   .simp only [h,if_false] <;> lia
theorem aft(its:List Value)(lo hi:Option Int):slicePick its.toArray lo hi none=((its.drop (HT.sIx its.length 0 lo)).take (HT.sIx its.length its.length hi-HT.sIx its.length 0 lo)).toArray:=by
 obtain ⟨h1,h2,h3⟩:=afZ lo hi its.toArray.size;unfold slicePick;rw [h1,h2,h3];simp only [sliceRange_one,pick_run,J8] <;> rfl
noncomputable def rSlL (K:PySem.W.Frag):V->Option Int->Option Int->Hp->VK->Prop:=fun x lo hi H Q=>∃ a xs,x=.ref a/\D0 K H a xs/\∀ p,H p=none->Q (.ref p) (A0 H p (.lst (cutV xs lo hi)))
theorem anA:jS X (rSlL X.K):=by
 intro pins s Y H x v vl vu lo hi sl Q I rx hs pl pu h;obtain ⟨a,xs,rfl,hx,q⟩:=h
 cases rx
 obtain ⟨its,r,ht,hz⟩:=I.list hx;have A8:=r.length;refine ⟨"list",_,slot_list_getitem.lookup,ht.isList.typeIs,?_⟩;refine wpAny_getItem_list_slice ht.isList hs pl pu .none (by simp) ?_ (by rw [J8] <;> lia);rw [aft,<- A8];refine ⟨.ref s.heap.objs.size,_,I.laid (t':=s.toks) (o:=.lst (cutV xs lo hi)) (fun b ob q=>Heap.get?_push_of_some _ q) (C3 _) ?_,rfl,q _ (I.hok.fresh (C3 _))⟩;exact ⟨N4 (aeh xs lo hi) hz,_,0,(r.drop (HT.sIx xs.length 0 lo)).take (HT.sIx xs.length xs.length hi-HT.sIx xs.length 0 lo),Heap.get?_push_size _ rfl⟩
noncomputable def flatV:V->Bool
 | .non=>true
 | .bl _=>true
 | .int _=>true
 | .str _=>true
 | _=>false
noncomputable def dR:V->V->Bool
 | .non,.non=>true
 | .bl a,.bl b=>a==b
 | .bl a,.int b=>(if a then 1 else 0)==b
 | .int a,.bl b=>a==(if b then 1 else 0)
 | .int a,.int b=>a==b
 | .str a,.str b=>a==b
 | _,_=>false
theorem aqp{y:V}{v:Value}(ry:RelV y u)(rx:RelV x v)(fy:flatV y=true)(fx:flatV x=true):SeqAt.EqAt A s u v (dR y x):=by
 cases y with
 | non=>
  cases ry
  cases x with
  | non=>cases rx;exact SeqAt.EqAt.same _
  | bl b=>cases rx;exact SeqAt.EqAt.none_bool b
  | int b=>obtain ⟨t,rfl⟩:=rx;exact SeqAt.EqAt.none_int b t
  | str b=>obtain ⟨t,rfl⟩:=rx;exact SeqAt.EqAt.none_str b t
  | _=>exact absurd (show false=true from fx) L5
 | bl a=>
  cases ry
  cases x with
  | non=>cases rx;exact SeqAt.EqAt.bool_none a
  | bl b=>cases rx;exact SeqAt.EqAt.bool_bool a b
  | int b=>obtain ⟨t,rfl⟩:=rx;exact SeqAt.EqAt.bool_int a b t
  | str b=>obtain ⟨t,rfl⟩:=rx;exact SeqAt.EqAt.bool_str a b t
  | _=>exact absurd (show false=true from fx) L5
 | int a=>
  obtain ⟨t',rfl⟩:=ry
  cases x with
  | non=>cases rx;exact SeqAt.EqAt.int_none a t'
  | bl b=>cases rx;exact SeqAt.EqAt.int_bool a t' b
  | int b=>obtain ⟨t,rfl⟩:=rx;exact SeqAt.EqAt.int_int a t' b t
  | str b=>obtain ⟨t,rfl⟩:=rx;exact SeqAt.EqAt.int_str a t' b t
  | _=>exact absurd (show false=true from fx) L5
 | str a=>
  obtain ⟨t',rfl⟩:=ry
  cases x with
  | non=>cases rx;exact SeqAt.EqAt.str_none a t'
  | bl b=>cases rx;exact SeqAt.EqAt.str_bool a t' b
  | int b=>obtain ⟨t,rfl⟩:=rx;exact SeqAt.EqAt.str_int a t' b t
  | str b=>obtain ⟨t,rfl⟩:=rx;exact SeqAt.EqAt.str_str a t' b t
  | _=>exact absurd (show false=true from fx) L5
 | _=>exact absurd (show false=true from fy) L5
noncomputable def Y6 (x:V) (u:Value):Bool:=match u with
 | .none=>dR .non x
 | .bool b=>dR (.bl b) x
 | .int i _=>dR (.int i) x
 | .str z _=>dR (.str z) x
 | _=>false
theorem amD{y:V}(r:RelV y u)(f:flatV y=true):Y6 x u=dR y x:=by
 cases y with
 | non=>cases r;rfl
 | bl b=>cases r;rfl
 | int i=>obtain ⟨t,rfl⟩:=r;rfl
 | str z=>obtain ⟨t,rfl⟩:=r;rfl
 | _=>exact absurd (show false=true from f) L5
theorem mO : ∀ {xs:List V} {us:List Value},Vals xs us->xs.all flatV=true->us.any (Y6 x)=xs.any fun y=>dR y x
 | _,_,.nil,_=>rfl
 | y::xs,u::us,.cons r t,f=>by
  rw [List.all_cons,Z5] at f;rw [y7,y7,amD r f.1,mO t f.2]
theorem mP{v:Value}(rx:RelV x v)(fx:flatV x=true):∀ {xs:List V} {us:List Value},Vals xs us->xs.all flatV=true->∀ u∈us,SeqAt.EqAt A s u v (Y6 x u)
 | _,_,.nil,_=>fun u hu=>by cases hu
 | y::xs,u::us,.cons r t,f=>fun u' hu=>by
  rw [List.all_cons,Z5] at f
  rcases K0.mp hu with rfl | hu
  .rw [amD r f.1];exact aqp r rx f.1 fx
  .exact mP rx fx t f.2 u' hu
noncomputable def bS (x:V) (xs:List V):Bool:=xs.any fun y=>dR y x
noncomputable def uJ (K:PySem.W.Frag) (neg:Bool):R2:=fun x y H Q=>∃ p xs,y=.ref p/\(D0 K H p xs\/B1 K H p xs)/\flatV x=true/\xs.all flatV=true/\Q (.bl (if neg then !bS x xs else bS x xs)) H
theorem ajx:G6 X (compareOp .In) (uJ X.K false):=by
 intro pins s Y H x y v u Q I rx ry h;obtain ⟨p,xs,rfl,hq,fx,fs,q⟩:=h
 cases ry
 rcases hq with hq | hq
 .obtain ⟨its,r,pl,hz⟩:=I.list hq;refine SeqAt.in_listAt (Y6 x) pl.isList (fun w hw=>mP rx fx r fs w (by simpa using hw)) ⟨.bl _,H,I,rfl,?_⟩;rw [show its.toArray.any (Y6 x)=its.any (Y6 x) by simp,mO r fs];exact q
 .obtain ⟨its,r,pl,hz⟩:=I.tuple hq;refine SeqAt.in_tupleAt (Y6 x) pl (fun w hw=>mP rx fx r fs w (by simpa using hw)) ⟨.bl _,H,I,rfl,?_⟩;rw [show its.toArray.any (Y6 x)=its.any (Y6 x) by simp,mO r fs];exact q
theorem af0:G6 X (compareOp .NotIn) (uJ X.K true):=by
 intro pins s Y H x y v u Q I rx ry h;obtain ⟨p,xs,rfl,hq,fx,fs,q⟩:=h
 cases ry
 rcases hq with hq | hq
 .obtain ⟨its,r,pl,hz⟩:=I.list hq;refine SeqAt.notIn_listAt (Y6 x) pl.isList (fun w hw=>mP rx fx r fs w (by simpa using hw)) ⟨.bl _,H,I,rfl,?_⟩;rw [show its.toArray.any (Y6 x)=its.any (Y6 x) by simp,mO r fs];exact q
 .obtain ⟨its,r,pl,hz⟩:=I.tuple hq;refine SeqAt.notIn_tupleAt (Y6 x) pl (fun w hw=>mP rx fx r fs w (by simpa using hw)) ⟨.bl _,H,I,rfl,?_⟩;rw [show its.toArray.any (Y6 x)=its.any (Y6 x) by simp,mO r fs];exact q
theorem af1:G6 X (compareOp .NotIn) (fun x y H Q=>∃ i j,x=.str i/\y=.str j/\Q (.bl (!(!(Builtin.Str.occurrences j i 0 j.length 1).isEmpty))) H):=by
 intro pins s Y H x y v u Q I rx ry h;obtain ⟨i,j,rfl,rfl,q⟩:=h;obtain ⟨t,rfl⟩:=rx;obtain ⟨t',rfl⟩:=ry;exact notIn_str ⟨.bl _,H,I,rfl,q⟩
theorem af2:CallR X (.type "list") (fun xs H Q=>∃ p ys,xs=[.ref p]/\(D0 X.K H p ys\/B1 X.K H p ys)/\∀ l,H l=none->Q (.ref l) (A0 H l (.lst ys))):=by
 intro pins s Y H xs us Q I r h;obtain ⟨p,ys,rfl,hq,q⟩:=h;obtain ⟨u,rfl,rx⟩:=vals1 r
 cases rx
 have fin:∀ (its:List Value),Vals ys its->ys.length<=sizeLine->∀ (h':Heap) (c':Nat),(∀ b o',s.heap.get? b=some o'->h'.get? b=some o')->
   h'.get? s.heap.objs.size=some { cls:=.type "list",dict:=none,data:=.seq its.toArray c',slots:=#[] }->EP X pins Y Q (.ref s.heap.objs.size) { s with heap:=h' }:=fun its r' hz h' c' kp e=>
  ⟨.ref s.heap.objs.size,_,I.laid (t':=s.toks) kp (C3 _) (show ObjOk X.prog X.w _ h' _ (.lst ys) from ⟨hz,its,c',r',e⟩),rfl,q _ (I.hok.fresh (C3 _))⟩
 rcases hq with hq | hq
 .obtain ⟨its,r',pl,hz⟩:=I.list hq;have A8:=r'.length;obtain ⟨o,ho,hc,n,hd⟩:=pl.isList;exact call_list_seq p (.inl rfl) ho hc hd (fun h' c' kp e=>fin its r' hz h' c' kp e) (by simp only [J8] <;> lia)
 .obtain ⟨its,r',pl,hz⟩:=I.tuple hq;have A8:=r'.length;obtain ⟨o,ho,hc,n,hd⟩:=pl;exact call_list_seq p (.inr rfl) ho hc hd (fun h' c' kp e=>fin its r' hz h' c' kp e) (by simp only [J8] <;> lia)
theorem afu:CallR X (.type "tuple") (fun xs H Q=>∃ p ys,xs=[.ref p]/\((D0 X.K H p ys/\∀ l,H l=none->Q (.ref l) (A0 H l (.tup ys)))\/(B1 X.K H p ys/\Q (.ref p) H))):=by
 intro pins s Y H xs us Q I r h;obtain ⟨p,ys,rfl,h⟩:=h;obtain ⟨u,rfl,rx⟩:=vals1 r
 cases rx
 rcases h with ⟨hq,q⟩ | ⟨hq,q⟩
 .obtain ⟨its,r',pl,hz⟩:=I.list hq;have A8:=r'.length;refine call_tuple_list pl.isList (fun h' kp=>?_) (by simp only [J8] <;> lia);have I1:Inv X pins Y H { s with heap:=h' }:=I.kept (t':=s.toks) kp;have I2:Inv X pins Y (A0 H h'.objs.size (.tup ys)) { s with heap:=h'.push { cls:=.type "tuple",data:=.seq its.toArray } }:=
   I1.laid (t':=s.toks) (fun b o e=>Heap.get?_push_of_some _ e) (C3 _) (show ObjOk X.prog X.w _ _ _ (.tup ys) from ⟨hz,its,r',IsTup.new _ _⟩)
  exact ⟨.ref h'.objs.size,_,I2,rfl,q _ (I1.hok.fresh (C3 _))⟩
 .obtain ⟨its,r',pl,hz⟩:=I.tuple hq;exact call_tuple_same pl ⟨.ref p,H,I,rfl,q⟩
noncomputable def dS (K:PySem.W.Frag) (T:String) (x:V) (H:Hp):Prop:=match x with
 | .str _=>T="str"
 | .int _=>T="int"
 | .ref p=>(T="list"/\∃ xs,D0 K H p xs)\/(T="tuple"/\∃ o,K.lookup p=some o/\o.cls=.type "tuple"/\o.dict=none)\/
   (T="dict"/\((∃ kvs,H p=some (.dK kvs))\/∃ kvs,H p=some (.dT kvs)))\/(T="set"/\∃ S n,H p=some (.set S n))
 | _=>False
theorem amE{T:String}{v:Value}(I:Inv X pins Y H s)(r:RelV x v)(ty:dS X.K T x H) :
  s.TypeIs v T/\∀ a,v=.ref a->∃ ob,s.heap.get? a=some ob/\ob.dict=none:=by
 cases x with
 | str z=>
  obtain ⟨t,rfl⟩:=r
  cases (show T="str" from ty)
  exact ⟨typeIs_str s z t,fun _ e=>nomatch e⟩
 | int i=>
  obtain ⟨t,rfl⟩:=r
  cases (show T="int" from ty)
  exact ⟨typeIs_int s i t,fun _ e=>nomatch e⟩
 | ref p=>
  cases r
  rcases ty with ⟨rfl,xs,hq⟩ | ⟨rfl,o,hk,hc,hd⟩ | ⟨rfl,hk⟩ | ⟨rfl,S,n,hk⟩
  .obtain ⟨its,_,pl,_⟩:=I.list hq;refine ⟨pl.isList.typeIs,fun a e=>?_⟩;cases e;obtain ⟨o,n,e,c,hd,_⟩:=pl;exact ⟨o,e,hd⟩
  .refine ⟨⟨o,I.kIn p o hk,hc⟩,fun a e=>?_⟩;cases e;exact ⟨o,I.kIn _ o hk,hd⟩
  .have z:∃ o,s.heap.get? p=some o/\o.ExactDict:=by
    rcases hk with ⟨kvs,hk⟩ | ⟨kvs,hk⟩
    .obtain ⟨_,_,_,_,o,_,_,e,ex,_⟩:=I.hok p _ hk;exact ⟨o,e,ex⟩
    .obtain ⟨_,_,_,_,o,_,_,e,ex,_⟩:=I.hok p _ hk;exact ⟨o,e,ex⟩
   obtain ⟨o,e,ex⟩:=z;refine ⟨⟨o,e,ex.1⟩,fun a e2=>?_⟩;cases e2;exact ⟨o,e,ex.2.1⟩
  .obtain ⟨o,_,_,_,e,ex,_⟩:=I.hok p _ hk;refine ⟨⟨o,e,ex.1⟩,fun a e2=>?_⟩;cases e2;exact ⟨o,e,ex.2.1⟩
 | _=>exact False.elim ty
noncomputable def tBM0 (K:PySem.W.Frag) (T:String) (r:V->List V->Hp->VK->Prop) (to:TE):TE:=fun Y H Q=>to Y H fun x H1=>dS K T x H1/\r x [] H1 Q
noncomputable def qC (K:PySem.W.Frag) (T:String) (r:V->List V->Hp->VK->Prop) (to:TE) (t:TA):TE:=fun Y H Q=>to Y H fun x H1=>dS K T x H1/\t Y H1 fun xs H2=>r x xs H2 Q
variable {o e:Expr} {es:List Expr} {to:TE} {t:TA} {name:Str} {apos cpos:Pos} {T id:String} {r:V->List V->Hp->VK->Prop}
theorem aqq(pa:PlainAttrs T)(slot:Slot T name id)(W4:typeOf (.builtin id)=pure (.type "method_descriptor"))(hm:qB X id r)(ho:PE X o to)(F8:attributeBase o name X.env (eval o X.env)=eval o X.env:=by rfl)(F9:(apos.endLine==cpos.line)=true:=by rfl):PE X (.Call (.Attribute o name apos) [] [] cpos) (tBM0 X.K T r to):=by
 intro pins s Y H Q I h;refine wpAny_Call_method0_late F8 F9 (A9 (ho pins s Y H _ I h) fun v s1 ⟨x,H1,I1,r1,ty,q1⟩=>?_);obtain ⟨h1,h2⟩:=amE I1 r1 ty;exact ⟨T,id,pa,slot,W4,h1,h2,Calls.callWith_builtin rfl (PySem.evalArgs_none (hm pins s1 Y H1 x [] v [] Q I1 r1 .nil q1))⟩
theorem pe_bm(pa:PlainAttrs T)(slot:Slot T name id)(W4:typeOf (.builtin id)=pure (.type "method_descriptor"))(hm:qB X id r)(ho:PE X o to)(ha:PA X (e::es) t)(F8:attributeBase o name X.env (eval o X.env)=eval o X.env:=by rfl)(cK:((backTo cpos (starEach (e::es) X.env)).all (fun x=>!x.1)&&(backToKw cpos (keywordEach [] X.env)).all (fun x=>x.1.isSome)
   && decide ((e::es).length+([]:List Keyword).length+(if ([]:List Keyword).isEmpty then 0 else 1)<30))=true:=by rfl)(F9:(apos.endLine==cpos.line)=true:=by rfl)(hs:starEach (e::es) X.env=(false,eval e X.env)::starEach es X.env:=by rfl)(hplain:(backTo cpos (starEach es X.env)).any (·.1)=false:=by rfl) :
  PE X (.Call (.Attribute o name apos) (e::es) [] cpos) (qC X.K T r to t):=by
 intro pins s Y H Q I h;refine wpAny_Call_method_late F8 cK F9 rfl (A9 (ho pins s Y H _ I h) fun v s1 ⟨x,H1,I1,r1,ty,q1⟩=>?_);obtain ⟨h1,h2⟩:=amE I1 r1 ty;refine ⟨T,id,pa,slot,W4,h1,h2,?_⟩;have hA:=ha cpos pins s1 Y H1 _ I1 q1;rw [hs] at hA ⊢
 refine Calls.callWith_builtin (by show (false || (backTo cpos (starEach es X.env)).any (·.1))=false;rw [hplain] <;> rfl) (Calls.evalArgs_plain ?_);exact A9 hA fun us s2 ⟨vs,H2,I2,r2,q2⟩=>hm pins s2 Y H2 x vs v us Q I2 r1 r2 q2
end
end L2
namespace L2
open PySem PySem.Spec PyProof.Rows
noncomputable def mQ (X:Cx) (id:String) (r:V->List V->Hp->VK->Prop):Prop:=
 ∀ (pins:List (Addr×Obj)) (s:Shared) (Y:St) (H:Hp) (x:V) (xs:List V) (v:Value) (us:List Value) (Q:VK),Inv X pins Y H s->RelV x v->Vals xs us->r x xs H Q->
  wpAny (model X.prog X.w) X.A (call (.builtin id) (v::us)) (EP X pins Y Q) X.xe s
theorem Vals.one:∀ {x:V} {us:List Value},Vals [x] us->∃ u,us=[u]/\RelV x u
 | _,_,.cons r .nil=>⟨_,rfl,r⟩
theorem Vals.zero:∀ {us:List Value},Vals [] us->us=[]
 | _,.nil=>rfl
theorem Vals.eraseIdx:∀ {xs:List V} {us:List Value} (i:Nat),Vals xs us->Vals (xs.eraseIdx i) (us.eraseIdx i)
 | _,_,_,.nil=>.nil
 | _,_,0,.cons _ t=>t
 | _,_,i+1,.cons r t=>.cons r (Vals.eraseIdx i t)
theorem Vals.reverse(h:Vals xs us):Vals xs.reverse us.reverse:=by
 induction h with
 | nil=>exact .nil
 | cons r t ih=>rw [jG,jG];exact Vals.append ih (.cons r .nil)
theorem Vals.rep(h:Vals xs us):∀ k:Nat,Vals (X1 k xs).flatten (X1 k us).flatten
 | 0=>.nil
 | k+1=>by
  rw [jD,jD,jH,jH];exact Vals.append h (Vals.rep h k)
theorem af3(its:List Value):∀ (k:Nat) (acc:List Value),
  List.foldl (fun x1 x2=>x1++x2) acc.toArray (X1 k its.toArray)=(acc++(X1 k its).flatten).toArray
 | 0,acc=>by simp
 | k+1,acc=>by
  have e:acc.toArray++its.toArray=(acc++its).toArray:=by simp
  have e2:(acc++its)++(X1 k its).flatten=acc++(X1 (k+1) its).flatten:=by
   rw [jD,jH,V9]
  rw [<- e2,<- af3 its k (acc++its),<- e,jD,jK]
section
variable {X:Cx} {pins:List (Addr×Obj)} {Y:St} {H:Hp} {s:Shared} {l b:Addr} {xs ys zs:List V}
theorem Inv.lset{f:Array Value->Array Value}(I:Inv X pins Y H s)(hH:H l=some (.lst xs))(e:s.heap.get? l=some { cls:=.type "list",data:=.seq its.toArray n })(hf:f its.toArray=its'.toArray)(hv:Vals ys its')(hz:ys.length<=sizeLine) :
  Inv X pins Y (A0 H l (.lst ys)) { s with heap:=s.heap.update l (Obj.mapSeq f),toks:=t' }:=by
 have q:=PySem.IsL.update e f;rw [hf] at q;refine I.write (x:=l) (e:=l) (by rw [hH];exact trivial) (.inl rfl) (fun b' u hb hu=>(Heap.get?_update_other s.heap (Obj.mapSeq f) (Ne.symm hb)).trans hu) ⟨_,q⟩ ?_;exact ⟨hz,its',_,hv,q⟩
theorem Inv.lnew(I:Inv X pins Y H s)(hv:Vals ys its)(hz:ys.length<=sizeLine) :
  Inv X pins Y (A0 H s.heap.objs.size (.lst ys)) { s with heap:=s.heap.push { cls:=.type "list",data:=.seq its.toArray },toks:=t' }:=
 I.laid (fun _ _ q=>Heap.get?_push_of_some _ q) (C3 _) ⟨hz,its,0,hv,Heap.get?_push_size _ rfl⟩
theorem Inv.fresh(I:Inv X pins Y H s):H s.heap.objs.size=none:=I.hok.fresh (C3 _)
theorem Inv.lstM(I:Inv X pins Y H s)(hH:H l=some (.lst xs)):xs.length<=sizeLine/\∃ (its:List Value) (n:Nat),Vals xs its/\xs.length=its.length/\s.heap.get? l=some { cls:=.type "list",data:=.seq its.toArray n }:=by
 obtain ⟨z,its,n,r,e⟩:=I.hok l _ hH;exact ⟨z,its,n,r,r.length,e⟩
theorem ahL(h:n<=sizeLine):Builtin.List.listTooLong n=false:=by
 unfold Builtin.List.listTooLong;exact decide_eq_false (by lia)
end
section
variable {X:Cx}
noncomputable def uK:V->List V->Hp->VK->Prop:=fun x vs H Q=>∃ l xs y,x=.ref l/\vs=[y]/\H l=some (.lst xs)/\xs.length<sizeLine/\Q .non (A0 H l (.lst (xs++[y])))
theorem af4:mQ X "list.append" uK:=by
 intro pins s Y H x vs v us Q I rx rv h;obtain ⟨l,xs,y,rfl,rfl,hH,hz,q⟩:=h
 cases rx
 obtain ⟨u,rfl,ru⟩:=rv.one;obtain ⟨z,its,n,r,hl,e⟩:=I.lstM hH;refine call_meets F.slot_list_append ⟨_,e,rfl⟩ F.entry_list_append (F.args_list_append_2 _ _) (PySem.list_append l its.toArray n u (by rw [J8];lia)) ⟨e,?_⟩;refine ⟨.non,_,I.lset (its':=its++[u]) hH e (by simp) (r.append (.cons ru .nil)) ?_,rfl,q⟩;rw [D7,Z0];lia
noncomputable def ahM:V->List V->Hp->VK->Prop:=fun x vs H Q=>∃ l xs,x=.ref l/\vs=[]/\H l=some (.lst xs)/\Q .non (A0 H l (.lst xs.reverse))
theorem aiB:mQ X "list.reverse" ahM:=by
 intro pins s Y H x vs v us Q I rx rv h;obtain ⟨l,xs,rfl,rfl,hH,q⟩:=h
 cases rx
 have hus:=rv.zero;subst hus;obtain ⟨z,its,n,r,hl,e⟩:=I.lstM hH;refine call_meets F.slot_list_reverse ⟨_,e,rfl⟩ F.entry_list_reverse (F.args_list_reverse_1 _) (AutoSeq1.list_reverse_list_0 l its.toArray n (by rw [J8];lia)) ⟨e,?_⟩;refine ⟨.non,_,I.lset (its':=its.reverse) hH e (by simp) r.reverse ?_,rfl,q⟩;rw [List.length_reverse];lia
noncomputable def rCat:R2:=fun x y H Q=>∃ l b xs zs,x=.ref l/\y=.ref b/\H l=some (.lst xs)/\H b=some (.lst zs)/\xs.length+zs.length<=sizeLine/\∀ p,H p=none->Q (.ref p) (A0 H p (.lst (xs++zs)))
theorem aqr:G6 X (binaryOp .Add) rCat:=by
 intro pins s Y H x y v u Q I rx ry h;obtain ⟨l,b,xs,zs,rfl,rfl,hH,hB,hz,q⟩:=h
 cases rx
 cases ry
 obtain ⟨z,its,n,r,hl,e⟩:=I.lstM hH;obtain ⟨z2,its2,n2,r2,f8,e2⟩:=I.lstM hB;refine PySem.P.add_list e e2 ?_ (by rw [J8,J8];lia);have ea:its.toArray++its2.toArray=(its++its2).toArray:=by simp
 rw [ea];exact ⟨.ref _,_,I.lnew (t':=s.toks) (r.append r2) (by rw [D7];lia),rfl,q _ I.fresh⟩
noncomputable def rRep:R2:=fun x y H Q=>∃ l k xs,x=.ref l/\y=.int k/\H l=some (.lst xs)/\-(2 ^ 63)<=k/\k<2 ^ 63/\xs.length*k.toNat<=sizeLine/\
 ∀ p,H p=none->Q (.ref p) (A0 H p (.lst (X1 k.toNat xs).flatten))
theorem anB{α:Type}(xs:List α)(k:Nat):(X1 k xs).flatten.length=k*xs.length:=by
 induction k with
 | zero=>simp
 | succ k ih=>rw [jD,jH,D7,ih,Nat.succ_mul,Nat.add_comm]
theorem aqs:G6 X (binaryOp .Mult) rRep:=by
 intro pins s Y H x y v u Q I rx ry h;obtain ⟨l,k,xs,rfl,rfl,hH,h1,h2,hz,q⟩:=h
 cases rx
 obtain ⟨t,rfl⟩:=ry;obtain ⟨z,its,n,r,hl,e⟩:=I.lstM hH;have A8:its.toArray.size*k.toNat<=sizeLine:=by rw [J8,<- hl];exact hz
 have yV:¬ its.toArray.size*k.toNat > (2 ^ 63-1) / 8:=by
  have:(sizeLine:Nat)<=(2 ^ 63-1) / 8:=by decide
  lia
 have yW:¬ (!Builtin.List.listFitsIndex k)=true:=by
  rw [fitsIndex_both h1 h2];exact L5
 have v9:¬ Builtin.List.listTooLong (its.toArray.size*k.toNat)=true:=by
  rw [ahL A8];exact L5
 have R9:List.foldl (fun x1 x2=>x1++x2) #[] (X1 (if its.toArray.isEmpty=true then 0 else k.toNat) its.toArray)=(X1 k.toNat its).flatten.toArray:=by
  have f0:∀ m:Nat,List.foldl (fun x1 x2=>x1++x2) #[] (X1 m its.toArray)=(X1 m its).flatten.toArray:=fun m=>by
   have:=af3 its m []
   rw [dH] at this;exact this
  rw [f0]
  cases its with
  | nil=>simp
  | cons a r'=>rw [if_neg (by simp)]
 refine wpAny_binaryOp_repeat_ref (T:="list") (U:="int") (by decide) ⟨_,e,rfl⟩ (fun s'=>typeIs_int s' k t) noFill_list_mul F.fills_int_mul F.slot_int_rmul repeat_list F.slot_int_index.lookup
  (call_meets F.slot_int_rmul (typeIs_int s k t) F.entry_int_rmul (F.args_int_rmul_2 _ _) (int___rmul___int_list k t l its.toArray n)
   ⟨e,rfl,⟨_,e,rfl⟩,call_meets F.slot_list_mul ⟨_,e,rfl⟩ F.entry_list_mul (F.args_list_mul_2 _ _) (AutoListH.list___mul___list_int_3 l its.toArray n k t yW yV v9) ⟨e,?_⟩⟩)
 rw [R9];exact ⟨.ref _,_,I.lnew (t':=s.toks) (r.rep k.toNat) (by rw [anB,Nat.mul_comm];exact hz),rfl,q _ I.fresh⟩
end
section
variable {prog:Program} {w:World} {A:Around} {E:Value->Shared->Prop} {s:Shared}
end
section
variable {X:Cx}
end
end L2
namespace Att
open PySem PySem.W PySem.Calls PyProof.Rows
theorem aej{P:Params} : ∀ (ns:List Int) (vs:List Value),WellAll P h vs (ns.map WData.int)->IntsAre vs ns:=by
 intro ns
 induction ns with
 | nil=>
  intro vs w;rw [List.map_nil] at w
  cases w
  exact .nil
 | cons n ns ih=>
  intro vs w;rw [E6] at w
  cases w with
  | cons a b=>
   cases a
   exact .cons _ _ (ih _ b)
theorem ajy{l:OpenLaw}(hn:l.most=some n){P:Params}{args:List WData}{vals:List Value}(cL:l.row.toRowW.claim.pre args=true)(yX:WellAll P h vals args) :
  ∃ a vs ns,vals=[Value.ref a]/\args=[WData.list (ns.map WData.int)]/\h.get? a=some { cls:=.type "list",data:=.seq vs.toArray }/\IntsAre vs ns/\ns.length<=n:=by
 have hsh:WShape.hasAll [] args [.list .int]=true:=(pre_splitW cL).1;have hc:l.pre.holds [] { args:=args }=true:=(pre_splitW cL).2;obtain ⟨d,r,rfl,h1,h2⟩:=hasAllW_cons hsh;obtain rfl:=hasAllW_nil h2;obtain ⟨xs,rfl,h3⟩:=hasW_list h1;obtain ⟨ns,rfl⟩:=items_int h3;have A8:ns.length<=n:=by
  unfold OpenLaw.pre at hc;have h4:(WTm.not (.lt (.lit (.int (n:Int))) (.len (.arg 0)))).holds [] { args:=[.list (ns.map .int)] }=true:=by
   have h4:=(holds_andW hc).1;rw [hn] at h4;exact h4
  have h5:=condW_of h4 (w_not (w_lt w_lit (w_len_list (w_arg rfl))));rw [A6] at h5;refine Nat.le_of_not_lt fun q=>?_
  have q':(n:Int)<((ns.length:Nat):Int):=by lia
  first
   | (rw [decide_eq_true q'] at h5;exact absurd h5 (by decide))
   | (simp at h5;lia)
 cases yX with
 | cons w1 w2=>
  cases w2
  cases w1 with
  | list ho cM=>exact ⟨_,_,ns,rfl,rfl,ho,aej ns _ cM,A8⟩
theorem ajz(l:OpenLaw)(args:List WData):l.row.toRowW.claim.post args (.bool true) args=true:=
 postW_of (r:=l.row.toRowW) (X:=(true==true))
  (show WShape.has [] (.bool true) .bool=true by first | rfl | decide | simp [WShape.has,WShape.arms,WShape.armsAll])
  (show (WTm.eq .res (.lit (.bool true))).value [] { args:=args,res:=some (.bool true),after:=args }=some (.bool (true==true)) from w_eq_bool (w_res rfl) w_lit) rfl
theorem attach_call{l:OpenLaw}{q:Program}{XP:(Str->Option Value)->Heap->Prop}{YP:World->Heap->Prop}{d:DefRec}(hn:l.most=some n)(aX:d.params.defaults=[])(call:∀ (w:World) (s₀ zu:Shared) (mg mb:Str->Option Value) (fa:Addr) (o:Obj) (pm cd doc:Value) (a:Addr) (vs:List Value) (ns:List Int),
   Ground q loose [] XP w s₀ mg mb zu.heap->YP w zu.heap->
   zu.heap.get? fa=some o->o.data=.func (docDef d.name d.params d.body d.scope pm cd doc)->zu.heap.CodeRec cd d.name->mg d.name=some (.ref fa)->
   zu.heap.get? a=some { cls:=.type "list",data:=.seq vs.toArray }->IntsAre vs ns->ns.length<=n->zu.gens=#[]->
   codeAny (model l.prog w) callerA (.call (.ref fa) ⟨[.ref a],[]⟩) (fun r s'=>r=.ok (.ret (.bool true))/\OldK zu.heap s'.heap/\s'.os=zu.os/\AllBare s'.gens) zu) :
  WalkO q loose XP YP l.row.toRowW d [] (fun f vs=>PySem.call f vs):=by
 intro w s₀ zu mg mb G zy fa o pm cd doc dV kV ho hd o7 hD oR hg args vals as cL hlay hrd yX hlo;obtain rfl:dV=.none:=Dflts.none hD aX;obtain rfl:kV=.none:=Dflts.noKw hD;obtain ⟨a,vs,ns,rfl,rfl,iE,w6,A8⟩:=ajy hn cL yX;refine enter_call (codeAny_mono (call w s₀ zu mg mb fa o pm cd doc a vs ns G zy ho (fd_plain hd) o7 oR iE w6 A8 hg) fun r s' hq=>?_);obtain ⟨rfl,h2,h3,h4⟩:=hq;exact ⟨.inl ⟨.bool true,.bool true,[],rfl,fun _=>rfl,.bool true,ajz l _,fun _=>⟨List.Pairwise.nil,fun _ hm=>(nomatch hm)⟩⟩,h2,h3,h4⟩
section
variable {prog:Program} {w:World} {A:Around} {E:Value->Shared->Prop} {s:Shared} {K:Frag}
end
end Att
namespace L2
open PySem PySem.Spec PyProof.Rows
theorem af5:∀ {vs:List Value} {ns:List Int},IntsAre vs ns->Vals (ns.map V.int) vs
 | _,_,.nil=>.nil
 | _,_,.cons n t h=>.cons ⟨t,rfl⟩ (af5 h)
noncomputable def Only (H:Hp):Prop:=∀ b,H b=none\/∃ o xs,H b=some (.frz o (.lst xs))
theorem alm{P:Program}{w:World}{mb:Str->Option Value}{CX:i7}{x:Str}{zu:Shared}{vs:List Value}(KX:K.In zu.heap)(eW:zu.heap.Ns mainGlobals mg)(hb:zu.heap.Ns builtinsNs mb)(hbb:∀ x:Str,x≠"__name__"->mb x=bootBuiltins x)(yY:zu.heap.NoLimit)(hg:zu.gens=#[])(ha:zu.heap.get? a=some { cls:=.type "list",data:=.seq vs.toArray })(hi:IntsAre vs ns)(hl:ns.length<=sizeLine)(hr:Room k callerA)(F:∀ base:Heap,K.In base->base.Ns mainGlobals mg->FnOk P w K mg base CX k fa fd [x] sp)(oS:∀ (s:Shared) (u:Value),BindsTo s fd ⟨[u],[]⟩ [(x,u)])(eU:∀ H:Hp,Only H->D0 K H a (ns.map V.int)->sp [.ref a] H (fun v _=>v=.bl true) fun _ _ _=>False)(hCX:∀ H e s',CX [] H zu (fun _ _ _=>False) e s'->False) :
  codeAny (model P w) callerA (.call (.ref fa) ⟨[.ref a],[]⟩) (fun r s'=>r=.ok (.ret (.bool true))/\OldK zu.heap s'.heap/\s'.os=zu.os/\AllBare s'.gens) zu:=by
 have rv:=af5 hi;have lenV:=hi.length;have core:∀ H:Hp,Only H->D0 K H a (ns.map V.int)->M8 P w H zu.heap->(∀ b,H b≠none->b=a)->(H a≠none->K.lookup a=none)->
   codeAny (model P w) callerA (.call (.ref fa) ⟨[.ref a],[]⟩) (fun r s'=>r=.ok (.ret (.bool true))/\OldK zu.heap s'.heap/\s'.os=zu.os/\AllBare s'.gens) zu:=by
  intro H hO hS hok hA hK;have base_of:∀ {b:Addr} {o:Obj},zu.heap.get? b=some o->H b=none->(hidT zu.heap H).get? b=some o:=fun e n=>ak3 e n
  have noA:∀ {b:Addr} {o:Obj} {es:Array DictEntry} {ep:Nat},zu.heap.get? b=some o->o.data=.dict es ep->H b=none:=fun {b o es ep} e d=>by
   cases q:H b with
   | none=>rfl
   | some u=>
    have e':b=a:=hA b (by rw [q];simp);subst e';rw [ha] at e;cases e;have d':Data.seq vs.toArray _=Data.dict es ep:=d
    cases d'
  have nsK:∀ {b:Addr} {m:Str->Option Value},zu.heap.Ns b m->(hidT zu.heap H).Ns b m:=fun {b m} ⟨o,es,ep,e,d,r⟩=>⟨o,es,ep,base_of e (noA e d),d,r⟩
  have hKb:K.In (hidT zu.heap H):=fun b o e=>base_of (KX b o e) (by
   cases q:H b with
   | none=>rfl
   | some u=>
    have e':b=a:=hA b (by rw [q];simp);subst e';rw [hK (by rw [q];simp)] at e;cases e)
  have hM:Mod K mg (hidT zu.heap H):=⟨hKb,nsK eW,⟨mb,nsK hb,hbb⟩,let ⟨mc,h1,h2⟩:=yY;⟨mc,nsK h1,h2⟩⟩
  have e0:Env0 P w K mg (hidT zu.heap H) callerA [] zu H:=⟨rfl,hM,fun b o e=>am8 e,Nat.le_of_eq (aja _ _),trivial,fun b hb=>absurd (show b∈([]:List Addr) from hb) (by simp),hok,.of_eq hg⟩
  refine codeAny_mono ((F _ hKb (nsK eW)).run callerA [] zu H ⟨[.ref a],[]⟩ [.ref a] [.ref a] _ _ hr e0 (oS zu (.ref a)) (.cons rfl .nil) (eU H hO hS)) fun r s' h=>?_
  cases r with
  | error e=>exact (hCX H e s' h).elim
  | ok fl=>
   cases fl with
   | next=>exact False.elim h
   | brk=>exact False.elim h
   | cont=>exact False.elim h
   | ret u=>
    obtain ⟨v,H',os,bare,un,yZ,r',q⟩:=h;have q':v=.bl true:=q;subst q';obtain rfl:u=Value.bool true:=r';refine ⟨rfl,OldK.of_keep fun b o e=>?_,os,bare⟩
    cases q:H b with
    | none=>exact un.keep b o e q (by intro z;exact absurd (show b∈([]:List Addr) from z) (by simp)) (by simp)
    | some u=>
     rcases hO b with z | ⟨ob,xs,z⟩
     .rw [q] at z;cases z
     .have z2:=un.frzs b ob _ z;obtain ⟨e1,_⟩:=hok b _ z;obtain ⟨e2,_⟩:=yZ b _ z2;rw [e] at e1;cases e1;exact e2
 cases hk:K.lookup a with
 | some o=>
  have e:=KX a o hk;rw [ha] at e;cases e;refine core (fun _=>none) (fun _=>.inl rfl) (.inr ⟨_,vs.toArray,_,hk,rfl,rfl,rfl,by rw [J8,lenV];exact hl,by simpa using rv⟩) (fun b u z=>by have z':(none:Option HO)=some u:=z;cases z') (fun b z=>absurd rfl z) fun z=>absurd rfl z
 | none=>
  refine core (fun b=>if b=a then some (.frz { cls:=.type "list",data:=.seq vs.toArray } (.lst (ns.map V.int))) else none) (fun b=>?_) (.inl (.inr ⟨{ cls:=.type "list",data:=.seq vs.toArray },if_pos rfl⟩)) (fun b u z=>?_) (fun b z=>?_) fun _=>hk
  .by_cases hb:b=a
   .exact .inr ⟨_,_,if_pos hb⟩
   .exact .inl (if_neg hb)
  .by_cases hb:b=a
   .have z':=(if_pos hb).symm.trans z
    cases z'
    subst hb;exact ⟨ha,by rw [A6];exact hl,vs,_,rv,ha⟩
   .have z':=(if_neg hb).symm.trans z
    cases z'
  .by_cases hb:b=a
   .exact hb
   .exact absurd (if_neg hb) z
end L2
namespace L2
open PySem PySem.Spec PyProof.Rows
theorem walk_of{l:PySem.W.OpenLaw}{q:Program}{XP:(Str->Option Value)->Heap->Prop}{YP:World->Heap->Prop}{d:DefRec}{K:Params->PySem.W.Frag}{CX:World->i7}{sp:World->Sp}{x:Str}(hn:l.most=some n)(sP:n<=sizeLine)(aX:d.params.defaults=[])(hr:Room k callerA)(hY:∀ (w:World) (h:Heap),YP w h->(K w.params).In h)(F:∀ (w:World) (mg:Str->Option Value) (fa:Addr) (h:Heap),(K w.params).In h->h.Ns mainGlobals mg->mg d.name=some (.ref fa)->
   ∃ fd:FuncData,(∀ (s:Shared) (u:Value),BindsTo s fd ⟨[u],[]⟩ [(x,u)])/\
    ∀ base:Heap,(K w.params).In base->base.Ns mainGlobals mg->FnOk l.prog w (K w.params) mg base (CX w) k fa fd [x] (sp w))(eU:∀ (w:World) (H:Hp) (a:Addr) (ns:List Int),ns.length<=n->Only H->D0 (K w.params) H a (ns.map V.int)->sp w [.ref a] H (fun v _=>v=.bl true) fun _ _ _=>False)(hCX:∀ (w:World) (H:Hp) (s:Shared) (e:Value) (s':Shared),CX w [] H s (fun _ _ _=>False) e s'->False) :
  PySem.W.WalkO q loose XP YP l.row.toRowW d [] (fun f vs=>PySem.call f vs):=by
 refine Att.attach_call hn aX fun w s₀ zu mg mb fa o pm cd doc a vs ns G zy ho hd o7 oR iE w6 A8 hg=>?_
 have KX:=hY w _ zy;obtain ⟨fd,hb,hF⟩:=F w mg fa _ KX G.T.g oR;exact alm KX G.T.g G.T.b G.T.builtins G.T.nolimit hg iE w6 (N4 A8 sP) hr hF hb (fun H hO hS=>eU w H a ns A8 hO hS) fun H e s'=>hCX w H zu e s'
end L2
namespace L2
open PySem PySem.Spec PyProof.Rows
noncomputable def qD (s:Stmt) (j:Nat):Stmt:=match s with
 | .ClassDef _ _ _ body _ _ _ _ _ _ _=>body.getD j (.Pass ⟨0,0,0,0⟩)
 | _=>.Pass ⟨0,0,0,0⟩
noncomputable def V4 (s:Stmt):Arguments:=match s with
 | .FunctionDef _ a _ _ _ _ _ _ _ _=>a
 | _=>{ posonlyargs:=[],args:=[],vararg:=none,kwonlyargs:=[],kw_defaults:=[],kwarg:=none,defaults:=[] }
noncomputable def U4 (s:Stmt):List Stmt:=match s with
 | .FunctionDef _ _ b _ _ _ _ _ _ _=>b
 | _=>[]
noncomputable def C1 (s:Stmt):Scope:=match s with
 | .FunctionDef _ _ _ _ _ _ sc _ _ _=>sc
 | _=>{ kind:=.function,names:=[],isGenerator:=false,isCoroutine:=false }
noncomputable abbrev D9:i7:=fun _ _ _ _ _ _=>False
noncomputable abbrev E0:XK:=fun _ _ _=>False
theorem pass0 : fZ D9 X E0:=fun _ _ _ _ _ _ _ h=>h.elim
structure Fun(K:PySem.W.Frag)(x qual:Str)(st:Stmt)(f:Addr)(fd:FuncData):Prop where
 ex:∃ (oc:Value) (od:Option Addr) (kV doc pm:Value) (an:Option Addr) (cdv ct:Value) (osl:Array (Option Value)),
  fd=T9 x qual (V4 st) (U4 st) (C1 st) .none kV doc pm an cdv ct/\K.lookup f=some ⟨oc,od,.func fd,osl⟩/\X2 K cdv qual=true
 kp:V3 K (.ref f)=true
section
variable {P:Program} {w:World} {K:PySem.W.Frag} {mg:Str->Option Value} {base:Heap}
end
theorem hu_of(hr:Room k A):A.units+1<cLine:=Nat.lt_of_le_of_lt (Nat.add_le_add_left (by decide:1<=64) _) hr.units
section
variable {X:Cx}
end
theorem iteF{A B:Prop}(h:B):if false=true then A else B:=by
 rw [if_neg L5];exact h
theorem iteT{A B:Prop}(h:A):if true=true then A else B:=by
 rw [if_pos rfl];exact h
noncomputable def Same (H H':Hp):Prop:=∀ b o,H b=some o->H' b=some o
theorem dU(H:Hp):Same H H:=fun _ _ h=>h
theorem Same.trans(a:Same H H1)(b:Same H1 H2):Same H H2:=fun c o h=>b c o (a c o h)
theorem Same.free(e:Same H H'){l:Addr}(h:H' l=Option.none):H l=Option.none:=by
 cases q:H l with
 | none=>rfl
 | some o=>
  rw [e l o q] at h;cases h
theorem Same.seq(e:Same H H')(h:D0 K H a xs):D0 K H' a xs:=by
 rcases h with (h | ⟨o,h⟩) | h
 .exact .inl (.inl (e _ _ h))
 .exact .inl (.inr ⟨o,e _ _ h⟩)
 .exact .inr h
end L2
set_option maxRecDepth 100000
namespace L2
open PySem PySem.Spec PyProof.Rows
section
variable {κ:Type} [DecidableEq κ]
noncomputable def valV (kvs:List (κ×V)) (k:κ):Option V:=(kvs.find? fun kv=>decide (kv.1=k)).map (·.2)
noncomputable def putK (kvs:List (κ×V)) (k:κ) (v:V):List (κ×V):=
 if (kvs.any fun kv=>decide (kv.1=k))=true then kvs.map (fun kv=>if kv.1=k then (kv.1,v) else kv) else kvs++[(k,v)]
theorem qE{p:κ×V}{r:List (κ×V)}{k:κ}(e:p.1=k):valV (p::r) k=some p.2:=by simp [valV,X0,e]
theorem bT{p:κ×V}{r:List (κ×V)}{k:κ}(e:¬ p.1=k):valV (p::r) k=valV r k:=by simp [valV,X0,e]
theorem uL(k:κ):∀ kvs:List (κ×V),(kvs.any fun kv=>decide (kv.1=k))=(valV kvs k).isSome
 | []=>rfl
 | p::r=>by
  rw [y7]
  by_cases e:p.1=k
  .simp only [qE e,decide_eq_true e,Bool.true_or,Option.isSome_some]
  .rw [bT e,decide_eq_false e,Bool.false_or];exact uL k r
theorem uM(kvs:List (κ×V))(k:κ)(v:V):(putK kvs k v).length<=kvs.length+1:=by
 unfold putK
 split
 .rw [A6];lia
 .rw [D7,J9,Z2];lia
theorem aln{kvs:List (κ×V)}{k:κ}(v:V)(h:valV kvs k=none):putK kvs k v=kvs++[(k,v)]:=by
 unfold putK;rw [uL,h];exact if_neg (by decide)
theorem RelO.isSome_eq{o:Option V}{u:Option Value}(r:RelO o u):o.isSome=u.isSome:=by
 cases o with
 | none=>cases u with
  | none=>rfl
  | some _=>exact (show False from r).elim
 | some _=>cases u with
  | none=>exact (show False from r).elim
  | some _=>rfl
theorem RelO.getD{o:Option V}{u:Option Value}{d:V}{d':Value}(r:RelO o u)(rd:RelV d d'):RelV (o.getD d) (u.getD d'):=by
 cases o with
 | none=>cases u with
  | none=>exact rd
  | some _=>exact (show False from r).elim
 | some _=>cases u with
  | none=>exact (show False from r).elim
  | some _=>exact r
theorem KV.val{kvs:List (κ×V)}{vs:List (κ×Value)}(r:KV kvs vs)(k:κ):RelO (valV kvs k) (valueAt vs k):=by
 unfold KV at r
 induction r with
 | nil=>exact True.intro
 | @cons p q ps qs h t ih=>
  obtain ⟨h1,h2⟩:=h
  by_cases e:p.1=k
  .have e':q.1=k:=h1.symm.trans e;have b:valueAt (q::qs) k=some q.2:=by simp [valueAt,X0,e']
   rw [qE e,b];exact h2
  .have e':¬ q.1=k:=fun z=>e (h1.trans z)
   have b:valueAt (q::qs) k=valueAt qs k:=by simp [valueAt,X0,e']
   rw [bT e,b];exact ih
theorem KV.any{kvs:List (κ×V)}{vs:List (κ×Value)}(r:KV kvs vs)(k:κ):(kvs.any fun kv=>decide (kv.1=k))=vs.any fun kv=>decide (kv.1=k):=by
 unfold KV at r
 induction r with
 | nil=>rfl
 | cons h t ih=>rw [y7,y7,ih,h.1]
theorem KV.repl{kvs:List (κ×V)}{vs:List (κ×Value)}(r:KV kvs vs)(k:κ){y:V}(ry:RelV y u) :
  KV (kvs.map fun kv=>if kv.1=k then (kv.1,y) else kv) (vs.map fun kv=>if kv.1=k then (kv.1,u) else kv):=by
 unfold KV at r ⊢
 induction r with
 | nil=>exact .nil
 | @cons p q ps qs h t ih=>
  rw [E6,E6];refine .cons ?_ ih;obtain ⟨h1,h2⟩:=h
  by_cases e:p.1=k
  .rw [if_pos e,if_pos (h1.symm.trans e)];exact ⟨h1,ry⟩
  .rw [if_neg e,if_neg (fun z=>e (h1.trans z))];exact ⟨h1,h2⟩
theorem KV.put{kvs:List (κ×V)}{vs:List (κ×Value)}(r:KV kvs vs)(k:κ){y:V}(ry:RelV y u):KV (putK kvs k y) (stored vs k u):=by
 unfold putK stored;rw [r.any k]
 by_cases e:(vs.any fun kv=>decide (kv.1=k))=true
 .rw [if_pos e,if_pos e];exact r.repl k ry
 .rw [if_neg e,if_neg e];exact Paired.snoc r ⟨rfl,ry⟩
theorem KV.keys{kvs:List (κ×V)}{vs:List (κ×Value)}(r:KV kvs vs):kvs.map (·.1)=vs.map (·.1):=by
 unfold KV at r
 induction r with
 | nil=>rfl
 | cons h t ih=>rw [E6,E6,ih,h.1]
theorem KV.length{kvs:List (κ×V)}{vs:List (κ×Value)}(r:KV kvs vs):kvs.length=vs.length:=Paired.length r
end
theorem kV_is{P:Program}{w:World}{k:B3}(r:RelV (kV k) u):(M6 P w).is k u=true:=by
 cases k with
 | inl i=>obtain ⟨t,e⟩:=(show ∃ t,u=Value.int i t from r);subst e;exact agS P w i t
 | inr x=>obtain ⟨t,e⟩:=(show ∃ t,u=Value.str x t from r);subst e;exact agT P w x t
theorem uN{P:Program}{w:World} : ∀ {ks:List B3} {us:List Value},Vals (ks.map kV) us->ItemsAre (M6 P w) ks us
 | [],_,r=>by rw [List.map_nil] at r;cases r;exact .nil
 | k::ks,_,r=>by
  rw [E6] at r
  cases r with
  | cons h t=>exact .cons (kV_is h) (uN t)
noncomputable abbrev KT (H:Hp):List (List B3×V)->List (List B3×Addr×Value)->Prop:=Paired fun p q=>p.1=q.1/\H q.2.1=some (.tup (p.1.map kV))/\RelV p.2 q.2.2
theorem KT.val{kvs:List (List B3×V)}{xs:List (List B3×Addr×Value)}(r:KT H kvs xs)(k:List B3):RelO (valV kvs k) ((atKey xs k).map (·.2)):=by
 induction r with
 | nil=>exact True.intro
 | @cons p q ps qs h t ih=>
  obtain ⟨h1,_,h2⟩:=h
  by_cases e:p.1=k
  .have e':q.1=k:=h1.symm.trans e;have b:atKey (q::qs) k=some q.2:=by simp [atKey,X0,e']
   rw [qE e,b];exact h2
  .have e':¬ q.1=k:=fun z=>e (h1.trans z)
   have b:atKey (q::qs) k=atKey qs k:=by simp [atKey,X0,e']
   rw [bT e,b];exact ih
theorem KT.repl{kvs:List (List B3×V)}{xs:List (List B3×Addr×Value)}(r:KT H kvs xs)(k:List B3){y:V}(ry:RelV y u) :
  KT H (kvs.map fun kv=>if kv.1=k then (kv.1,y) else kv) (xs.map (putAt k u)):=by
 induction r with
 | nil=>exact .nil
 | @cons p q ps qs h t ih=>
  rw [E6,E6];refine .cons ?_ ih;obtain ⟨h1,h2,h3⟩:=h;unfold putAt
  by_cases e:p.1=k
  .rw [if_pos e,if_pos (h1.symm.trans e)];exact ⟨h1,h2,ry⟩
  .rw [if_neg e,if_neg (fun z=>e (h1.trans z))];exact ⟨h1,h2,h3⟩
theorem KT.put{kvs:List (List B3×V)}{xs:List (List B3×Addr×Value)}(r:KT H kvs xs)(k:List B3){y:V}(hb:H b=some (.tup (k.map kV)))(ry:RelV y u) :
  KT H (putK kvs k y) (storedH xs k b u):=by
 have e:(kvs.any fun kv=>decide (kv.1=k))=(atKey xs k).isSome:=by
  rw [uL,(r.val k).isSome_eq,jN]
 unfold putK storedH;rw [e]
 by_cases q:(atKey xs k).isSome=true
 .rw [if_pos q,if_pos q];exact r.repl k ry
 .rw [if_neg q,if_neg q];exact Paired.snoc r ⟨rfl,hb,ry⟩
theorem KT.keeps{kvs:List (List B3×V)}{xs:List (List B3×Addr×Value)}(r:KT H kvs xs)(ht:∀ b ys,H b=some (.tup ys)->H' b=some (.tup ys)):KT H' kvs xs:=
 N5 r fun _ _ z=>⟨z.1,ht _ _ z.2.1,z.2.2⟩
section
variable {P:Program} {w:World} {H:Hp} {h:Heap} {a:Addr}
theorem rd_of{u:HO}(ok:M8 P w H h)(e:Rd H a u):ObjOk P w H h a u:=e.ok ok
theorem dk_rd(ok:M8 P w H h)(e:Rd H a (.dK kvs)):kvs.length<=sizeLine/\(a==sysModules)=false/\∃ vs,KV kvs vs/\h.DictOf (M6 P w) a vs:=
 show ObjOk P w H h a (.dK kvs) from rd_of ok e
theorem dk_of(ok:M8 P w H h)(e:H a=some (.dK kvs)):kvs.length<=sizeLine/\(a==sysModules)=false/\∃ vs,KV kvs vs/\h.DictOf (M6 P w) a vs:=dk_rd ok (.inl e)
theorem gB{ks:List B3}(ok:M8 P w H h)(e:H a=some (.tup (ks.map kV))):(tupleKind (M6 P w)).is h ks a:=by
 obtain ⟨_,its,r,o,h1,h2,n,h3⟩:=(show ObjOk P w H h a (.tup (ks.map kV)) from ok a _ e)
 exact ⟨o,its.toArray,n,h1,h2,h3,by simpa using uN r⟩
theorem dt_rd{kvs:List (List B3×V)}(ok:M8 P w H h)(e:Rd H a (.dT kvs)):kvs.length<=sizeLine/\(a==sysModules)=false/\
  ∃ xs,KT H kvs xs/\h.DictOfH (tupleKind (M6 P w)) a xs:=by
 obtain ⟨z,y,xs,r,o,es,ep,h1,h2,h3,h4,h5⟩:=(show ObjOk P w H h a (.dT kvs) from rd_of ok e)
 refine ⟨z,y,xs,r,o,es,ep,h1,h2,h3,h4,fun x hx=>?_,h5⟩;have all:∀ {l:List (List B3×V)} {m:List (List B3×Addr×Value)},KT H l m->∀ x∈m,(tupleKind (M6 P w)).is h x.1 x.2.1:=by
  intro l m q
  induction q with
  | nil=>intro x hx;exact nomatch hx
  | @cons p q ps qs hq t ih=>
   intro x hx
   rcases K0.mp hx with e | hx
   .subst e;exact gB ok (by rw [<- hq.1];exact hq.2.1)
   .exact ih x hx
 exact all r x hx
theorem dt_of{kvs:List (List B3×V)}(ok:M8 P w H h)(e:H a=some (.dT kvs)):kvs.length<=sizeLine/\(a==sysModules)=false/\
  ∃ xs,KT H kvs xs/\h.DictOfH (tupleKind (M6 P w)) a xs:=dt_rd ok (.inl e)
end
noncomputable def DGet (H:Hp) (a:Addr) (y:V) (r:Option V):Prop:=
 (∃ kvs k,Rd H a (.dK kvs)/\y=kV k/\r=valV kvs k)\/∃ kvs k b,Rd H a (.dT kvs)/\y=.ref b/\H b=some (.tup (k.map kV))/\r=valV kvs k
noncomputable def DPut (H:Hp) (a:Addr) (y v:V) (H':Hp):Prop:=
 (∃ kvs k,H a=some (.dK kvs)/\y=kV k/\kvs.length<sizeLine/\H'=A0 H a (.dK (putK kvs k v)))\/
 ∃ kvs k b,H a=some (.dT kvs)/\y=.ref b/\H b=some (.tup (k.map kV))/\kvs.length<sizeLine/\H'=A0 H a (.dT (putK kvs k v))
theorem Z7{k:B3}(e:H a=some (.dK kvs)):DGet H a (kV k) (valV kvs k):=.inl ⟨kvs,k,.inl e,rfl,rfl⟩
theorem bU{k:B3}(e:H a=some (.dK kvs))(hl:kvs.length<sizeLine):DPut H a (kV k) v (A0 H a (.dK (putK kvs k v))):=.inl ⟨kvs,k,e,rfl,hl,rfl⟩
section
variable {X:Cx} {pins:List (Addr×Obj)} {Y:St} {H:Hp} {s:Shared} {a:Addr} {y v:V} {u r:Value} {o:Option V} {A:Around} {E:Value->Shared->Prop}
theorem Inv.big(I:Inv X pins Y H s):sysModules<s.heap.objs.size:=by
 have h:mainGlobals<s.heap.objs.size:=(I.mod.glob.keeps I.bk).lt;exact Nat.lt_trans (by decide) h
theorem af6{Q:Value->Shared->Prop}(hu:A.units+1<cLine)(I:Inv X pins Y H s)(g:DGet H a y (some v))(ry:RelV y u)(h:∀ w' s',Inv X pins Y H s'->RelV v w'->Q w' s') :
  wpAny (model X.prog X.w) A (getItem (.ref a) u) Q E s:=by
 rcases g with ⟨kvs,k,e,ey,l⟩ | ⟨kvs,k,b,e,ey,eb,l⟩
 .subst ey;obtain ⟨z,hd,vs,rel,dd⟩:=dk_rd I.hok e;obtain ⟨w',hw,rw'⟩:=mN (v:=v) (o:=valueAt vs k) (by rw [l];exact rel.val k);exact wpAny_getItem_of (kV_is ry) dd.mapOf hw (h w' _ (I.tok _) rw')
 .subst ey
  cases (show u=Value.ref b from ry)
  obtain ⟨z,hd,xs,rel,dd⟩:=dt_rd I.hok e;obtain ⟨w',hw,rw'⟩:=mN (v:=v) (o:=(atKey xs k).map (·.2)) (by rw [l];exact rel.val k);obtain ⟨p,hp,aY⟩:=Option.map_eq_some_iff.mp hw;refine wpAny_getItem_heap (tupleKind_room_in1 hu) (gB I.hok eb) dd hp ?_;rw [aY];exact h w' _ (I.tok _) rw'
theorem d_in{Q:Value->Shared->Prop}(hu:A.units+1<cLine)(I:Inv X pins Y H s)(g:DGet H a y o)(ry:RelV y u)(h:∀ s',Inv X pins Y H s'->Q (.bool o.isSome) s') :
  wpAny (model X.prog X.w) A (compareOp .In u (.ref a)) Q E s:=by
 rcases g with ⟨kvs,k,e,ey,l⟩ | ⟨kvs,k,b,e,ey,eb,l⟩
 .subst ey;obtain ⟨z,hd,vs,rel,dd⟩:=dk_rd I.hok e;refine wpAny_in_of (kV_is ry) hd dd.mapOf ?_;rw [<- (rel.val k).isSome_eq,<- l];exact h _ (I.tok _)
 .subst ey
  cases (show u=Value.ref b from ry)
  obtain ⟨z,hd,xs,rel,dd⟩:=dt_rd I.hok e;refine wpAny_in_heap (tupleKind_room_in1 hu) (gB I.hok eb) hd dd ?_;have q:=(rel.val k).isSome_eq;rw [jN] at q;rw [<- q,<- l];exact h _ (I.tok _)
theorem anC{Q:Value->Shared->Prop}(hu:A.units+1<cLine)(I:Inv X pins Y H s)(g:DGet H a y o)(ry:RelV y u)(h:∀ s',Inv X pins Y H s'->Q (.bool (!o.isSome)) s') :
  wpAny (model X.prog X.w) A (compareOp .NotIn u (.ref a)) Q E s:=by
 rcases g with ⟨kvs,k,e,ey,l⟩ | ⟨kvs,k,b,e,ey,eb,l⟩
 .subst ey;obtain ⟨z,hd,vs,rel,dd⟩:=dk_rd I.hok e;refine wpAny_notIn_of (kV_is ry) hd dd.mapOf ?_;rw [<- (rel.val k).isSome_eq,<- l];exact h _ (I.tok _)
 .subst ey
  cases (show u=Value.ref b from ry)
  obtain ⟨z,hd,xs,rel,dd⟩:=dt_rd I.hok e;refine wpAny_notIn_heap (tupleKind_room_in1 hu) (gB I.hok eb) hd dd ?_;have q:=(rel.val k).isSome_eq;rw [jN] at q;rw [<- q,<- l];exact h _ (I.tok _)
theorem qF{ob:HO}(I:Inv X pins Y H s)(mu:mK (H a))(hs:Heap.SameBut a s.heap h')(he:∃ q,h'.get? a=some q)(new:ObjOk X.prog X.w (A0 H a ob) h' a ob) :
  Inv X pins Y (A0 H a ob) { s with heap:=h',toks:=t' }:=
 I.write (x:=a) (e:=a) mu (.inl rfl) (fun b q hb z=>(hs.2 b hb).trans z) he new
theorem uO{P:Program}{w:World}{vs:List (B3×Value)}(z:kvs.length<=sizeLine)(hd:(a==sysModules)=false)(rel:KV kvs vs)(dd:h'.DictOf (M6 P w) a vs) :
  ObjOk P w H' h' a (.dK kvs):=⟨z,hd,vs,rel,dd⟩
theorem af7{Q:Unit->Shared->Prop}(hu:A.units+1<cLine)(I:Inv X pins Y H s)(g:DPut H a y v H')(ry:RelV y u)(rv:RelV v r)(h:∀ s',Inv X pins Y H' s'->Q () s') :
  wpAny (model X.prog X.w) A (setItem (.ref a) u r) Q E s:=by
 rcases g with ⟨kvs,k,e,ey,l,eH⟩ | ⟨kvs,k,b,e,ey,eb,l,eH⟩
 .subst ey eH;obtain ⟨z,hd,vs,rel,dd⟩:=dk_of I.hok e;have hz:vs.length<=sizeLine:=by rw [<- rel.length];exact z
  have hl:(putK kvs k v).length<=sizeLine:=by have:=uM kvs k v;lia
  refine wpAny_setItem_pairs (hsz:=hz) (kV_is ry) dd fun h' dd' hs=>h _ ?_
  have he:∃ q,h'.get? a=some q:=let ⟨q,_,_,hq,_⟩:=dd';⟨q,hq⟩
  exact qF I (by rw [e];exact True.intro) hs he (uO hl hd (rel.put k rv) dd')
 .subst ey eH
  cases (show u=Value.ref b from ry)
  obtain ⟨z,hd,xs,rel,dd⟩:=dt_of I.hok e;have hz:xs.length<=sizeLine:=by rw [<- Paired.length rel];exact z
  have hl:(putK kvs k v).length<=sizeLine:=by have:=uM kvs k v;lia
  refine wpAny_setItem_heap (hsz:=hz) (tupleKind_room_in1 hu) (gB I.hok eb) dd fun h' dd' hs=>h _ ?_
  obtain ⟨q,es,ep,hq,h2,h3,h4,_,h5⟩:=dd';refine qF I (by rw [e];exact True.intro) hs ⟨q,hq⟩ ⟨hl,hd,_,(rel.put k eb rv).keeps fun c ys ec=>?_,q,es,ep,hq,h2,h3,h4,h5⟩;rw [A7 (ne_of ec e (fun z=>nomatch z))];exact ec
end
section
variable {X:Cx} {pins:List (Addr×Obj)} {Y:St} {H:Hp} {s:Shared} {a:Addr} {kvs:List (B3×V)} {k:B3} {u:Value} {A:Around} {E:Value->Shared->Prop}
theorem d_len{Q:Value->Shared->Prop}(I:Inv X pins Y H s)(e:Rd H a (.dK kvs))(h:∀ t s',Inv X pins Y H s'->Q (.int kvs.length t) s'):wpAny (model X.prog X.w) A (call (.builtin "len") [.ref a]) Q E s:=by
 obtain ⟨z,hd,vs,rel,dd⟩:=dk_rd I.hok e;refine call_len_dict hd dd (by rw [<- rel.length];rw [sizeLine_eq] at z;lia) ?_;rw [<- rel.length];exact h _ _ (I.tok _)
end
noncomputable def NoSl (i:Expr):Prop:=∀ ov iv,subscripted i false ov iv=operate [ov,iv] (getItem ov iv)
theorem uP{w:World}{env:Env}{value slice:Expr}{pos:Pos}{T id:String}{Q:Value->Shared->Prop}(hl:typeLookup (.type T) "__getitem__"=pure (some (.builtin id)))(hs:NoSl slice)(h:wpAny (model prog w) A (eval value env) (fun o zu=>wpAny (model prog w) A (eval slice env) (fun i zx=>zx.TypeIs o T/\wpAny (model prog w) A (getItem o i) Q E zx) E zu) E s) :
  wpAny (model prog w) A (eval (.Subscript value slice pos) env) Q E s:=by
 refine Subscript_ (wpAny_mono h (fun o zu zr=>wpAny_mono zr (fun i zx zq=>?_) fun _ _ x=>x) fun _ _ x=>x);obtain ⟨hT,zq⟩:=zq;unfold subscriptTail;refine wpAny_bind ?_;rw [getitemInPython_of_ne hT.not_modules];refine wpAny_bind (wpAny_specialOf hT hl ?_);have fin:wpAny (model prog w) A (subscripted slice false o i) (fun r zw=>wpAny (model prog w) A (letTemporaryGo value o r >>= fun _=>pure r) Q E zw) E zx:=by
  rw [hs o i];exact wpAny_operating (wpAny_mono zq (fun r zw zp=>wpAny_bind (wpAny_letTemporaryGo (wpAny_pure zp))) fun _ _ x=>x)
 first
  | exact wpAny_pure (wpAny_bind fin)
  | exact wpAny_bind (wpAny_pure (wpAny_bind fin))
  | exact wpAny_bind fin
theorem agZ{y:V}{o:Option V}(I:Inv X pins Y H s)(g:DGet H a y o):s.TypeIs (.ref a) "dict":=by
 rcases g with ⟨kvs,k,e,_,_⟩ | ⟨kvs,k,b,e,_,_,_⟩
 .obtain ⟨_,_,vs,_,dd⟩:=dk_rd I.hok e;exact dd.typeIs
 .obtain ⟨_,_,xs,_,dd⟩:=dt_rd I.hok e;exact dd.typeIs
noncomputable def tDGet (td ty:TE):TE:=fun Y H Q=>td Y H fun x H1=>ty Y H1 fun y H2=>∃ a v,x=.ref a/\DGet H2 a y (some v)/\Q v H2
noncomputable def sDPut (td ty tv:TE):TS:=fun D Y H=>tv Y H fun v H1=>td Y H1 fun x H2=>ty Y H2 fun y H3=>∃ a H4,x=.ref a/\DPut H3 a y v H4/\D.nx Y H4
noncomputable def sDAug (td ty tv:TE) (rd:V->V->Hp->VK->Prop):TS:=fun D Y H=>td Y H fun x H1=>ty Y H1 fun y H2=>∃ a v,x=.ref a/\DGet H2 a y (some v)/\
 tv Y H2 fun y2 H3=>rd v y2 H3 fun z H4=>∃ H5,DPut H4 a y z H5/\D.nx Y H5
section
variable {X:Cx} {o i e value:Expr} {pos pos' tpos:Pos} {td ty tv:TE}
theorem anD(hu:X.A.units+1<cLine)(ho:PE X o td)(hi:PE X i ty)(hs:NoSl i):PE X (.Subscript o i pos) (tDGet td ty):=by
 intro pins s Y H Q I h;refine uP PySem.F.slot_dict_getitem.lookup hs (A9 (ho pins s Y H _ I h) fun u s1 ⟨x,H1,I1,rx,q1⟩=>A9 (hi pins s1 Y H1 _ I1 q1) fun iv s2 ⟨y,H2,I2,ry,a,v,ex,g,q2⟩=>?_);subst ex;obtain rfl:u=Value.ref a:=rx;exact ⟨agZ I2 g,af6 hu I2 g ry fun w' s3 I3 rw'=>⟨v,H2,I3,rw',q2⟩⟩
theorem anE(hu:X.A.units+1<cLine)(ho:PE X o td)(hi:PE X i ty)(hv:PE X value tv)(hs:swapsWith value (some (.Subscript o i pos')) pos.line X.env=pure false) :
  PS X (.Assign [.Subscript o i pos'] value pos) (sDPut td ty tv):=by
 intro pins s Y H D I h;refine wpAny_Assign_Subscript (A9 (hv pins s Y H _ I h) fun r s1 ⟨v,H1,I1,rv,q1⟩=>A9 (ho pins s1 Y H1 _ I1 q1) fun u s2 ⟨x,H2,I2,rx,q2⟩=>A9 (hi pins s2 Y H2 _ I2 q2) fun iv s3 ⟨y,H3,I3,ry,a,H4,ex,g,q3⟩=>?_) hs;subst ex;obtain rfl:u=Value.ref a:=rx;exact af7 hu I3 g ry rv fun s4 I4=>⟨Y,H4,I4,q3⟩
theorem anF{op:Operator}{rd:V->V->Hp->VK->Prop}(hu:X.A.units+1<cLine)(ho:PE X o td)(hi:PE X i ty)(hv:PE X value tv)(zA:InOp X op rd)(ha:∀ ov iv new,augStore i ov iv new=(do holding [new,ov,iv] (setItem ov iv new);release [new,ov,iv] [];pure .next)):PS X (.AugAssign (.Subscript o i tpos) op value pos) (sDAug td ty tv rd):=by
 intro pins s Y H D I h;refine wpAny_AugAssign_SubscriptAny (A9 (ho pins s Y H _ I h) fun u s1 ⟨x,H1,I1,rx,q1⟩=>A9 (hi pins s1 Y H1 _ I1 q1) fun iv s2 ⟨y,H2,I2,ry,a,v,ex,g,q2⟩=>?_) ha;subst ex;obtain rfl:u=Value.ref a:=rx;refine af6 hu I2 g ry fun w' s3 I3 rw'=>A9 (hv pins s3 Y H2 _ I3 q2) fun w2 s4 ⟨y2,H3,I4,ry2,q3⟩=>A9 (zA pins s4 Y H3 v y2 w' w2 _ I4 rw' ry2 q3) fun w3 s5 ⟨z,H4,I5,rz,H5,g5,q4⟩=>?_
 exact af7 hu I5 g5 ry rz fun s6 I6=>⟨Y,H5,I6,q4⟩
end
theorem alo{P:Program}{w:World}(h:Heap)(hb:sysModules<h.objs.size):ObjOk P w H (h.push { cls:=.type "dict",data:=.dict #[] }) h.objs.size (.dK []):=
 ⟨F7 _,beq_eq_false_iff_ne.mpr (Ne.symm (L8 hb)),[],.nil,Heap.DictOf.new h⟩
noncomputable def uQ:TE:=fun _ H Q=>∀ p,H p=none->Q (.ref p) (A0 H p (.dK []))
section
variable {X:Cx} {pos:Pos}
theorem alp:PE X (.Dict [] [] pos) uQ:=fun pins s Y H Q I h=>
 wpAny_Dict_empty ⟨.ref s.heap.objs.size,_,I.laid (a:=s.heap.objs.size) (o:=.dK []) (t':=s.toks) (fun _ _ q=>Heap.get?_push_of_some _ q) (C3 _) (alo s.heap I.big),rfl,h _ (I.hok.fresh (C3 _))⟩
end
noncomputable def jU:List (TE×TE)->St->Hp->(List (V×V)->Hp->Prop)->Prop
 | [],_,H,Q=>Q [] H
 | (tk,tv)::r,Y,H,Q=>tk Y H fun x H1=>tv Y H1 fun y H2=>jU r Y H2 fun ps H3=>Q ((x,y)::ps) H3
noncomputable def X4 (kvs more:List (B3×V)):List (B3×V):=more.foldl (fun acc kv=>putK acc kv.1 kv.2) kvs
theorem ady:∀ (more kvs:List (B3×V)),(X4 kvs more).length<=kvs.length+more.length
 | [],kvs=>by show kvs.length<=kvs.length+0;lia
 | p::r,kvs=>by
  have h1:=ady r (putK kvs p.1 p.2);have h2:=uM kvs p.1 p.2;show (X4 (putK kvs p.1 p.2) r).length<=_;rw [J9];lia
noncomputable def tDisp (trs:List (TE×TE)):TE:=fun Y H Q=>∀ p,H p=none->jU trs Y (A0 H p (.dK [])) fun ps H2=>H2 p=some (.dK [])/\∃ kvs:List (B3×V),ps=kvs.map (fun kv=>(kV kv.1,kv.2))/\kvs.length<=15/\Q (.ref p) (A0 H2 p (.dK (X4 [] kvs)))
structure M1(X:Cx)(o:Expr)(m:Str)(apos:Pos)(e:Expr)(cpos:Pos):Prop where
 base:attributeBase o m X.env (eval o X.env)=eval o X.env
 few:((backTo cpos (starEach [e] X.env)).all (fun x=>!x.1)&&(backToKw cpos (keywordEach [] X.env)).all (fun x=>x.1.isSome)
  && decide (([e]:List Expr).length+([]:List Keyword).length+(if ([]:List Keyword).isEmpty then 0 else 1)<30))=true
 line:(apos.endLine==cpos.line)=true
 trees:backTo cpos (starEach [e] X.env)=[(false,eval e X.env)]
structure M2(X:Cx)(o:Expr)(m:Str)(apos:Pos)(e f:Expr)(cpos:Pos):Prop where
 base:attributeBase o m X.env (eval o X.env)=eval o X.env
 few:((backTo cpos (starEach [e,f] X.env)).all (fun x=>!x.1)&&(backToKw cpos (keywordEach [] X.env)).all (fun x=>x.1.isSome)
  && decide (([e,f]:List Expr).length+([]:List Keyword).length+(if ([]:List Keyword).isEmpty then 0 else 1)<30))=true
 line:(apos.endLine==cpos.line)=true
 trees:backTo cpos (starEach [e,f] X.env)=[(false,eval e X.env),(false,eval f X.env)]
noncomputable def gC (H:Hp) (a:Addr):Prop:=(∃ kvs,Rd H a (.dK kvs))\/∃ kvs,Rd H a (.dT kvs)
theorem uR(I:Inv X pins Y H s)(d:gC H a) :
  s.TypeIs (.ref a) "dict"/\(∀ b,Value.ref a=.ref b->∃ ob,s.heap.get? b=some ob/\ob.dict=none)/\(a==sysModules)=false:=by
 rcases d with ⟨kvs,e⟩ | ⟨kvs,e⟩
 .obtain ⟨_,hd,vs,_,dd⟩:=dk_rd I.hok e;refine ⟨dd.typeIs,fun b q=>?_,hd⟩
  cases q
  obtain ⟨ob,_,_,h1,h2,_⟩:=dd;exact ⟨ob,h1,h2.2.1⟩
 .obtain ⟨_,hd,xs,_,dd⟩:=dt_rd I.hok e;refine ⟨dd.typeIs,fun b q=>?_,hd⟩
  cases q
  obtain ⟨ob,_,_,h1,h2,_⟩:=dd;exact ⟨ob,h1,h2.2.1⟩
section
variable {X:Cx} {pins:List (Addr×Obj)} {Y:St} {H:Hp} {s:Shared} {a:Addr} {y d:V} {u r:Value} {o:Option V} {A:Around} {E:Value->Shared->Prop}
theorem aqt{Q:Value->Shared->Prop}(hu:A.units+1<cLine)(I:Inv X pins Y H s)(g:DGet H a y o)(ry:RelV y u)(h:∀ w' s',Inv X pins Y H s'->RelV (o.getD .non) w'->Q w' s') :
  wpAny (model X.prog X.w) A (call (.builtin "dict.get") [.ref a,u]) Q E s:=by
 rcases g with ⟨kvs,k,e,ey,l⟩ | ⟨kvs,k,b,e,ey,eb,l⟩
 .subst ey;obtain ⟨z,hd,vs,rel,dd⟩:=dk_rd I.hok e;refine call_meetsIn jM dd.typeIs pU (PySem.F.args_dict_get_2 _ _) (meets_dict_get (M6 X.prog X.w) a (kV_is ry) hd) ⟨_,dd.mapOf,h _ _ (I.tok _) ?_⟩;rw [l];exact (rel.val k).getD rfl
 .subst ey
  cases (show u=Value.ref b from ry)
  obtain ⟨z,hd,xs,rel,dd⟩:=dt_rd I.hok e;refine call_meetsIn jM dd.typeIs pU (PySem.F.args_dict_get_2 _ _) (meetsH_dict_get (tupleKind (M6 X.prog X.w)) a b hd) ⟨tupleKind_room_in1 hu,k,xs,gB I.hok eb,dd,h _ _ (I.tok _) ?_⟩;rw [l];exact (rel.val k).getD rfl
theorem aqu{Q:Value->Shared->Prop}(hu:A.units+1<cLine)(I:Inv X pins Y H s)(g:DGet H a y o)(ry:RelV y u)(rd:RelV d r)(h:∀ w' s',Inv X pins Y H s'->RelV (o.getD d) w'->Q w' s') :
  wpAny (model X.prog X.w) A (call (.builtin "dict.get") [.ref a,u,r]) Q E s:=by
 rcases g with ⟨kvs,k,e,ey,l⟩ | ⟨kvs,k,b,e,ey,eb,l⟩
 .subst ey;obtain ⟨z,hd,vs,rel,dd⟩:=dk_rd I.hok e;refine call_meetsIn jM dd.typeIs pU (PySem.F.args_dict_get_3 _ _ _) (meets_dict_get_default (M6 X.prog X.w) a (kV_is ry) hd r) ⟨_,dd.mapOf,h _ _ (I.tok _) ?_⟩;rw [l];exact (rel.val k).getD rd
 .subst ey
  cases (show u=Value.ref b from ry)
  obtain ⟨z,hd,xs,rel,dd⟩:=dt_rd I.hok e;refine call_meetsIn jM dd.typeIs pU (PySem.F.args_dict_get_3 _ _ _) (meetsH_dict_get_default (tupleKind (M6 X.prog X.w)) a b hd r) ⟨tupleKind_room_in1 hu,k,xs,gB I.hok eb,dd,h _ _ (I.tok _) ?_⟩;rw [l];exact (rel.val k).getD rd
end
noncomputable def uS (td ty:TE):TE:=fun Y H Q=>td Y H fun x H1=>∃ a,x=.ref a/\gC H1 a/\ty Y H1 fun y H2=>∃ o,DGet H2 a y o/\Q (o.getD .non) H2
noncomputable def uT (td ty tx:TE):TE:=fun Y H Q=>td Y H fun x H1=>∃ a,x=.ref a/\gC H1 a/\ty Y H1 fun y H2=>tx Y H2 fun z H3=>∃ o,DGet H3 a y o/\Q (o.getD z) H3
section
variable {X:Cx} {o e f:Expr} {apos cpos:Pos} {td ty tx:TE}
theorem alq(hu:X.A.units+1<cLine)(ho:PE X o td)(he:PE X e ty)(m:M1 X o "get" apos e cpos):PE X (.Call (.Attribute o "get" apos) [e] [] cpos) (uS td ty):=by
 intro pins s Y H Q I h;refine wpAny_Call_method m.base m.few m.line PySem.F.plainAttrs_dict jM PySem.F.type_dict_get (A9 (ho pins s Y H _ I h) fun u s1 ⟨x,H1,I1,rx,a,ex,d,q1⟩=>?_);subst ex;obtain rfl:u=Value.ref a:=rx;obtain ⟨t1,t2,_⟩:=uR I1 d;refine ⟨t1,t2,?_⟩;rw [m.trees];refine Calls.callWith_builtin rfl (Calls.evalArgs_plain (Calls.spliced_cons (A9 (he pins s1 Y H1 _ I1 q1) fun iv s2 ⟨y,H2,I2,ry,ov,g,q2⟩=>Calls.spliced_nil ?_)));exact aqt hu I2 g ry fun w' s3 I3 rw'=>⟨_,H2,I3,rw',q2⟩
theorem alr(hu:X.A.units+1<cLine)(ho:PE X o td)(he:PE X e ty)(hf:PE X f tx)(m:M2 X o "get" apos e f cpos):PE X (.Call (.Attribute o "get" apos) [e,f] [] cpos) (uT td ty tx):=by
 intro pins s Y H Q I h;refine wpAny_Call_method m.base m.few m.line PySem.F.plainAttrs_dict jM PySem.F.type_dict_get (A9 (ho pins s Y H _ I h) fun u s1 ⟨x,H1,I1,rx,a,ex,d,q1⟩=>?_);subst ex;obtain rfl:u=Value.ref a:=rx;obtain ⟨t1,t2,_⟩:=uR I1 d;refine ⟨t1,t2,?_⟩;rw [m.trees];refine Calls.callWith_builtin rfl (Calls.evalArgs_plain (Calls.spliced_cons (A9 (he pins s1 Y H1 _ I1 q1) fun iv s2 ⟨y,H2,I2,ry,q2⟩=>
  Calls.spliced_cons (A9 (hf pins s2 Y H2 _ I2 q2) fun fv s3 ⟨z,H3,I3,rz,ov,g,q3⟩=>Calls.spliced_nil ?_))))
 exact aqu hu I3 g ry rz fun w' s4 I4 rw'=>⟨_,H3,I4,rw',q3⟩
end
section
variable {X:Cx} {pins:List (Addr×Obj)} {Y:St} {H:Hp} {s:Shared} {a:Addr} {kvs:List (B3×V)} {A:Around} {E:Value->Shared->Prop}
end
section
variable {X:Cx} {pins:List (Addr×Obj)} {Y:St} {H:Hp} {s:Shared} {a:Addr} {y:V} {u:Value} {A:Around} {E:Value->Shared->Prop}
end
end L2
namespace L2
open PySem PySem.Spec PyProof.Rows
section
variable {X:Cx}
end
section
variable {κ:Type} [DecidableEq κ]
theorem uU:∀ {l:List κ} {k:κ},l.Nodup->¬ k∈l->(l++[k]).Nodup
 | [],k,_,_=>by simp
 | a::r,k,h,hk=>by
  obtain ⟨h1,h2⟩:=V1.mp h;show (a::(r++[k])).Nodup;refine V1.mpr ⟨fun m=>?_,uU h2 fun m=>hk (K0.mpr (Or.inr m))⟩
  rcases G0.mp m with q | q
  .exact h1 q
  .exact hk (K0.mpr (Or.inl (E4.mp q).symm))
end
end L2
set_option maxRecDepth 100000
namespace L2
open PySem PySem.Spec PyProof.Rows
noncomputable def cloOf (cells:List (Str×Addr)):List (Str×NameKind)->List (Str×Addr)->List (Str×Addr)
 | [],acc=>acc
 | (n,k)::r,acc=>if k=.free then cloOf cells r ((n,(cells.lookup n).getD 0)::acc) else cloOf cells r acc
theorem uV{env:Env} : ∀ (names:List (Str×NameKind)) (acc:List (Str×Addr)),(∀ x∈names,x.2=.free->∃ c,env.cells.lookup x.1=some c)->
  (forIn names acc fun (x:Str×NameKind) (cs:List (Str×Addr))=>(if (x.2==NameKind.free)=true then do
   let c <- cellOf env x.1
   pure (ForInStep.yield ((x.1,c)::cs)) else pure (ForInStep.yield cs):Sem (ForInStep (List (Str×Addr)))))=(pure (cloOf env.cells names acc):Sem (List (Str×Addr)))
 | [],acc,_=>rfl
 | (n,k)::r,acc,h=>by
  rw [List.forIn_cons];have hr:∀ x∈r,x.2=.free->∃ c,env.cells.lookup x.1=some c:=fun x hx=>h x (N9 _ hx)
  by_cases hk:k=.free
  .subst hk;obtain ⟨c,hc⟩:=h (n,.free) N3 rfl;have e1:cellOf env n=pure c:=by unfold cellOf;rw [show env.cells.lookup n=some c from hc]
   simp only [beq_self_eq_true,if_true];rw [e1];show (forIn r ((n,c)::acc) _:Sem _)=_;rw [uV r _ hr];show _=pure (if NameKind.free=.free then cloOf env.cells r ((n,(env.cells.lookup n).getD 0)::acc) else _);rw [if_pos rfl,show env.cells.lookup n=some c from hc];rfl
  .have hb:(k==NameKind.free)=false:=by simpa using hk
   simp only [hb,mF,if_false];show (forIn r acc _:Sem _)=_;rw [uV r _ hr];show _=pure (if k=.free then _ else cloOf env.cells r acc);rw [if_neg hk]
theorem adf{scope:Scope}{env:Env}(h:∀ x∈scope.names,x.2=.free->∃ c,env.cells.lookup x.1=some c):closureFor scope env=pure (cloOf env.cells scope.names []):=by
 simp only [closureFor];have e:=uV (env:=env) scope.names [] h;rw [e];rfl
theorem qG{cells:List (Str×Addr)}{x:Str} : ∀ (names:List (Str×NameKind)) (acc:List (Str×Addr)),
  (cloOf cells names acc).lookup x=if (x,NameKind.free)∈names then some ((cells.lookup x).getD 0) else acc.lookup x
 | [],acc=>by simp [cloOf]
 | (n,k)::r,acc=>by
  show (if k=.free then cloOf cells r ((n,(cells.lookup n).getD 0)::acc) else cloOf cells r acc).lookup x=_
  by_cases hk:k=.free
  .subst hk;rw [if_pos rfl,qG r]
   by_cases hm:(x,NameKind.free)∈r
   .rw [if_pos hm,if_pos (N9 _ hm)]
   .rw [if_neg hm,List.lookup_cons]
    by_cases hx:x=n
    .subst hx;rw [if_pos N3]
     simp
    .have e:(x==n)=false:=by simpa using hx
     rw [e,if_neg];intro z
     rcases K0.mp z with z | z
     .exact hx (Prod.mk.inj z).1
     .exact hm z
  .rw [if_neg hk,qG r]
   by_cases hm:(x,NameKind.free)∈r
   .rw [if_pos hm,if_pos (N9 _ hm)]
   .rw [if_neg hm,if_neg];intro z
    rcases K0.mp z with z | z
    .exact hk (Prod.mk.inj z).2.symm
    .exact hm z
theorem uW{α:Type}{x:Str} : ∀ {l:List (Str×α)} {k:α},l.lookup x=some k->(x,k)∈l
 | [],_,h=>by simp at h
 | (n,a)::r,k,h=>by
  rw [List.lookup_cons] at h
  by_cases hx:x=n
  .subst hx;simp at h;subst h;exact N3
  .have e:(x==n)=false:=by simpa using hx
   rw [e] at h;exact N9 _ (uW h)
theorem adX{sc:Scope}{env:Env}{x:Str}{k:NameKind}(hc:∀ y∈sc.names,y.2≠.cell)(h:(relabel sc env).names.lookup x=some k)(hk:k=.cell\/k=.free):(x,NameKind.free)∈sc.names:=by
 have m:=uW h;unfold relabel at m;obtain ⟨⟨n,k'⟩,hm,e⟩:=D8.mp m;have G8:=hc _ hm
 by_cases hf:k'=.free
 .subst hf
  have:n=x:=by
   dsimp only at e
   split at e
   .exact (Prod.mk.inj e).1
   .exact (Prod.mk.inj e).1
  subst this;exact hm
 .have hb:(k'==NameKind.free)=false:=by simpa using hf
  simp only [hb,Bool.false_and,mF,if_false] at e;obtain ⟨e1,e2⟩:=Prod.mk.inj e;subst e1 e2
  rcases hk with z | z
  .exact absurd z G8
  .subst z;exact absurd rfl hf
structure CompOk(N:List Str)(kn:List (Str×NameKind))(sc:Scope)(N':List Str)(k:Nat)(ixs:List Nat):Prop where
 kind:sc.kind=.function
 cell:∀ x∈sc.names,x.2≠.cell
 names:∀ x∈sc.names,x.2=.local->sc.names.lookup x.1=some .local
 free:∀ x∈sc.names,x.2=.free->kn.lookup x.1=some .cell\/kn.lookup x.1=some .free
 clean:∀ x∈sc.names,x.2=.free->sc.names.lookup x.1=some .free
 len:N'.length=k+ixs.length
 at_:ixs.map (fun i=>N[i]?)=(N'.drop k).map some
 fr:∀ x∈N'.drop k,(x,NameKind.free)∈sc.names
noncomputable def M9 (X:Cx) (sc:Scope) (N':List Str) (C:Addr) (zw:Shared) (zt:Hp) (fp:List Addr) (pins:List (Addr×Obj)):Cx:=
 {prog:=X.prog,w:=X.w,K:=X.K,mg:=X.mg,base:=X.base,A:=X.A,N:=N',s₀:=zw,H₀:=zt,
  env:=compEnvC sc (cloOf X.env.cells sc.names []) C X.env,outer:=X.stack,stack:=X.stack,ex:=fp,fn:=fun _=>false,calm:=X.calm,
  pn:=X.pn++pins,xe:=fun _ _=>False }
noncomputable def compStart (k:Nat) (ixs:List Nat) (Y:St):St:=X1 k none++ixs.map fun i=>(Y[i]?).join
theorem afy : (compStart k ixs Y).length=k+ixs.length:=by simp [compStart]
section
variable {X:Cx} {sc:Scope} {N':List Str} {k:Nat} {ixs:List Nat} {pins:List (Addr×Obj)} {Y:St} {H:Hp} {s:Shared} {fp:List Addr}
theorem jV(C:CompOk X.N X.env.scope.names sc N' k ixs)(I:Inv X pins Y H s){x:Str}{c:Addr}(e:(cloOf X.env.cells sc.names []).lookup x=some c):X.env.cells.lookup x=some c/\(x,NameKind.free)∈sc.names:=by
 rw [qG] at e
 by_cases hm:(x,NameKind.free)∈sc.names
 .rw [if_pos hm] at e;obtain ⟨c',aV⟩:=I.ok.has x (C.free _ hm rfl);rw [aV] at e;exact ⟨aV.trans e,hm⟩
 .rw [if_neg hm] at e;cases e
theorem ajF(C:CompOk X.N X.env.scope.names sc N' k ixs)(I:Inv X pins Y H s){x:Str}(hm:(x,NameKind.free)∈sc.names):∃ c,(cloOf X.env.cells sc.names []).lookup x=some c/\X.env.cells.lookup x=some c:=by
 obtain ⟨c',aV⟩:=I.ok.has x (C.free _ hm rfl);refine ⟨c',?_,aV⟩;rw [qG,if_pos hm,aV];rfl
theorem aqv(C:CompOk X.N X.env.scope.names sc N' k ixs)(I:Inv X pins Y H s)(hf:∀ b∈fp,FpOk X pins H b)(ho:∀ b∈fp,∃ o,s.heap.get? b=some o):(M9 X sc N' s.heap.objs.size s H fp pins).Ok where
 mod:=I.ok.mod
 kind:=C.kind
 glob:=I.ok.glob
 blt:=I.ok.blt
 above:=C3 _
 inj:=fun x y c e1 e2=>I.ok.inj x y c (jV C I e1).1 (jV C I e2).1
 has:=fun x hx=>by
  have hm:(x,NameKind.free)∈sc.names:=by
   rcases hx with z | z
   .exact adX C.cell z (.inl rfl)
   .exact adX C.cell z (.inr rfl)
  obtain ⟨c,h1,_⟩:=ajF C I hm;exact ⟨c,h1⟩
 cab:=fun x c h _=>by cases h
 hd:=I.ok.hd
 frames:=I.ok.frames
 stk:=.inl rfl
 exf:=fun b hb=>by
  obtain ⟨o,e⟩:=ho b hb;exact ⟨L8 (Heap.lt_size e),fun x c e1=>(hf b hb).2.2.2.2.1 x c (jV C I e1).1⟩
 bs:=I.bs
 bsz:=N4 I.ok.bsz I.sz
 noex:=fun b o e hb=>by
  rcases (hf b hb).2.2.2.1 with z | z
  .exact I.ok.noex b o e z
  .exact absurd (V2 (Heap.lt_size e) (N4 I.ok.bsz z)) (Z4 _)
 exfs:=fun b hb hm=>by
  rcases K0.mp (I.stkSub b hm) with z | z
  .exact (hf b hb).2.1 z
  .exact (hf b hb).2.2.1 z
 funs:=I.stack
 frf:=I.stkFree
theorem anG(C:CompOk X.N X.env.scope.names sc N' k ixs)(I:Inv X pins Y H s)(hf:∀ b∈fp,FpOk X pins H b)(ho:∀ b∈fp,∃ o,s.heap.get? b=some o){m:Str->Option Value}(hn:h'.Ns s.heap.objs.size m)(hk:∀ b o,s.heap.get? b=some o->h'.get? b=some o):Inv (M9 X sc N' s.heap.objs.size s H fp pins) [] (compStart k ixs Y) H { s with heap:=h',toks:=t' } where
 ok:=aqv C I hf ho
 os:=rfl
 bare:=I.bare
 base:=Un.kept hk
 loc:=by
  refine ⟨m,hn,fun i x v e1 e2 e3=>?_⟩;unfold compStart at e2
  by_cases hi:i<k
  .rw [dD (by simpa using hi)] at e2;rw [List.getElem?_replicate_of_lt hi] at e2;cases e2
  .rw [fO (by simpa using hi),List.length_replicate] at e2;rw [T8] at e2;cases e4:ixs[i-k]? with
   | none=>rw [e4] at e2;cases e2
   | some j=>
    rw [e4] at e2;have e5:(Y[j]?).join=some v:=Option.some.inj e2;have e6:Y[j]?=some (some v):=by
     cases e7:Y[j]? with
     | none=>rw [e7] at e5;cases e5
     | some o=>rw [e7] at e5;exact congrArg some e5
    have e1':N'[i]?=some x:=e1;have ed:(N'.drop k)[i-k]?=some x:=by rw [List.getElem?_drop,show k+(i-k)=i by lia];exact e1'
    have n3:(x,NameKind.free)∈sc.names:=C.fr x (K8 ed);have n2:X.N[j]?=some x:=by
     have q:=congrArg (fun l=>l[i-k]?) C.at_;simp only [T8,e4,ed,Option.map_some] at q;exact Option.some.inj q
    obtain ⟨m0,lK,iF⟩:=I.loc;have oT:X.env.scope.names.lookup x=some .cell\/X.env.scope.names.lookup x=some .free:=C.free _ n3 rfl;obtain ⟨u,r,l⟩:=iF j x v n2 e6 (.inr oT);refine ⟨u,r,.inr ?_⟩
    rcases l with ⟨l,_⟩ | ⟨_,c,hc,M4⟩
    .have l':X.env.scope.names.lookup x=some .local:=l
     rcases oT with z | z
     .rw [l'] at z;cases z
     .rw [l'] at z;cases z
    .obtain ⟨c',h1,h2⟩:=ajF C I n3;rw [hc] at h2;cases h2;refine ⟨?_,c,h1,?_⟩
     .have e3':(relabel sc X.env).names.lookup x=some .local\/(relabel sc X.env).names.lookup x=some .cell\/(relabel sc X.env).names.lookup x=some .free:=e3
      rcases e3' with z | z
      .exfalso
       have mm:=uW z;unfold relabel at mm;obtain ⟨⟨n,k'⟩,hm,e⟩:=D8.mp mm;have k0:k'=.local/\n=x:=by
        dsimp only at e
        split at e
        .obtain ⟨_,q⟩:=Prod.mk.inj e
         cases q
        .exact ⟨(Prod.mk.inj e).2,(Prod.mk.inj e).1⟩
       obtain ⟨z1,z2⟩:=k0;subst z1 z2;have q1:=C.names _ hm rfl;rw [C.clean _ n3 rfl] at q1
       cases q1
      .exact z
     .exact M4.keeps hk
 cell:=fun x c e=>by
  obtain ⟨v,z⟩:=I.cell x c (jV C I e).1;exact ⟨v,z.keeps hk⟩
 free:=I.hok.fresh (C3 _)
 freeC:=fun x c e=>I.freeC x c (jV C I e).1
 pin:=fun p hp=>by
  have hp':p∈X.pn++pins:=by simpa [M9] using hp
  obtain ⟨e,n,ne,nf,d⟩:=I.pin p hp';refine ⟨hk _ _ e,n,L8 (Heap.lt_size e),fun hm=>?_,d⟩
  rcases K0.mp (I.stkSub _ hm) with z | z
  .exact ne z
  .exact nf z
 hok:=I.hok.kept hk
 len:=by rw [afy];exact C.len.symm
end
section
variable {prog:Program} {w:World} {A:Around} {R:Result->Shared->Prop} {s:Shared}
theorem af8{scope:Scope}{pos:Pos}{it acc:Value}{env:Env}(I:Nat->Shared->Prop)(turn:∀ n s,I n s->wpAny (model prog w) A (pyNext it) (fun r zu=>match r with
   | none=>R (.ok .next) zu
   | some v=>wpAny (model prog w) A (letOwnedTupleGo target it v) (fun _ zu=>wpAny (model prog w) A (assign target env v) (fun _ zx=>
     wpAny (model prog w) A (forIn ifs true fun c r=>if r=true then do let ok <- isTrue c env (eval c env);pure (ForInStep.yield ok) else pure (ForInStep.yield r)) (fun ok zw=>
      if ok=true then wpAny (model prog w) A (eval elt env) (fun x zo=>
       wpAny (model prog w) A (call (.builtin "list.append") [acc,x]) (fun _ zn=>∃ m,m<n/\I m zn) (notedBy (model prog w) A env fun e s'=>R (.error e) s') zo) (notedBy (model prog w) A env fun e s'=>R (.error e) s') zw
      else ∃ m,m<n/\I m zw) (notedBy (model prog w) A env fun e s'=>R (.error e) s') zx) (notedBy (model prog w) A env fun e s'=>R (.error e) s') zu) (notedBy (model prog w) A env fun e s'=>R (.error e) s') zu) (notedBy (model prog w) A env fun e s'=>R (.error e) s') s)(n:Nat)(h:I n s) :
  codeAny (model prog w) A (.compLoop (.ListComp elt [⟨target,iter,ifs,0⟩] scope pos) 0 it acc env) R s:=by
 refine codeAny_loop rfl I (fun n s hI=>?_) n h;show wpAny _ A ((compTurn (.ListComp elt [⟨target,iter,ifs,0⟩] scope pos) 0 it acc env).onRaise (fun x=>do noteFrame x env;theTreesLotGoes x)) _ _ s;refine wpAny_noted ?_;rw [compTurn_list];refine wpAny_bind (wpAny_standAt (wpAny_bind (wpAny_mono (turn n s hI) (fun r zu zr=>?_) fun _ _ h'=>h')))
 cases r with
 | none=>exact wpAny_pure zr
 | some v=>
  refine wpAny_bind (wpAny_mono zr (fun _ zu zr=>?_) fun _ _ h'=>h');refine wpAny_bind (wpAny_mono zr (fun _ zx zq=>wpAny_bind (wpAny_mono zq (fun ok zw zp=>?_) fun _ _ h'=>h')) fun _ _ h'=>h')
  cases ok with
  | false=>exact wpAny_pure ⟨rfl,zp⟩
  | true=>
   exact wpAny_bind (wpAny_bind (wpAny_mono zp (fun x zo zm=>wpAny_bind (wpAny_mono zm (fun _ zn zk=>wpAny_pure (wpAny_pure ⟨rfl,zk⟩)) fun _ _ h'=>h')) fun _ _ h'=>h'))
end
noncomputable def PIfs (X:Cx) (ifs:List Expr) (t:TT):Prop:=
 ∀ (pins:List (Addr×Obj)) (s:Shared) (Y:St) (H:Hp) (Q:Bool->Hp->Prop),Inv X pins Y H s->t Y H Q->
  wpAny (model X.prog X.w) X.A (forIn ifs true fun c r=>if r=true then do let ok <- isTrue c X.env (eval c X.env);pure (ForInStep.yield ok) else pure (ForInStep.yield r)) (TP X pins Y Q) X.xe s
noncomputable def tYes:TT:=fun _ H Q=>Q true H
theorem als : PIfs X [] tYes:=fun _ _ _ H _ I h=>wpAny_tests_nil ⟨H,I,h⟩
theorem alt{c:Expr}{t:TT}(hc:PT X c t):PIfs X [c] t:=fun pins s Y H Q I h=>wpAny_tests_one (hc pins s Y H Q I h)
noncomputable def tComp (wi:TI) (k:Nat) (ixs:List Nat) (g:TG) (c:TT) (te:TE):TE:=fun Y H Q=>wi Y H fun J H1=>∀ D,H1 D=none->
 ∃ (n:Nat) (W:Nat->List V->St->Hp->Prop),W 0 [] (compStart k ixs Y) (A0 H1 D (.lst []))/\∀ i ys σ2 H2,W i ys σ2 H2->H2 D=some (.lst ys)->
  (J.stop i H2/\Q (.ref D) H2)\/
  (i<n/\J.go i H2/\∀ x H',J.yld i H2 x H'->g x σ2 H' fun σ3 H3=>c σ3 H3 fun b H4=>
   if b=true then te σ3 H4 fun y H5=>H5 D=some (.lst ys)/\ys.length<sizeLine/\W (i+1) (ys++[y]) σ3 (A0 H5 D (.lst (ys++[y])))
   else H4 D=some (.lst ys)/\W (i+1) ys σ3 H4)
section
variable {X:Cx} {sc:Scope} {N':List Str} {k:Nat} {ixs:List Nat}
theorem ae3{pos:Pos}{J:It}(C:CompOk X.N X.env.scope.names sc N' k ixs)(M5:X.calm=true)(hg:∀ C zw zt fp pins,PG (M9 X sc N' C zw zt fp pins) target g)(hc:∀ C zw zt fp pins,PIfs (M9 X sc N' C zw zt fp pins) ifs c)(he:∀ C zw zt fp pins,PE (M9 X sc N' C zw zt fp pins) elt te){tn:Nat->Heap->Prop}(I:Inv X pins Y H s)(T:Turn X.prog X.w X.K target J fp it tn)(st:tn 0 s.heap)(hf:∀ b∈fp,FpOk X pins H b)(h:∀ D,H D=none->∃ (n:Nat) (W:Nat->List V->St->Hp->Prop),W 0 [] (compStart k ixs Y) (A0 H D (.lst []))/\∀ i ys σ2 H2,W i ys σ2 H2->H2 D=some (.lst ys)->
   (J.stop i H2/\Q (.ref D) H2)\/
   (i<n/\J.go i H2/\∀ x H',J.yld i H2 x H'->g x σ2 H' fun σ3 H3=>c σ3 H3 fun b H4=>
    if b=true then te σ3 H4 fun y H5=>H5 D=some (.lst ys)/\ys.length<sizeLine/\W (i+1) (ys++[y]) σ3 (A0 H5 D (.lst (ys++[y])))
    else H4 D=some (.lst ys)/\W (i+1) ys σ3 H4)){RR:Value->Addr->Result->Shared->Prop}(hRR:∀ D Cc (H':Hp) (s':Shared) (o:Obj) m,Inv X pins Y H' s'->Inv X (pins++[(Cc,o)]) Y H' s'->s'.heap.get? Cc=some o->s'.heap.Ns Cc m->H' Cc=none->Cc≠X.env.locals->X.s₀.heap.objs.size<=Cc->
   (∀ x c,X.env.cells.lookup x=some c->c≠Cc)->(∀ p∈X.pn++pins,p.1≠Cc)->Q (.ref D) H'->RR (.ref D) Cc (.ok .next) s') :
  wpAny (model X.prog X.w) X.A (newList []) (fun acc zw=>wpAny (model X.prog X.w) X.A (newFunctionEnv sc X.env.globals (cloOf X.env.cells sc.names []) [] X.env.qual none .none (some X.env)) (fun cenv zo=>
   codeAny (model X.prog X.w) X.A (.compStart (.ListComp elt [⟨target,iter,ifs,0⟩] sc pos) 0 (.ref it) acc { cenv with scope:=relabel sc X.env }) (RR acc cenv.locals) zo) E zw) E s:=by
 have fresh:=I.hok.fresh (C3 s.heap.objs.size);obtain ⟨n,W,w0,turn⟩:=h s.heap.objs.size fresh;have hfD:∀ b∈fp,b≠s.heap.objs.size:=fun b hb z=>by
  obtain ⟨o,e,_⟩:=T.obj _ _ st b hb;rw [z] at e;exact absurd (Heap.lt_size e) (Z4 _)
 have hf3:∀ b∈fp,FpOk X pins (A0 H s.heap.objs.size (.lst [])) b:=fun b hb=>⟨by rw [A7 (hfD b hb)];exact (hf b hb).1,(hf b hb).2⟩
 have main:∀ (s3:Shared) (zr:Heap) (t1:Nat),Inv X pins Y (A0 H s.heap.objs.size (.lst [])) s3->(∀ b o,s.heap.get? b=some o->s3.heap.get? b=some o)->zr.Ns s3.heap.objs.size (fun x=>([]:List (Str×Value)).reverse.lookup x)->
   (∀ b o,s3.heap.get? b=some o->zr.get? b=some o)->
   tn 0 zr/\codeAny (model X.prog X.w) X.A (.compLoop (.ListComp elt [⟨target,iter,ifs,0⟩] sc pos) 0 (.ref it) (.ref s.heap.objs.size) (M9 X sc N' s3.heap.objs.size s3 (A0 H s.heap.objs.size (.lst [])) fp pins).env) (RR (.ref s.heap.objs.size) s3.heap.objs.size) { s3 with heap:=zr,toks:=t1 }:=by
  intro s3 zr t1 I3 k3 eW keep3;have eT:tn 0 s3.heap:=T.keep _ _ _ st fun b hb o e=>k3 b o e
  have ho3:∀ b∈fp,∃ o,s3.heap.get? b=some o:=fun b hb=>let ⟨o,e,_⟩:=T.obj _ _ eT b hb;⟨o,e⟩
  have sR:tn 0 zr:=T.keep _ _ _ eT fun b hb o e=>keep3 b o e
  have B0:Inv (M9 X sc N' s3.heap.objs.size s3 (A0 H s.heap.objs.size (.lst [])) fp pins) [] (compStart k ixs Y) (A0 H s.heap.objs.size (.lst [])) { s3 with heap:=zr,toks:=t1 }:=anG C I3 hf3 ho3 eW keep3;refine ⟨sR,?_⟩;have fpX:∀ {H':Hp},(∀ b∈fp,H' b=none)->∀ b∈fp,FpOk (M9 X sc N' s3.heap.objs.size s3 (A0 H s.heap.objs.size (.lst [])) fp pins) [] H' b:=fun {H'} hn b hb=>by
   obtain ⟨o,eo⟩:=ho3 b hb;refine ⟨hn b hb,L8 (Heap.lt_size eo),?_,.inl hb,?_,?_⟩
   .intro hm
    rcases K0.mp (I3.stkSub b hm) with z | z
    .exact (hf b hb).2.1 z
    .exact (hf b hb).2.2.1 z
   .intro x cc ec;exact (hf b hb).2.2.2.2.1 x cc (jV C I3 ec).1
   .intro p hp;exact (hf b hb).2.2.2.2.2 p (by simpa [M9] using hp)
  refine af8 (fun m s'=>∃ i ys σ' H',m=n-i/\Inv (M9 X sc N' s3.heap.objs.size s3 (A0 H s.heap.objs.size (.lst [])) fp pins) [] σ' H' s'/\tn i s'.heap/\(∀ b∈fp,H' b=none)/\H' s.heap.objs.size=some (.lst ys)/\W i ys σ' H') ?_ n ⟨0,[],_,_,rfl,B0,sR,fun b hb=>(hf3 b hb).1,A3,w0⟩;rintro m s4 ⟨i,ys,σ4,H4,rfl,I4,st4,fr4,hD4,w4⟩;have again:∀ {i':Nat} {ys':List V} {σ7:St} {H7:Hp} {s6 s7:Shared},i<n->i'=i+1->tn i' s6.heap->Inv (M9 X sc N' s3.heap.objs.size s3 (A0 H s.heap.objs.size (.lst [])) fp pins) ([]++jP fp s6.heap) σ7 H7 s7->H7 s.heap.objs.size=some (.lst ys')->W i' ys' σ7 H7->
    ∃ m,m<n-i/\∃ i ys σ' H',m=n-i/\Inv (M9 X sc N' s3.heap.objs.size s3 (A0 H s.heap.objs.size (.lst [])) fp pins) [] σ' H' s7/\tn i s7.heap/\(∀ b∈fp,H' b=none)/\H' s.heap.objs.size=some (.lst ys)/\W i ys σ' H':=fun {i' ys' σ7 H7 s6 s7} C4 ei lL I7 hD w=>by
   subst ei;refine ⟨n-(i+1),by lia,i+1,ys',σ7,H7,rfl,I7.unpinned,T.keep _ _ _ lL fun b hb o e=>(I7.pin (b,o) (O5 _ (O5 _ (jQ hb e)))).1,fun b hb=>?_,hD,w⟩;obtain ⟨o,e,_⟩:=T.obj _ _ lL b hb;exact (I7.pin (b,o) (O5 _ (O5 _ (jQ hb e)))).2.1
  rcases turn i ys σ4 H4 w4 hD4 with ⟨stop,q⟩ | ⟨C4,go,step⟩
  .refine A9 (T.done (M9 X sc N' s3.heap.objs.size s3 (A0 H s.heap.objs.size (.lst [])) fp pins) rfl rfl rfl M5 i [] s4 σ4 H4 _ I4 (fpX fr4) st4 stop) fun r s5 lM=>?_
   obtain ⟨hr,I5⟩:=lM;subst hr;have back:Inv X pins Y H4 s5:=I3.call' (ch:=fp) I5.os I5.base I5.hok I5.bare fun b hb=>⟨(hf b hb).2.2.2.1,(hf b hb).2.1,(hf b hb).2.2.2.2.1,(hf b hb).2.2.2.2.2⟩
   obtain ⟨mm,hn5,_⟩:=I5.loc;obtain ⟨o,es,ep,ho,hd,f9⟩:=id hn5;have hC:s3.heap.objs.size≠X.env.locals:=Nat.ne_of_gt I3.lt;refine hRR s.heap.objs.size s3.heap.objs.size H4 s5 o mm back ?_ ho hn5 I5.free hC I3.sz ?_ ?_ q
   .refine back.pins_of fun p hp=>?_
    rcases G0.mp hp with z | z
    .exact back.pin p (O5 _ z)
    .have e:p=(s3.heap.objs.size,o):=by simpa using z
     subst e;exact ⟨ho,I5.free,hC,I3.nofs (C3 _),fun v z=>by rw [hd] at z;cases z⟩
   .intro x c e z;obtain ⟨v,q⟩:=I3.cell x c e
    have:=q.lt
    rw [z] at this;exact Z4 _ this
   .intro p hp z
    have:=Heap.lt_size (I3.pin p hp).1
    rw [z] at this;exact Z4 _ this
  .refine A9 (T.item (M9 X sc N' s3.heap.objs.size s3 (A0 H s.heap.objs.size (.lst [])) fp pins) rfl rfl rfl M5 i [] s4 σ4 H4 _ I4 (fpX fr4) st4 go) fun r s5 lM=>?_
   obtain ⟨u,hr,h5⟩:=lM;subst hr;refine A9 h5 fun _ s6 h6=>?_
   obtain ⟨x,H6,I6,r6,y6,lL,fr6⟩:=h6;have I6':=I6.pinned (fpX fr6) (T.obj _ _ lL);refine wpAny_mono (hg _ _ _ _ _ _ s6 σ4 H6 x u _ I6' r6 (step x H6 y6)) (fun _ s7 h7=>?_) fun _ _ z=>False.elim z
   obtain ⟨σ7,H7,I7,q7⟩:=h7;refine wpAny_mono (hc _ _ _ _ _ _ s7 σ7 H7 _ I7 q7) (fun ok s8 h8=>?_) fun _ _ z=>False.elim z
   obtain ⟨H8,I8,q8⟩:=h8
   cases ok with
   | false=>
    rw [if_neg L5] at q8 ⊢
    exact again C4 rfl lL I8 q8.1 q8.2
   | true=>
    rw [if_pos rfl] at q8 ⊢
    refine wpAny_mono (he _ _ _ _ _ _ s8 σ7 H8 _ I8 q8) (fun y s9 h9=>?_) fun _ _ z=>False.elim z
    obtain ⟨yv,H9,I9,r9,hD9,hz9,w9⟩:=h9;refine wpAny_mono (af4 (X:=(M9 X sc N' s3.heap.objs.size s3 (A0 H s.heap.objs.size (.lst [])) fp pins)) _ s9 σ7 H9 (.ref s.heap.objs.size) [yv] (.ref s.heap.objs.size) [y] (fun _ H'=>H'=A0 H9 s.heap.objs.size (.lst (ys++[yv]))) I9 rfl (.cons r9 .nil) ⟨_,ys,yv,rfl,rfl,hD9,hz9,rfl⟩) (fun _ s10 h10=>?_) fun _ _ z=>False.elim z
    obtain ⟨_,k5,I10,_,e10⟩:=h10;subst e10;exact again C4 rfl lL I10 A3 w9
 have I3:=I.lnew (ys:=[]) (its:=[]) (t':=s.toks) .nil (F7 _);refine wpAny_newObj_type (wpAny_newFunctionEnv C.cell (by intro y hy;simp at hy) (fun zr zf ze=>?_) C.kind);obtain ⟨sR,loop⟩:=main _ zr (s.toks+([]:List (Str×Value)).length) I3 (fun b o e=>Heap.get?_push_of_some _ e) zf fun b o e=>ze.extBut b o (L8 (Heap.lt_size e)) (Heap.get?_push_of_some _ e)
 exact codeAny_compStart_list loop (T.self X.A 0 _ _ _ sR loop)
theorem anH{pos:Pos}{wi:TI}(C:CompOk X.N X.env.scope.names sc N' k ixs)(M5:X.calm=true)(hi:PI X target iter wi)(hg:∀ C zw zt fp pins,PG (M9 X sc N' C zw zt fp pins) target g)(hc:∀ C zw zt fp pins,PIfs (M9 X sc N' C zw zt fp pins) ifs c)(he:∀ C zw zt fp pins,PE (M9 X sc N' C zw zt fp pins) elt te)(hs:∀ x,foldedSetIterable iter X.env x=pure x:=by intro _;rfl):PE X (.ListComp elt [⟨target,iter,ifs,0⟩] sc pos) (tComp wi k ixs g c te):=by
 intro pins s Y H Q I h;rw [eval_ListComp];refine wpAny_comprehension_free (use:=none) rfl hs (adf fun x hx hf=>I.ok.has x.1 (C.free x hx hf)) C.kind C.names (A9 (hi pins s Y H _ I h) fun v s1 h1=>A9 h1 fun itv s2 h2=>?_);obtain ⟨it,fp,tn,J,H2,e,I2,T,oO,f2,q2⟩:=h2;subst e;refine ae3 (RR:=fun acc C=>compPost (model X.prog X.w) X.A X.xe none (EP X pins Y Q) acc C) C M5 hg hc he I2 T oO f2 q2 ?_;intro D Cc H' s' o m I' _ ho hn hC hL Y0 M4 iG q;exact ⟨m,hn,fun h'' hs''=>⟨.ref D,H',I'.turned (t':=s'.toks) (fun b o hb e=>hs''.extBut b o hb e) hC hL (.inr Y0) M4 iG,rfl,q⟩⟩
theorem aiC{pos py:Pos}{wi:TI}(hN:X.N.Nodup)(hiN:X.N[i]?=some y)(hx:t5 X.env.scope y)(C:CompOk X.N X.env.scope.names sc N' k ixs)(M5:X.calm=true)(hi:PI X target iter wi)(hg:∀ C zw zt fp pins,PG (M9 X sc N' C zw zt fp pins) target g)(hc:∀ C zw zt fp pins,PIfs (M9 X sc N' C zw zt fp pins) ifs c)(he:∀ C zw zt fp pins,PE (M9 X sc N' C zw zt fp pins) elt te)(zB:swapsWith (.ListComp elt [⟨target,iter,ifs,0⟩] sc pos) (some (.Name y py)) spos.line X.env=pure true:=by rfl)(hf:X.fn y=true\/X.env.scope.names.lookup y=some .local:=by first | exact .inl rfl | exact .inr rfl | assumption)(hs:∀ x,foldedSetIterable iter X.env x=pure x:=by intro _;rfl):PS X (.Assign [.Name y py] (.ListComp elt [⟨target,iter,ifs,0⟩] sc pos) spos) (tAsg (tComp wi k ixs g c te) (gName i)):=by
 intro pins s Y H D I h;rw [exec_Assign_Name_used _ _ _ _ zB];refine wpAny_bind (wpAny_standAt (wpAny_bind ?_));show wpAny _ X.A (do let _ <- comprehension (.ListComp elt [⟨target,iter,ifs,0⟩] sc pos) sc X.env _ (newList []) false (eval iter X.env) (some (assign (.Name y py) X.env))) _ _ s;refine wpAny_bind (wpAny_mono (wpAny_comprehension_free (use:=some (assign (.Name y py) X.env)) (Q:=fun _ s'=>SP X pins D .next s') rfl hs (adf fun x hx hf=>I.ok.has x.1 (C.free x hx hf)) C.kind C.names
  (A9 (hi pins s Y H _ I h) fun v s1 h1=>A9 h1 fun itv s2 h2=>?_)) (fun _ s' hq=>wpAny_pure (wpAny_pure hq)) fun _ _ e=>e)
 obtain ⟨it,fp,tn,J,H2,e,I2,T,oO,f2,q2⟩:=h2;subst e;refine ae3 (Q:=fun x H1=>gName i x Y H1 D.nx) (RR:=fun acc C=>compPost (model X.prog X.w) X.A X.xe (some (assign (.Name y py) X.env)) (fun _ s'=>SP X pins D .next s') acc C) C M5 hg hc he I2 T oO f2 q2 ?_;intro Da Cc H' s' o m _ Ip ho hn hC hL Y0 M4 iG q;show wpAny _ X.A (assign (.Name y py) X.env (.ref Da)) _ _ _;refine wpAny_assign_Name (pW (v:=.ref Da) Ip hN hiN hx rfl (fun s'' I''=>?_) hf);have hC2:=(I''.pin (Cc,o) (O5 _ (O5 _ (E4.mpr rfl)))).1;refine ⟨m,hn.at' fun o' e'=>?_,fun h'' hs''=>?_⟩
 .rw [ho] at e';cases e';exact hC2
 .have I3:Inv X pins (Y.set i (some (.ref Da))) H' s'':=I''.unpinned;exact ⟨_,H',I3.turned (t':=s''.toks) (fun b o hb e=>hs''.extBut b o hb e) hC hL (.inr Y0) M4 iG,q⟩
end
end L2
end
set_option maxRecDepth 100000
namespace L2
open PySem PySem.Spec PyProof.Rows
section
variable {X:Cx} {a b:Expr} {ta tb:TE} {pos:Pos} {rest:List Expr}
noncomputable def tTru (K:PySem.W.Frag) (te:TE):TT:=fun Y H Q=>te Y H fun x H1=>∃ k,TruV K x H1 k/\Q k H1
theorem aqw(ha:PE X a ta)(he:∀ whole,isTrue a X.env whole=(do let v <- whole;standAt a.pos;holding [v] (truthy v)):=by intro _;rfl):PT X a (tTru X.K ta):=alb ha he
noncomputable def tNotT (K:PySem.W.Frag) (te:TE):TE:=fun Y H Q=>te Y H fun x H1=>∃ k,TruV K x H1 k/\Q (.bl (!k)) H1
end
mutual
inductive Dn (K:PySem.W.Frag) (H:Hp):V->PyData->Prop
 | non:Dn K H .non .none
 | bl (b):Dn K H (.bl b) (.bool b)
 | int (i):Dn K H (.int i) (.int i)
 | str (x):i6 x=true->Dn K H (.str x) (.str x)
 | lst {a xs ds} : D0 K H a xs->DnAll K H xs ds->Dn K H (.ref a) (.list ds)
 | tup {a xs ds} : B1 K H a xs->DnAll K H xs ds->Dn K H (.ref a) (.tuple ds)
inductive DnAll (K:PySem.W.Frag) (H:Hp):List V->List PyData->Prop
 | nil:DnAll K H [] []
 | cons {x xs d ds} : Dn K H x d->DnAll K H xs ds->DnAll K H (x::xs) (d::ds)
end
section
variable {X:Cx} {pins:List (Addr×Obj)} {Y:St} {H:Hp} {s:Shared}
mutual
theorem Dn.reads{K:PySem.W.Frag}{x:V}{d:PyData}(I:Inv X pins Y H s)(hK:X.K=K):Dn K H x d->∀ {u:Value},RelV x u->d.canLay0=true/\∃ as,Reads s.heap u d as
 | .non,u,r=>by cases r;exact ⟨rfl,_,.none⟩
 | .bl b,u,r=>by cases r;exact ⟨rfl,_,.bool b⟩
 | .int i,u,r=>by obtain ⟨t,rfl⟩:=r;exact ⟨rfl,_,.int i t⟩
 | .str x hx,u,r=>by obtain ⟨t,rfl⟩:=r;exact ⟨hx,_,.str x t⟩
 | .lst (a:=a) q hs,u,r=>by
  cases r
  subst hK;obtain ⟨its,rv,⟨o,n,e,c,_,dd⟩,_⟩:=I.list q;obtain ⟨h1,as,h2⟩:=DnAll.reads I rfl hs rv;exact ⟨h1,_,.list e c dd (by simpa using h2)⟩
 | .tup (a:=a) q hs,u,r=>by
  cases r
  subst hK;obtain ⟨its,rv,⟨o,e,c,n,dd⟩,_⟩:=I.tuple q;obtain ⟨h1,as,h2⟩:=DnAll.reads I rfl hs rv;exact ⟨h1,_,.tuple e c dd (by simpa using h2)⟩
theorem DnAll.reads{K:PySem.W.Frag}{xs:List V}{ds:List PyData}(I:Inv X pins Y H s)(hK:X.K=K):DnAll K H xs ds->∀ {us:List Value},Vals xs us->PyData.canLayAll0 ds=true/\∃ as,ReadsAll s.heap us ds as
 | .nil,us,r=>by cases r;exact ⟨rfl,_,.nil⟩
 | .cons h t,us,r=>by
  cases r with
  | cons r1 r2=>
   obtain ⟨c1,a1,q1⟩:=Dn.reads I hK h r1;obtain ⟨c2,a2,q2⟩:=DnAll.reads I hK t r2;exact ⟨by simp [PyData.canLayAll0,c1,c2],_,.cons q1 q2⟩
end
end
mutual
theorem Dn.same{K:PySem.W.Frag}{H H':Hp}(hs:Same H H'){x:V}{d:PyData} : Dn K H x d->Dn K H' x d
 | .non=>.non
 | .bl b=>.bl b
 | .int i=>.int i
 | .str x h=>.str x h
 | .lst q h=>.lst (hs.seq q) (DnAll.same hs h)
 | .tup (a:=a) (xs:=xs) q h=>.tup (by
   rcases q with (q | ⟨o,q⟩) | q
   .exact .inl (.inl (hs _ _ q))
   .exact .inl (.inr ⟨o,hs _ _ q⟩)
   .exact .inr q) (DnAll.same hs h)
theorem DnAll.same{K:PySem.W.Frag}{H H':Hp}(hs:Same H H'){xs:List V}{ds:List PyData} : DnAll K H xs ds->DnAll K H' xs ds
 | .nil=>.nil
 | .cons h t=>.cons (Dn.same hs h) (DnAll.same hs t)
end
theorem qH{K:PySem.W.Frag}{H:Hp} : ∀ {zs:List Str},(∀ z∈zs,i6 z=true)->DnAll K H (zs.map V.str) (zs.map bN)
 | [],_=>.nil
 | z::zs,h=>.cons (.str z (h z N3)) (qH fun y hy=>h y (N9 _ hy))
theorem jW{K:PySem.W.Frag}{H:Hp} : ∀ {zs:List Int},DnAll K H (zs.map V.int) (zs.map bO)
 | []=>.nil
 | z::zs=>.cons (.int z) jW
theorem uX:∀ (xs ys:List Str),Y4 (xs.map bN) (ys.map bN)=decide (xs=ys)
 | [],[]=>by simp [Y4]
 | [],_::_=>by simp [Y4]
 | _::_,[]=>by simp [Y4]
 | x::xs,y::ys=>by
  rw [E6,E6,Y4,uX xs ys];rw [show W2 (.str x) (.str y)=(x==y) by simp [W2]]
  by_cases h1:x=y
  .subst h1;simp
  .simp [h1]
theorem qI:∀ (xs ys:List Int),Y4 (xs.map bO) (ys.map bO)=decide (xs=ys)
 | [],[]=>by simp [Y4]
 | [],_::_=>by simp [Y4]
 | _::_,[]=>by simp [Y4]
 | x::xs,y::ys=>by
  rw [E6,E6,Y4,qI xs ys];rw [show W2 (.int x) (.int y)=(x==y) by simp [W2]]
  by_cases h1:x=y
  .subst h1;simp
  .simp [h1]
noncomputable def rAddR (K:PySem.W.Frag) (a b:Addr) (H:Hp) (Q:VK):Prop:=rCat (.ref a) (.ref b) H Q\/rCatT K (.ref a) (.ref b) H Q
theorem rAddR.l{K:PySem.W.Frag}{a b:Addr}{H:Hp}{Q:VK}{xs ys:List V}(h1:H a=some (.lst xs))(h2:H b=some (.lst ys))(h3:xs.length+ys.length<=sizeLine)(h:∀ p,H p=none->Q (.ref p) (A0 H p (.lst (xs++ys)))):rAddR K a b H Q:=.inl ⟨a,b,xs,ys,rfl,rfl,h1,h2,h3,h⟩
theorem rAddR.t{K:PySem.W.Frag}{a b:Addr}{H:Hp}{Q:VK}{xs ys:List V}(h1:B1 K H a xs)(h2:B1 K H b ys)(h0:xs≠[])(h3:xs.length+ys.length<=sizeLine)(he:ys=[]->Q (.ref a) H)(h:ys≠[]->∀ p,H p=none->Q (.ref p) (A0 H p (.tup (xs++ys)))):rAddR K a b H Q:=.inr ⟨a,b,xs,ys,rfl,rfl,h1,h2,h0,h3,he,h⟩
noncomputable def rAddU (K:PySem.W.Frag):V->V->Hp->VK->Prop
 | .int i,.int j,H,Q=>Q (.int (i+j)) H
 | .str i,.str j,H,Q=>i.length+j.length<=sizeLine/\Q (.str (i++j)) H
 | .ref a,.ref b,H,Q=>rAddR K a b H Q
 | _,_,_,_=>False
noncomputable def rMulU:V->V->Hp->VK->Prop
 | .int i,.int j,H,Q=>CMul i j/\Q (.int (i*j)) H
 | .ref a,.int j,H,Q=>rRep (.ref a) (.int j) H Q
 | _,_,_,_=>False
noncomputable def rEqU (K:PySem.W.Frag):V->V->Hp->VK->Prop
 | .int i,.int j,H,Q=>Q (.bl (decide (i=j))) H
 | .str i,.str j,H,Q=>Q (.bl (decide (i=j))) H
 | .bl i,.bl j,H,Q=>Q (.bl (decide (i=j))) H
 | x,y,H,Q=>∃ d e,Dn K H x d/\Dn K H y e/\min d.depth e.depth<=60/\Q (.bl (W2 d e)) H
noncomputable def rNeU (K:PySem.W.Frag):V->V->Hp->VK->Prop
 | .int i,.int j,H,Q=>Q (.bl (!decide (i=j))) H
 | .str i,.str j,H,Q=>Q (.bl (!decide (i=j))) H
 | .bl i,.bl j,H,Q=>Q (.bl (!decide (i=j))) H
 | x,y,H,Q=>∃ d e,Dn K H x d/\Dn K H y e/\min d.depth e.depth<=60/\Q (.bl (!PyData.eqv d e)) H
noncomputable def rLtU:V->V->Hp->VK->Prop
 | .int i,.int j,H,Q=>Q (.bl (decide (i<j))) H
 | .str i,.str j,H,Q=>Q (.bl (decide (i.cps.toList<j.cps.toList))) H
 | _,_,_,_=>False
noncomputable def rLeU:V->V->Hp->VK->Prop
 | .int i,.int j,H,Q=>Q (.bl (decide (i<=j))) H
 | .str i,.str j,H,Q=>Q (.bl (!decide (j.cps.toList<i.cps.toList))) H
 | _,_,_,_=>False
noncomputable def rGtU:V->V->Hp->VK->Prop
 | .int i,.int j,H,Q=>Q (.bl (decide (j<i))) H
 | .str i,.str j,H,Q=>Q (.bl (decide (j.cps.toList<i.cps.toList))) H
 | _,_,_,_=>False
noncomputable def rGeU:V->V->Hp->VK->Prop
 | .int i,.int j,H,Q=>Q (.bl (decide (j<=i))) H
 | .str i,.str j,H,Q=>Q (.bl (!decide (i.cps.toList<j.cps.toList))) H
 | _,_,_,_=>False
noncomputable def rInR (K:PySem.W.Frag) (neg:Bool) (x:V) (p:Addr) (H:Hp) (Q:VK):Prop:=uJ K neg x (.ref p) H Q\/∃ o,DGet H p x o/\Q (.bl (neg.xor o.isSome)) H
theorem rInR.l{K:PySem.W.Frag}{neg:Bool}{x:V}{p:Addr}{H:Hp}{Q:VK}{xs:List V}(h1:D0 K H p xs\/B1 K H p xs)(h2:flatV x=true)(h3:xs.all flatV=true)(h:Q (.bl (neg.xor (bS x xs))) H):rInR K neg x p H Q:=.inl ⟨p,xs,rfl,h1,h2,h3,by cases neg <;> simpa using h⟩
theorem rInR.d{K:PySem.W.Frag}{neg:Bool}{x:V}{p:Addr}{H:Hp}{Q:VK}{o:Option V}(h1:DGet H p x o)(h:Q (.bl (neg.xor o.isSome)) H):rInR K neg x p H Q:=.inr ⟨o,h1,h⟩
noncomputable def rInU (K:PySem.W.Frag) (neg:Bool) (x:V):V->Hp->VK->Prop
 | .str j,H,Q=>∃ i,x=.str i/\Q (.bl (neg.xor (!(Builtin.Str.occurrences j i 0 j.length 1).isEmpty))) H
 | .ref p,H,Q=>rInR K neg x p H Q
 | _,_,_=>False
section
variable {X:Cx} {pins:List (Addr×Obj)} {Y:St} {H:Hp} {s:Shared}
theorem p_add:G6 X (binaryOp .Add) (rAddU X.K):=by
 intro pins s Y H x y v u Q I rx ry h
 cases x <;> cases y <;> try exact h.elim
 .exact ao7 pins s Y H _ _ v u Q I rx ry ⟨_,_,rfl,rfl,h⟩
 .exact ait pins s Y H _ _ v u Q I rx ry ⟨_,_,rfl,rfl,h⟩
 .rcases h with h | h
  .exact aqr pins s Y H _ _ v u Q I rx ry h
  .exact anz pins s Y H _ _ v u Q I rx ry h
theorem p_sub:G6 X (binaryOp .Sub) (aA fun i j=>.int (i-j)):=ao8
theorem p_mul:G6 X (binaryOp .Mult) rMulU:=by
 intro pins s Y H x y v u Q I rx ry h
 cases x <;> cases y <;> try exact h.elim
 .exact ao9 pins s Y H _ _ v u Q I rx ry ⟨_,_,rfl,rfl,h⟩
 .exact aqs pins s Y H _ _ v u Q I rx ry h
theorem aqx:G6 X (binaryOp .FloorDiv) (rI CDiv fun i j=>.int (i / j)):=ank
theorem p_mod:G6 X (binaryOp .Mod) (rI (fun _ j=>0<j) fun i j=>.int (i % j)):=aqa
theorem qJ(hu:X.A.units+64<cLine){x y:V}{v u:Value}{Q:VK}(I:Inv X pins Y H s)(rx:RelV x v)(ry:RelV y u)(h:∃ d e,Dn X.K H x d/\Dn X.K H y e/\min d.depth e.depth<=60/\Q (.bl (W2 d e)) H):wpAny (model X.prog X.w) X.A (compareOp .Eq v u) (EP X pins Y Q) X.xe s:=by
 obtain ⟨d,e,h1,h2,hd,q⟩:=h;obtain ⟨c1,as,r1⟩:=h1.reads I rfl rx;obtain ⟨c2,bs,r2⟩:=h2.reads I rfl ry;exact SeqAt.compareEq_reads r1 r2 c1 c2 (by lia) ⟨.bl _,H,I,rfl,q⟩
theorem qK(hu:X.A.units+64<cLine){x y:V}{v u:Value}{Q:VK}(I:Inv X pins Y H s)(rx:RelV x v)(ry:RelV y u)(h:∃ d e,Dn X.K H x d/\Dn X.K H y e/\min d.depth e.depth<=60/\Q (.bl (!PyData.eqv d e)) H):wpAny (model X.prog X.w) X.A (compareOp .NotEq v u) (EP X pins Y Q) X.xe s:=by
 obtain ⟨d,e,h1,h2,hd,q⟩:=h;obtain ⟨c1,as,r1⟩:=h1.reads I rfl rx;obtain ⟨c2,bs,r2⟩:=h2.reads I rfl ry;exact SeqAt.compareNe_reads r1 r2 c1 c2 (by lia) ⟨.bl _,H,I,rfl,q⟩
theorem p_eq(hu:X.A.units+64<cLine):G6 X (compareOp .Eq) (rEqU X.K):=by
 intro pins s Y H x y v u Q I rx ry h;have sc:∀ {x y:V},rEq x y H Q->RelV x v->RelV y u->wpAny (model X.prog X.w) X.A (compareOp .Eq v u) (EP X pins Y Q) X.xe s:=fun {x y} h rx ry=>op_eq pins s Y H x y v u Q I rx ry h
 cases x with
 | int i=>cases y with
  | int j=>exact sc (x:=.int i) (y:=.int j) ⟨rfl,by simpa using (show Q (.bl (decide (i=j))) H from h)⟩ rx ry
  | _=>exact qJ hu I rx ry h
 | str i=>cases y with
  | str j=>exact sc (x:=.str i) (y:=.str j) ⟨rfl,by simpa using (show Q (.bl (decide (i=j))) H from h)⟩ rx ry
  | _=>exact qJ hu I rx ry h
 | bl i=>cases y with
  | bl j=>exact sc (x:=.bl i) (y:=.bl j) ⟨rfl,by simpa using (show Q (.bl (decide (i=j))) H from h)⟩ rx ry
  | _=>exact qJ hu I rx ry h
 | _=>cases y <;> exact qJ hu I rx ry h
theorem p_ne(hu:X.A.units+64<cLine):G6 X (compareOp .NotEq) (rNeU X.K):=by
 intro pins s Y H x y v u Q I rx ry h;have sc:∀ {x y:V},rNe x y H Q->RelV x v->RelV y u->wpAny (model X.prog X.w) X.A (compareOp .NotEq v u) (EP X pins Y Q) X.xe s:=fun {x y} h rx ry=>op_ne pins s Y H x y v u Q I rx ry h
 cases x with
 | int i=>cases y with
  | int j=>exact sc (x:=.int i) (y:=.int j) ⟨rfl,by simpa using (show Q (.bl (!decide (i=j))) H from h)⟩ rx ry
  | _=>exact qK hu I rx ry h
 | str i=>cases y with
  | str j=>exact sc (x:=.str i) (y:=.str j) ⟨rfl,by simpa using (show Q (.bl (!decide (i=j))) H from h)⟩ rx ry
  | _=>exact qK hu I rx ry h
 | bl i=>cases y with
  | bl j=>exact sc (x:=.bl i) (y:=.bl j) ⟨rfl,by simpa using (show Q (.bl (!decide (i=j))) H from h)⟩ rx ry
  | _=>exact qK hu I rx ry h
 | _=>cases y <;> exact qK hu I rx ry h
theorem p_lt:G6 X (compareOp .Lt) rLtU:=by
 intro pins s Y H x y v u Q I rx ry h
 cases x <;> cases y <;> try exact h.elim
 .exact op_lt pins s Y H _ _ v u Q I rx ry ⟨_,_,rfl,rfl,h⟩
 .exact afU pins s Y H _ _ v u Q I rx ry ⟨_,_,rfl,rfl,h⟩
theorem p_le:G6 X (compareOp .LtE) rLeU:=by
 intro pins s Y H x y v u Q I rx ry h
 cases x <;> cases y <;> try exact h.elim
 .exact op_le pins s Y H _ _ v u Q I rx ry ⟨_,_,rfl,rfl,h⟩
 .obtain ⟨t,rfl⟩:=rx;obtain ⟨t',rfl⟩:=ry;exact PySem.P.le_str ⟨.bl _,H,I,by simp [RelV],h⟩
theorem p_gt:G6 X (compareOp .Gt) rGtU:=by
 intro pins s Y H x y v u Q I rx ry h
 cases x <;> cases y <;> try exact h.elim
 .exact op_gt pins s Y H _ _ v u Q I rx ry ⟨_,_,rfl,rfl,h⟩
 .obtain ⟨t,rfl⟩:=rx;obtain ⟨t',rfl⟩:=ry;exact PySem.P.gt_str ⟨.bl _,H,I,rfl,h⟩
theorem p_in(hu:X.A.units+64<cLine):G6 X (compareOp .In) (rInU X.K false):=by
 intro pins s Y H x y v u Q I rx ry h
 cases y with
 | str j=>
  obtain ⟨i,rfl,q⟩:=h;exact ajm pins s Y H _ _ v u Q I rx ry ⟨i,j,rfl,rfl,by simpa using q⟩
 | ref p=>
  rcases h with h | ⟨o,g,q⟩
  .exact ajx pins s Y H _ _ v u Q I rx ry h
  .obtain rfl:u=Value.ref p:=ry;exact d_in (by lia) I g rx fun s3 I3=>⟨.bl o.isSome,H,I3,rfl,by simpa using q⟩
 | _=>exact h.elim
theorem anI(hu:X.A.units+64<cLine):G6 X (compareOp .NotIn) (rInU X.K true):=by
 intro pins s Y H x y v u Q I rx ry h
 cases y with
 | str j=>
  obtain ⟨i,rfl,q⟩:=h;exact af1 pins s Y H _ _ v u Q I rx ry ⟨i,j,rfl,rfl,by simpa using q⟩
 | ref p=>
  rcases h with h | ⟨o,g,q⟩
  .exact af0 pins s Y H _ _ v u Q I rx ry h
  .obtain rfl:u=Value.ref p:=ry;exact anC (by lia) I g rx fun s3 I3=>⟨.bl (!o.isSome),H,I3,rfl,by simpa using q⟩
 | _=>exact h.elim
noncomputable def cutS (x:Str) (lo hi:Option Int):Str:=⟨((x.cps.toList.drop (HT.sIx x.length 0 lo)).take (HT.sIx x.length x.length hi-HT.sIx x.length 0 lo)).toArray⟩
noncomputable def rSlS:V->Option Int->Option Int->Hp->VK->Prop:=fun x lo hi H Q=>∃ z,x=.str z/\z.length<=sizeLine/\Q (.str (cutS z lo hi)) H
end
end L2
variable {C a b f fa fo it ll md ml p r rl:PySem.Addr}{dvs vs xs ys:List L2.V}{Q:L2.VK}{v v' x:L2.V}{cd ct oc pm u vl vu:PySem.Value}{a0 a1 ck i j k m n t' x1:Nat}{items items2:Array PySem.Value}{ds fr ns:List Int}{its its' its2 us:List PySem.Value}{pins:List (PySem.Addr×PySem.Obj)}{Y:L2.St}{H H' H0 H1 H2 H3 Hb zt:L2.Hp}{s zw:PySem.Shared}{A:PySem.Around}{name q qual y z z':PySem.Str}{h h':PySem.Heap}{L L' M M' N N' acc bad g' ks line loose ls ls' ms ps ts zs:List PySem.Str}{K:PySem.W.Frag}{mg:PySem.Str->Option PySem.Value}{fd:PySem.FuncData}{sp:L2.Sp}{X:L2.Cx}{kvs:List (L2.B3×L2.V)}{prog:PySem.Program}{E:PySem.Value->PySem.Shared->Prop}{S ixs l' pre:List Nat}{e elt iter target tg:PySem.Expr}{elts ifs:List PySem.Expr}{g:L2.TG}{c:L2.TT}{td te ti tk tl to tv tx ty:L2.TE}{fp rs:List PySem.Addr}{apos cpos kpos p1 pos1 spos tpos:PySem.Pos}{b' bh calm fg neg:Bool}{st:PySem.Stmt}{an od:Option PySem.Addr}{tb:L2.TS}{D:L2.Ends}{lo:Int}{o:PySem.Obj}{ta:L2.TA}{ss:Array (Option PySem.Value)}
set_option maxRecDepth 100000
namespace L2
open PySem PySem.Spec PyProof.Rows
section
variable {X:Cx}
theorem ajG(x:Str)(lo hi:Option Int):Txt.slice x lo hi=cutS x lo hi:=by
 have c1:∀ (o:Option Int) (d:Nat),(match o with | none=>(d:Int) | some i=>if (1:Int) > 0 then max 0 (min (if i<0 then i+(x.length:Int) else i) (x.length:Int)) else max (-1) (min (if i<0 then i+(x.length:Int) else i) ((x.length:Int)-1)))=((HT.sIx x.length d o:Nat):Int):=by
  intro o d
  cases o with
  | none=>rfl
  | some i=>
   rw [<- HT.clip_eq i x.length d];simp only [show ((1:Int) > 0)=True by simp,if_true]
   split <;> lia
 have h2:Builtin.Str.strSliceIndices lo hi 1 x.length=Builtin.Str.strSliceIndices (some ((HT.sIx x.length 0 lo:Nat):Int)) (some ((HT.sIx x.length x.length hi:Nat):Int)) 1 x.length:=by
  have e1:=c1 lo 0;have e2:=c1 hi x.length;have e3:=c1 (some ((HT.sIx x.length 0 lo:Nat):Int)) 0;have e4:=c1 (some ((HT.sIx x.length x.length hi:Nat):Int)) x.length;have l1:=HT.sIx_le x.length 0 (F7 _) lo;have l2:=HT.sIx_le x.length x.length (C3 _) hi;rw [HT.sIx_nat,dN l1] at e3;rw [HT.sIx_nat,dN l2] at e4;unfold Builtin.Str.strSliceIndices
  dsimp only at e3 e4 ⊢
  rw [e3,e4];clear e3 e4 l1 l2;refine congr (congr (congrArg sliceRange ?_) ?_) rfl
  .cases lo with
   | none=>exact e1
   | some i=>exact e1
  .cases hi with
   | none=>exact e2
   | some i=>exact e2
 have l1:=HT.sIx_le x.length 0 (F7 _) lo;have l2:=HT.sIx_le x.length x.length (C3 _) hi;unfold Txt.slice cutS;rw [h2];generalize HT.sIx x.length 0 lo=a at *;generalize HT.sIx x.length x.length hi=b at *;have len:x.length=x.cps.toList.length:=by simp [Str.length]
 by_cases Y0:a<=b
 .rw [StrLaws.sliced_plain x Y0 l2,StrLaws.strSliceIndices_plain Y0 l2]
  split
  .rename_i hc
   have aV:b-a=x.length:=by simpa using hc
   have ha:a=0:=by lia
   subst ha;rw [List.drop_zero,o9 (by lia)]
  .rfl
 .have e:Builtin.Str.strSliceIndices (some (a:Int)) (some (b:Int)) 1 x.length=[]:=by
   have h1:¬ ((a:Int)<0):=by lia
   have h2:¬ ((b:Int)<0):=by lia
   have e1:max (0:Int) (min (a:Int) (x.length:Int))=a:=by lia
   have e2:max (0:Int) (min (b:Int) (x.length:Int))=b:=by lia
   simp only [Builtin.Str.strSliceIndices,sliceRange,h1,h2,if_false,e1,e2,show ((1:Int) > 0)=True from by simp,if_true];rw [if_neg (by lia)];rfl
  rw [e,show b-a=0 by lia,dI]
  split
  .rename_i hc
   have aV:0=x.length:=by simpa using hc
   have:x.cps.toList=[]:=List.eq_nil_of_length_eq_zero (by lia)
   obtain ⟨⟨l⟩⟩:=x;simp at this;subst this;rfl
  .rfl
theorem aqy:jS X rSlS:=by
 intro pins s Y H x v vl vu lo hi sl Q I rx hs pl pu h;obtain ⟨z,rfl,hz,q⟩:=h;obtain ⟨t,rfl⟩:=rx;refine ⟨"str",_,F.slot_str_getitem.lookup,typeIs_str _ _ _,?_⟩;rw [<- ajG] at q;have part:∀ {u:Value} {o:Option Int},IsPart u o->∃ l:Option (Int×Tok),u=partValue l/\l.map (·.1)=o:=fun {u o} p=>by
  cases p with
  | none=>exact ⟨none,rfl,rfl⟩
  | int i t=>exact ⟨some (i,t),rfl,rfl⟩
 obtain ⟨l,rfl,el⟩:=part pl;obtain ⟨u,rfl,eu⟩:=part pu;subst el eu;refine wpAny_getItem_str_slice (l:=l) (u:=u) (st:=none) hs rfl ?_;exact post_val_or_str ⟨N4 (Txt.slice_le z _ _) hz,fun t' k=>⟨.str _,H,I.tok _,⟨t',rfl⟩,q⟩⟩
theorem adJ{w:World}{t sl:Addr}{lo hi:Option Int}{Q:Value->Shared->Prop}(ht:IsTup s.heap t items)(hs:s.heap.IsSliceOf sl vl vu .none)(pl:IsPart vl lo)(pu:IsPart vu hi)(hw:HT.sIx items.size 0 lo=0/\HT.sIx items.size items.size hi=items.size)(h:Q (.ref t) s):wpAny (model prog w) A (getItem (.ref t) (.ref sl)) Q E s:=by
 obtain ⟨os,iC,sQ,eV⟩:=id hs;have hTs:s.TypeIs (.ref sl) "slice":=⟨os,iC,sQ⟩
 unfold getItem
 try with_reducible refine wpAny_holding ?_
 first | refine wpAny_bind (wpAny_pure ?_) | skip
 refine wpAny_bind (wpAny_sequenceKey ht.typeIs (by decide) ?_);refine wpAny_bind (wpAny_callSpecial?_slot (name:=Str.ofString "__getitem__") ht.typeIs PyProof.Rows.slot_tuple_getitem
  (wpAny_call_entry PyProof.Rows.slot_tuple_getitem ht.typeIs PyProof.Rows.entry_tuple_getitem ?_ (PyProof.Rows.args_tuple_getitem _ _)))
 show wpAny _ _ (Builtin.Tuple.tupleItemsOf (.ref t) >>= _) _ _ s;refine wpAny_bind (PyProof.Rows.tupleItemsOf_ ht ?_);refine wpAny_bind (wpAny_typeOf hTs ?_);rw [if_pos (by decide)];refine wpAny_bind (HT.sliceApplied_gen hs pl pu ?_);have zC:((((HT.sIx items.size 0 lo:Nat):Int)==0&&(1:Int)==1&&(HT.sIx items.size items.size hi-HT.sIx items.size 0 lo)==items.size)=true):=by
  rw [hw.1,hw.2]
  simp
 show wpAny _ _ (if (((HT.sIx items.size 0 lo:Nat):Int)==0&&(1:Int)==1&&(HT.sIx items.size items.size hi-HT.sIx items.size 0 lo)==items.size)=true then _ else _) _ _ s;rw [if_pos zC];refine wpAny_bind ?_;show wpAny _ _ (typeOf (.ref t) >>= fun v=>pure (v == .type "tuple")) _ _ s;refine wpAny_bind (wpAny_typeOf ht.typeIs (wpAny_pure ?_));rw [if_pos (by decide)];refine wpAny_bind (wpAny_rule ?_);exact wpAny_pure ⟨_,rfl,wpAny_pure h⟩
noncomputable def rSlW (K:PySem.W.Frag):V->Option Int->Option Int->Hp->VK->Prop:=fun x lo hi H Q=>∃ a xs,x=.ref a/\B1 K H a xs/\(HT.sIx xs.length 0 lo=0/\HT.sIx xs.length xs.length hi=xs.length)/\Q (.ref a) H
theorem aqz:jS X (rSlW X.K):=by
 intro pins s Y H x v vl vu lo hi sl Q I rx hs pl pu h;obtain ⟨a,xs,rfl,hx,hw,q⟩:=h
 cases rx
 obtain ⟨its,r,ht,hz⟩:=I.tuple hx;have A8:its.toArray.size=xs.length:=by rw [J8];exact r.length.symm
 refine ⟨"tuple",_,PyProof.Rows.slot_tuple_getitem.lookup,ht.typeIs,?_⟩;exact adJ ht hs pl pu (by rw [A8];exact hw) ⟨.ref a,H,I,rfl,q⟩
noncomputable def rSlR (K:PySem.W.Frag) (a:Addr) (lo hi:Option Int) (H:Hp) (Q:VK):Prop:=rSlL K (.ref a) lo hi H Q\/rSlT K (.ref a) lo hi H Q\/rSlW K (.ref a) lo hi H Q
theorem rSlR.l{lo hi:Option Int}(h1:D0 K H a xs)(h:∀ p,H p=none->Q (.ref p) (A0 H p (.lst (cutV xs lo hi)))):rSlR K a lo hi H Q:=.inl ⟨a,xs,rfl,h1,h⟩
theorem rSlR.t{lo hi:Option Int}(h1:B1 K H a xs)(h2:¬ (HT.sIx xs.length 0 lo=0/\HT.sIx xs.length xs.length hi=xs.length))(h:∀ p,H p=none->Q (.ref p) (A0 H p (.tup (cutV xs lo hi)))):rSlR K a lo hi H Q:=.inr (.inl ⟨a,xs,rfl,h1,h2,h⟩)
theorem rSlR.w{lo hi:Option Int}(h1:B1 K H a xs)(h2:HT.sIx xs.length 0 lo=0/\HT.sIx xs.length xs.length hi=xs.length)(h:Q (.ref a) H):rSlR K a lo hi H Q:=.inr (.inr ⟨a,xs,rfl,h1,h2,h⟩)
noncomputable def rSlU (K:PySem.W.Frag):V->Option Int->Option Int->Hp->VK->Prop
 | .str z,lo,hi,H,Q=>z.length<=sizeLine/\Q (.str (cutS z lo hi)) H
 | .ref a,lo,hi,H,Q=>rSlR K a lo hi H Q
 | _,_,_,_,_=>False
theorem p_sl:jS X (rSlU X.K):=by
 intro pins s Y H x v vl vu lo hi sl Q I rx hs pl pu h
 cases x with
 | str z=>exact aqy pins s Y H _ v vl vu lo hi sl Q I rx hs pl pu ⟨z,rfl,h⟩
 | ref a=>
  rcases h with h | h | h
  .exact anA pins s Y H _ v vl vu lo hi sl Q I rx hs pl pu h
  .exact aqm pins s Y H _ v vl vu lo hi sl Q I rx hs pl pu h
  .exact aqz pins s Y H _ v vl vu lo hi sl Q I rx hs pl pu h
 | _=>exact h.elim
noncomputable def LenR (K:PySem.W.Frag) (H:Hp) (p:Addr) (n:Nat):Prop:=(∃ xs,D0 K H p xs/\n=xs.length)\/(∃ xs,B1 K H p xs/\n=xs.length)\/∃ kvs,Rd H p (.dK kvs)/\n=kvs.length
noncomputable def rLenU (K:PySem.W.Frag):List V->Hp->VK->Prop
 | [.str z],H,Q=>z.length<=sizeLine/\Q (.int z.length) H
 | [.ref p],H,Q=>∃ n:Nat,LenR K H p n/\Q (.int n) H
 | _,_,_=>False
theorem p_len:CallR X (.builtin "len") (rLenU X.K):=by
 intro pins s Y H xs us Q I r h
 match xs,h with
 | [.str z],h=>exact uC pins s Y H _ us Q I r ⟨.str z,z.length,rfl,⟨h.1,rfl⟩,h.2⟩
 | [.ref p],⟨n,l,q⟩=>
  rcases l with ⟨xs,l,rfl⟩ | ⟨xs,l,rfl⟩ | ⟨kvs,l,rfl⟩
  .exact uC pins s Y H _ us Q I r ⟨.ref p,_,rfl,.inl ⟨xs,l,rfl⟩,q⟩
  .exact uC pins s Y H _ us Q I r ⟨.ref p,_,rfl,.inr ⟨xs,l,rfl⟩,q⟩
  .obtain ⟨u,rfl,ru⟩:=vals1 r
   cases ru
   exact d_len I l fun t s' I'=>⟨.int kvs.length,H,I',⟨t,rfl⟩,q⟩
theorem aeL(hc:X.calm=true):CallR X (.type "list") (fun xs H Q=>∃ d kvs,xs=[.ref d]/\Rd H d (.dK kvs)/\∀ l,H l=none->Q (.ref l) (A0 H l (.lst (kvs.map fun kv=>kV kv.1)))):=by
 intro pins s Y H xs us Q I r h;obtain ⟨d,kvs,rfl,e,q⟩:=h;obtain ⟨u,rfl,rx⟩:=vals1 r
 cases rx
 obtain ⟨z,hd,vs,rel,dd⟩:=dk_rd I.hok e;obtain ⟨ep,V0⟩:=dd.dictAt;have hl:=rel.length;refine PySem.W.kdl_call (PySem.W.kdl_dict (knd:=M6 X.prog X.w) (kvs:=vs) (ep:=ep) hd) (I.ok.hd hc) V0 (by lia) fun h' tk acc c' kp hD T0=>?_
 have hv:Vals (kvs.map fun kv=>kV kv.1) acc.toList:=by
  have hk:=rel.keys;have A8:acc.toList.length=kvs.length:=by rw [dP,T0.1,hl]
  have key:∀ (ks:List B3) (us:List Value),us.length=ks.length->(∀ (j:Nat) (v:Value),us[j]?=some v->∃ k,ks[j]?=some k/\keyIs k v=true)->Vals (ks.map kV) us:=by
   intro ks
   induction ks with
   | nil=>intro us h1 _;cases us with
    | nil=>exact .nil
    | cons _ _=>simp at h1
   | cons k ks ih=>
    intro us h1 h2
    cases us with
    | nil=>simp at h1
    | cons u us=>
     obtain ⟨k',e1,e2⟩:=h2 0 u rfl;simp at e1;subst e1;refine .cons ?_ (ih us (by simpa using h1) fun j v hj=>by simpa using h2 (j+1) v (by simpa using hj))
     rcases r0 e2 with ⟨i,t,rfl,rfl⟩ | ⟨x,t,rfl,rfl⟩
     .exact ⟨t,rfl⟩
     .exact ⟨t,rfl⟩
  rw [show (kvs.map fun kv=>kV kv.1)=(kvs.map (·.1)).map kV by rw [Q6];rfl];refine key _ _ (by rw [A8,A6]) fun j v hj=>?_
  obtain ⟨k,x,hx,zD⟩:=T0.2 j v (by rw [<- Array.getElem?_toList];exact hj);refine ⟨k,?_,zD⟩;rw [hk,T8,hx];rfl
 refine ⟨.ref s.heap.objs.size,_,I.laid (t':=tk) kp (C3 _) (show ObjOk X.prog X.w _ h' _ (.lst (kvs.map fun kv=>kV kv.1)) from ⟨by rw [A6];exact z,acc.toList,c',hv,by simpa using hD⟩),rfl,q _ (I.hok.fresh (C3 _))⟩
noncomputable def rListR (K:PySem.W.Frag) (calm:Bool) (p:Addr) (H:Hp) (Q:VK):Prop:=(∃ ys,(D0 K H p ys\/B1 K H p ys)/\∀ l,H l=none->Q (.ref l) (A0 H l (.lst ys)))\/(calm=true/\∃ kvs,Rd H p (.dK kvs)/\∀ l,H l=none->Q (.ref l) (A0 H l (.lst (kvs.map fun kv=>kV kv.1))))
theorem rListR.l(h1:D0 K H p ys\/B1 K H p ys)(h:∀ l,H l=none->Q (.ref l) (A0 H l (.lst ys))):rListR K calm p H Q:=.inl ⟨ys,h1,h⟩
theorem rListR.d(h1:Rd H p (.dK kvs))(h:∀ l,H l=none->Q (.ref l) (A0 H l (.lst (kvs.map fun kv=>kV kv.1)))):rListR K true p H Q:=.inr ⟨rfl,kvs,h1,h⟩
noncomputable def uY (K:PySem.W.Frag) (calm:Bool):List V->Hp->VK->Prop
 | [.ref p],H,Q=>rListR K calm p H Q
 | _,_,_=>False
theorem aqA:CallR X (.type "list") (uY X.K X.calm):=by
 intro pins s Y H xs us Q I r h
 match xs,h with
 | [.ref p],h=>
  rcases h with ⟨ys,h1,h2⟩ | ⟨hc,kvs,h1,h2⟩
  .exact af2 pins s Y H _ us Q I r ⟨p,ys,rfl,h1,h2⟩
  .exact aeL hc pins s Y H _ us Q I r ⟨p,kvs,rfl,h1,h2⟩
noncomputable def rAllB (calm:Bool):List V->Hp->VK->Prop
 | [.ref p],H,Q=>∃ bs:List Bool,calm=true/\H p=some (.lst (bs.map V.bl))/\Q (.bl (bs.all id)) H
 | _,_,_=>False
noncomputable def jX (H:Hp):V->Option String
 | .non=>some "NoneType"
 | .bl _=>some "bool"
 | .int _=>some "int"
 | .str _=>some "str"
 | .ref a=>match H a with
  | some (.lst _)=>some "list"
  | some (.frz _ (.lst _))=>some "list"
  | some (.tup _)=>some "tuple"
  | some (.dK _)=>some "dict"
  | _=>none
 | _=>none
noncomputable def uZ (T n:String):Bool:=T==n || (T == "bool" && n == "int")
noncomputable def isTys:List String:=["str", "int", "bool", "list", "tuple", "dict"]
noncomputable def rIsi:List V->Hp->VK->Prop
 | [x,.ty n],H,Q=>∃ T,jX H x=some T/\isTys.contains n=true/\Q (.bl (uZ T n)) H
 | _,_,_=>False
theorem aqB{T:String}(h:jX H x=some T):TyOf K H x (.type T)/\["NoneType", "bool", "int", "str", "list", "tuple", "dict"].contains T=true:=by
 cases x with
 | non=>cases h;exact ⟨.non,by decide⟩
 | bl b=>cases h;exact ⟨.bl b,by decide⟩
 | int i=>cases h;exact ⟨.int i,by decide⟩
 | str z=>cases h;exact ⟨.str z,by decide⟩
 | ref a=>
  unfold jX at h
  dsimp only at h
  cases e:H a with
  | none=>rw [e] at h;cases h
  | some o=>
   rw [e] at h
   cases o with
   | lst xs=>cases h;exact ⟨.lst e,by decide⟩
   | tup xs=>cases h;exact ⟨.tup e,by decide⟩
   | dK kvs=>cases h;exact ⟨.dK e,by decide⟩
   | frz ob u=>
    cases u with
    | lst xs=>cases h;exact ⟨.frz e,by decide⟩
    | _=>cases h
   | _=>cases h
 | _=>cases h
theorem anJ(K:PySem.W.Frag):∀ T∈["NoneType", "bool", "int", "str", "list", "tuple", "dict"],∀ n∈isTys,PySem.W.kitOne K (.type T) (.type n)=some (uZ T n):=by
 intro T hT n hn;simp only [K0,jI,or_false,isTys] at hT hn
 rcases hT with rfl | rfl | rfl | rfl | rfl | rfl | rfl <;> rcases hn with rfl | rfl | rfl | rfl | rfl | rfl <;> rfl
theorem alu:CallR X (.builtin "isinstance") rIsi:=by
 intro pins s Y H xs us Q I r h
 match xs,h with
 | [x,.ty n],⟨T,h1,h2,q⟩=>
  obtain ⟨u,c,rfl,ru,rc⟩:=vals2 r;obtain rfl:c=Value.type n:=rc;obtain ⟨h3,h4⟩:=aqB (K:=X.K) h1;exact ajr I ru h3 (anJ X.K T (by simpa using h4) n (by simpa using h2)) fun tk=>⟨.bl _,H,I.tok tk,rfl,q⟩
noncomputable def rOrd:List V->Hp->VK->Prop
 | [.str z],H,Q=>z.length=1/\Q (.int (z.cps.getD 0 0:Nat)) H
 | _,_,_=>False
noncomputable def gD (x:Str):It:=⟨fun i _=>i<x.cps.size,fun i H v H'=>H'=H/\∃ c,x.cps.toList[i]?=some c/\v=.str ⟨#[c]⟩,fun i _=>x.cps.size<=i⟩
theorem alv{P:Program}{w:World}{ty:String}(W4:ty="str_ascii_iterator"\/ty="str_iterator")(it:Addr)(x:Str)(t:Tok):Turn P w K tg (gD x) [it] it (fun i h=>h.IsStrIter it ty x t i) where
 mem:=by simp
 obj:=fun i h st b hb=>by
  have e:b=it:=by simpa using hb
  subst e;obtain ⟨o,e,c,d⟩:=st;exact ⟨o,e,fun v z=>by rw [d] at z;cases z⟩
 keep:=fun i h h' st k=>let ⟨o,e,r⟩:=st;⟨o,k it (by simp) o e,r⟩
 item:=by
  intro X hP hw hK hc i pins s Y H E I hf st hg;subst hP hw hK;obtain ⟨f0,f1,f2,f3,f4,f5⟩:=hf it (by simp);have iH:i<x.cps.size:=hg;have go:∀ h',h'.IsStrIter it ty x t (i+1)->Heap.SameBut it s.heap h'->∃ u,some (Value.str ⟨#[x.cps[i]]⟩ s.toks)=some u/\
    wpAny (model X.prog X.w) X.A (letOwnedTupleGo tg (.ref it) u) (fun _ s2=>∃ y H',Inv X pins Y H' s2/\RelV y u/\(gD x).yld i H y H'/\s2.heap.IsStrIter it ty x t (i+1)/\∀ b∈[it],H' b=none) E { s with heap:=h',toks:=s.toks+1 }:=by
   intro h' st' sb;have I1:Inv X pins Y H { s with heap:=h',toks:=s.toks+1 }:=I.turned (t':=s.toks+1) (fun b o hb e=>(sb.2 b hb).trans e) f0 f1 f3 f4 f5;obtain ⟨o,e,c,d⟩:=id st';refine ⟨_,rfl,go_of (s:={ s with heap:=h',toks:=s.toks+1 }) e c d (by rcases W4 with rfl | rfl <;> decide) ⟨.str ⟨#[x.cps[i]]⟩,H,I1,⟨_,rfl⟩,⟨rfl,x.cps[i],?_,rfl⟩,st',fun b hb=>(hf b hb).1⟩⟩;simp [iH]
  rcases W4 with rfl | rfl
  .exact wpAny_pyNext_ascii_item st (c:=x.cps[i]) (by simp [iH]) go
  .exact wpAny_pyNext_wide_item st (c:=x.cps[i]) (by simp [iH]) go
 done:=by
  intro X hP hw hK hc i pins s Y H E I hf st hg;subst hP hw hK;obtain ⟨f0,f1,f2,f3,f4,f5⟩:=hf it (by simp);have iH:x.cps.size<=i:=hg;have fin:∀ h',Heap.ExtBut it s.heap h'->(none:Option Value)=none/\Inv X pins Y H { s with heap:=h' }:=fun h' eb=>⟨rfl,I.turned (t':=s.toks) (fun b o hb e=>eb b o hb e) f0 f1 f3 f4 f5⟩
  rcases W4 with rfl | rfl
  .exact wpAny_pyNext_ascii_end (I.ok.hd hc) st (by simp [iH]) fin
  .exact wpAny_pyNext_wide_end (I.ok.hd hc) st (by simp [iH]) fin
 self:=fun A i s Q E st h=>by
  rcases W4 with rfl | rfl
  .exact wpAny_pyIter_striter_ascii st h
  .exact wpAny_pyIter_striter_wide st h
noncomputable def iStr (tl:TE):TI:=fun Y H R=>tl Y H fun x H1=>∃ z,x=.str z/\R (gD z) H1
variable {tg:Expr}
theorem aqC{l:Expr}(hl:PE X l tl):PI X tg l (iStr tl):=by
 intro pins s Y H R I h;refine A9 (hl pins s Y H _ I h) fun v s1 ⟨x,H1,I1,r1,q1⟩=>?_
 obtain ⟨z,rfl,q⟩:=q1;obtain ⟨t,rfl⟩:=r1;have fin:∀ (ty:String) (W4:ty="str_ascii_iterator"\/ty="str_iterator"),tY X pins Y tg R (.ref s1.heap.objs.size) { s1 with heap:=s1.heap.push { cls:=.type ty,data:=.fields #[.str z t,.int 0 0] } }:=fun ty W4=>by
  refine ⟨s1.heap.objs.size,[s1.heap.objs.size],_,_,H1,rfl,I1.kept (t':=s1.toks) fun b o e=>Heap.get?_push_of_some _ e,alv W4 s1.heap.objs.size z t,⟨_,Heap.get?_push_size _ rfl,rfl,rfl⟩,fun b hb=>?_,q⟩;have e:b=s1.heap.objs.size:=by simpa using hb
  subst e;exact I1.fpOk (C3 _) (I1.hok.fresh (C3 _))
 cases ha:z.cps.all (· < 128)
 .exact wpAny_pyIter_wide ha (fin _ (.inr rfl))
 .exact wpAny_pyIter_ascii ha (fin _ (.inl rfl))
end
end L2
set_option maxRecDepth 100000
namespace L2
open PySem PySem.Spec PyProof.Rows
noncomputable def L0:Expr->Bool
 | .Starred _ _=>true
 | _=>false
noncomputable def X5 (es:List Expr):Bool:=es.all fun e=>!L0 e
theorem N6{es:List Expr}{env:Env}(h:L0 e=false):starEach (e::es) env=(false,eval e env)::starEach es env:=by
 cases e <;> first | rfl | cases h
theorem gE{pos:Pos}{env:Env} : ∀ {es:List Expr},X5 es=true->(backTo pos (starEach es env)).any (·.1)=false
 | [],_=>rfl
 | e::es,h=>by
  have h':(!L0 e&&X5 es)=true:=h;rw [Z5] at h';rw [N6 (by simpa using h'.1)];have ih:=gE (pos:=pos) (env:=env) h'.2;unfold backTo at ih ⊢
  rw [E6,y7,ih];rfl
theorem ahP{pos:Pos}{env:Env} : ∀ {es:List Expr},X5 es=true->(backTo pos (starEach es env)).all (fun x=>!x.1)=true
 | [],_=>rfl
 | e::es,h=>by
  have h':(!L0 e&&X5 es)=true:=h;rw [Z5] at h';rw [N6 (by simpa using h'.1)];have ih:=ahP (pos:=pos) (env:=env) h'.2;unfold backTo at ih ⊢
  rw [E6,List.all_cons,ih];rfl
section
variable {X:Cx} {e:Expr} {es:List Expr} {te:TE} {t:TA} {x:Str} {p pos:Pos} {id T:String} {r:List V->Hp->VK->Prop}
theorem pa_c(ha:PE X e te)(hr:PA X es t)(h:L0 e=false:=by rfl):PA X (e::es) (tCons te t):=anr ha hr (N6 h)
theorem pe_cB(hc:CallR X (.builtin id) r)(hg:Gl X x)(hm:X.mg x=none)(hv:bootBuiltins x=some (.builtin id))(ha:PA X (e::es) t)(h1:L0 e=false:=by rfl)(h2:X5 es=true:=by rfl)(hn:x≠"__name__":=by decide)(R7:(x==("__debug__" : Str))=false:=by decide) :
  PE X (.Call (.Name x p) (e::es) [] pos) (gA r t):=alg hc hg hm hv ha hn R7 (N6 h1) (gE h2)
theorem pe_cT(hc:CallR X (.type T) r)(hg:Gl X x)(hm:X.mg x=none)(hv:bootBuiltins x=some (.type T))(ha:PA X (e::es) t)(h1:L0 e=false:=by rfl)(h2:X5 es=true:=by rfl)(hn:x≠"__name__":=by decide)(R7:(x==("__debug__" : Str))=false:=by decide) :
  PE X (.Call (.Name x p) (e::es) [] pos) (gA r t):=aju hc hg hm hv ha hn R7 (N6 h1) (gE h2)
variable {o:Expr} {to:TE} {name:Str} {apos cpos:Pos} {rm:V->List V->Hp->VK->Prop}
theorem pe_mB(pa:PlainAttrs T)(slot:Slot T name id)(W4:typeOf (.builtin id)=pure (.type "method_descriptor"))(hm:qB X id rm)(ho:PE X o to)(ha:PA X (e::es) t)(h1:L0 e=false:=by rfl)(h2:X5 es=true:=by rfl)(h3:decide ((e::es).length<30)=true:=by rfl)(F8:attributeBase o name X.env (eval o X.env)=eval o X.env:=by rfl)(F9:(apos.endLine==cpos.line)=true:=by rfl):PE X (.Call (.Attribute o name apos) (e::es) [] cpos) (qC X.K T rm to t):=
 pe_bm pa slot W4 hm ho ha F8 (by
  rw [ahP (show X5 (e::es)=true by show (!L0 e&&X5 es)=true;rw [h1,h2];rfl)];have h3':(e::es).length<30:=of_decide_eq_true h3;simp only [List.isEmpty_nil,if_true,Z2,Nat.add_zero,Bool.true_and];rw [decide_eq_true h3'];rfl) F9 (N6 h1) (gE h2)
variable {tg a b:Expr} {ta:TA}
theorem pi_r1(hg:Gl X "range")(hm:X.mg "range"=none)(ha:PA X [a] ta)(h1:L0 a=false:=by rfl):PI X tg (.Call (.Name "range" p) [a] [] pos) (iRng1 ta):=ajf hg hm ha (by rw [N6 h1];rfl)
theorem pi_r2(hg:Gl X "range")(hm:X.mg "range"=none)(ha:PA X [a,b] ta)(h1:L0 a=false:=by rfl)(h2:L0 b=false:=by rfl):PI X tg (.Call (.Name "range" p) [a,b] [] pos) (iRng2 ta):=ajg hg hm ha (by rw [N6 h1,N6 h2];rfl) (by rw [N6 h2];rfl)
end
noncomputable def FO (P:Program) (w:World) (K:PySem.W.Frag) (mg:Str->Option Value) (base:Heap) (k:Nat) (x:Str) (ps:List Str) (dvs:List V) (sp:Sp):Prop:=
 ∃ f fd,FnOk P w K mg base D9 k f fd ps sp/\mg x=some (.ref f)/\V3 K (.ref f)=true/\∃ ds,Binds K fd ps ds/\Vals dvs ds
structure FunD(K:PySem.W.Frag)(x qual:Str)(st:Stmt)(f:Addr)(fd:FuncData):Prop where
 ex:∃ (oc:Value) (od:Option Addr) (dV kV doc pm:Value) (an:Option Addr) (cdv ct:Value) (osl:Array (Option Value)),
  fd=T9 x qual (V4 st) (U4 st) (C1 st) dV kV doc pm an cdv ct/\K.lookup f=some ⟨oc,od,.func fd,osl⟩/\X2 K cdv qual=true
section
variable {P:Program} {w:World} {K:PySem.W.Frag} {mg:Str->Option Value} {base:Heap}
theorem FunD.ok{x:Str}(F:FunD K x qual st f fd)(S:FnScope N ps (C1 st))(len:∀ vs H Q E,sp vs H Q E->vs.length=ps.length)(v8:∀ (cdv:Value) (A:Around) (outer:List Env) (s:Shared) (H:Hp) (vs:List V) (Q:VK) (E:XK),Room k (A.deeper (envOfC qual (C1 st) s.heap.objs.size f cdv))->sp vs H Q E->
   ∃ t,Y5 (cxOf D9 P w K mg base N qual (C1 st) f cdv A outer s H E).nox (U4 st) t/\t { nx:=fun _ H'=>Q .non H',rt:=Q } (start N vs) H):FnOk P w K mg base D9 (k+1) f fd ps sp:=by
 obtain ⟨oc,od,dV,kV,doc,pm,an,cdv,ct,osl,rfl,lk,o7⟩:=F.ex;refine fn_of lk o7 S len fun A outer s H vs Q E hr eU=>?_
 obtain ⟨t,h,q⟩:=v8 cdv A outer s H vs Q E hr eU;exact ⟨t,h.nox,q⟩
theorem t6{x:Str}{osl:Array (Option Value)}{dV kV doc cdv:Value}(l:K.lookup f=some ⟨oc,od,.func (T9 x qual (V4 st) (U4 st) (C1 st) dV kV doc pm an cdv ct),osl⟩)(c:X2 K cdv qual=true):FunD K x qual st f (T9 x qual (V4 st) (U4 st) (C1 st) dV kV doc pm an cdv ct):=⟨oc,od,dV,kV,doc,pm,an,cdv,ct,osl,rfl,l,c⟩
end
section
variable {X:Cx} {k:Nat} {ps:List Str} {sp:Sp} {dvs:List V} {x:Str} {p pos:Pos} {e:Expr} {es:List Expr} {t:TA}
theorem alw(G:FO X.prog X.w X.K X.mg X.base k x ps dvs sp)(hr:Room k X.A)(ha:PA X (e::es) t)(hg:Gl X x:=by rfl)(h1:L0 e=false:=by rfl)(h2:X5 es=true:=by rfl)(R7:(x==("__debug__" : Str))=false:=by decide):PE X (.Call (.Name x p) (e::es) [] pos) (tCall sp dvs E0 t):=by
 obtain ⟨f,fd,F,hm,hk,ds,hb,hd⟩:=G;exact ans F hr hg hm hk hb hd pass0 ha R7 (N6 h1) (gE h2)
theorem alx{i:Int}(h:∃ t,X.mg x=some (.int i t))(hg:Gl X x:=by rfl)(hd:(x==("__debug__" : Str))=false:=by decide):PE X (.Name x p) (tC (.int i)):=by
 obtain ⟨t,h⟩:=h;exact ajc hg h ⟨t,rfl⟩ hd
theorem aly(h:X.mg x=some (.ref a))(hg:Gl X x:=by rfl)(hd:(x==("__debug__" : Str))=false:=by decide):PE X (.Name x p) (tC (.ref a)):=ajc hg h rfl hd
end
section
variable {Y:St} {H:Hp} {Q:VK} {B:Bool->Hp->Prop} {ta tb tc te:TE} {t u:TS} {tt uu:TT} {D:Ends} {i:Nat} {v:V} {r r':R2} {K:PySem.W.Frag} {taa:TA} {R:List V->Hp->Prop} {g:TG}
theorem amF:tVar i Y H Q=∃ v,(Y[i]?).join=some v/\Q v H:=by
 unfold tVar;refine propext ⟨fun ⟨v,h,q⟩=>⟨v,by rw [h];rfl,q⟩,fun ⟨v,h,q⟩=>⟨v,?_,q⟩⟩;cases e:Y[i]? with
 | none=>rw [e] at h;cases h
 | some o=>rw [e] at h;exact congrArg some h
theorem ap_c:tC v Y H Q=Q v H:=rfl
theorem ap_op:bQ r ta tb Y H Q=ta Y H fun x H1=>tb Y H1 fun y H2=>r x y H2 Q:=rfl
theorem ap_un{ru:V->Hp->VK->Prop} : tZ ru ta Y H Q=ta Y H fun x H1=>ru x H1 Q:=rfl
theorem ap_rU{f:Int->V} : rU f x H Q=∃ i,x=.int i/\Q (f i) H:=rfl
theorem anK:tTest ta Y H B=ta Y H fun x H'=>∃ k,x=.bl k/\B k H':=rfl
theorem ap_tB:tB ta Y H B=ta Y H fun x H'=>∃ k,x=.bl k/\B k H':=rfl
theorem anL:tTru K ta Y H B=ta Y H fun x H'=>∃ k,TruV K x H' k/\B k H':=rfl
theorem anM:tNotT K ta Y H Q=ta Y H fun x H'=>∃ k,TruV K x H' k/\Q (.bl (!k)) H':=rfl
theorem alz:uB r r' ta tb tc Y H Q=ta Y H fun x H1=>tb Y H1 fun y H2=>r x y H2 fun z H3=>∃ k,z=.bl k/\(if k=true then tc Y H3 fun w' H4=>r' y w' H4 Q else Q (.bl false) H3):=rfl
theorem aqD:tAnd tt uu Y H B=tt Y H fun c H1=>if c=true then uu Y H1 B else B false H1:=rfl
theorem ap_or:tT tt uu Y H B=tt Y H fun c H1=>if c=true then B true H1 else uu Y H1 B:=rfl
theorem aqE:tNot tt Y H B=tt Y H fun c H1=>B (!c) H1:=rfl
theorem anN:tAndV ta tb Y H Q=ta Y H fun x H1=>∃ c,x=.bl c/\if c=true then tb Y H1 Q else Q (.bl false) H1:=rfl
theorem aqF:tOrV ta tb Y H Q=ta Y H fun x H1=>∃ c,x=.bl c/\if c=true then Q (.bl true) H1 else tb Y H1 Q:=rfl
theorem anO:tNotV ta Y H Q=ta Y H fun x H1=>∃ c,x=.bl c/\Q (.bl (!c)) H1:=rfl
theorem ap_if:tU tt ta tb Y H Q=tt Y H fun c H1=>if c=true then ta Y H1 Q else tb Y H1 Q:=rfl
theorem anP:tNext D Y H=D.nx Y H:=rfl
theorem aqG:tSeq t u D Y H=t { D with nx:=u D } Y H:=rfl
theorem alA:aoX D Y H=D.bk Y H:=rfl
theorem anQ:tCont D Y H=D.ct Y H:=rfl
theorem anR:tDrop te D Y H=te Y H fun _ H1=>D.nx Y H1:=rfl
theorem aqH:tRet te D Y H=te Y H D.rt:=rfl
theorem anS:tRetN D Y H=D.rt .non H:=rfl
theorem aqI:tIfS tt t u D Y H=tt Y H fun b H1=>if b=true then t D Y H1 else u D Y H1:=rfl
theorem alB:tV D Y H=False:=rfl
theorem anT{Z:St->Hp->Prop} : gName i v Y H Z=Z (Y.set i (some v)) H:=rfl
theorem anU{Z:St->Hp->Prop} : gNil vs Y H Z=(vs=[]/\Z Y H):=rfl
theorem alC{us:m5}{Z:St->Hp->Prop} : gCons g us vs Y H Z=∃ v r,vs=v::r/\g v Y H fun σ' H'=>us r σ' H' Z:=rfl
theorem anV{us:m5}{Z:St->Hp->Prop} : gTup K n us v Y H Z=∃ a xs,v=.ref a/\B1 K H a xs/\xs.length=n/\us xs Y H Z:=rfl
theorem anW{ts:TSet}{Z:St->Hp->Prop} : gSub ta tb ts v Y H Z=ta Y H fun o H1=>tb Y H1 fun i H2=>ts o i v H2 fun H3=>Z Y H3:=rfl
theorem aqJ:tAsg te g D Y H=te Y H fun x H1=>g x Y H1 D.nx:=rfl
theorem aqK{ti:fY} : tAug i te ti D Y H=∃ x,(Y[i]?).join=some x/\te Y H fun y H1=>ti x y H1 fun z H2=>D.nx (Y.set i (some z)) H2:=amF (Q:=fun x H=>te Y H fun y H1=>ti x y H1 fun z H2=>D.nx (Y.set i (some z)) H2)
theorem aqL{f:Int->Int->Int}{y:V} : tX f x y H Q=∃ i j,x=.int i/\y=.int j/\Q (.int (f i j)) H:=rfl
theorem anX:tCons te taa Y H R=te Y H fun x H1=>taa Y H1 fun xs H2=>R (x::xs) H2:=rfl
theorem aqM:tNil Y H R=R [] H:=rfl
theorem anY{E:XK} : tCall sp dvs E taa Y H Q=taa Y H fun vs H1=>sp (vs++dvs) H1 Q E:=rfl
theorem ap_cb{rc:List V->Hp->VK->Prop} : gA rc taa Y H Q=taa Y H fun vs H1=>rc vs H1 Q:=rfl
theorem aqN:tTup taa Y H Q=taa Y H fun xs H1=>xs.length<=sizeLine/\∀ p,H1 p=none->Q (.ref p) (A0 H1 p (.tup xs)):=rfl
theorem aqO:tLst taa Y H Q=taa Y H fun xs H1=>xs.length<=sizeLine/\∀ p,H1 p=none->Q (.ref p) (A0 H1 p (.lst xs)):=rfl
theorem ap_sl{rs:V->Option Int->Option Int->Hp->VK->Prop}{tl th:TO} : uH rs te tl th Y H Q=te Y H fun x H1=>tl Y H1 fun l H2=>th Y H2 fun u H3=>rs x l u H3 Q:=rfl
theorem ajI{O:Option Int->Hp->Prop} : uG Y H O=O none H:=rfl
theorem anZ{O:Option Int->Hp->Prop} : tPart te Y H O=te Y H fun x H1=>∃ i,x=.int i/\O (some i) H1:=rfl
theorem ap_bm{T:String}{rm:V->List V->Hp->VK->Prop} : qC K T rm te taa Y H Q=te Y H fun x H1=>dS K T x H1/\taa Y H1 fun xs H2=>rm x xs H2 Q:=rfl
theorem aqP{T:String}{rm:V->List V->Hp->VK->Prop} : tBM0 K T rm te Y H Q=te Y H fun x H1=>dS K T x H1/\rm x [] H1 Q:=rfl
theorem aqQ:tYes Y H B=B true H:=rfl
theorem an0:uQ Y H Q=∀ p,H p=none->Q (.ref p) (A0 H p (.dK [])):=rfl
theorem an1:tDGet ta tb Y H Q=ta Y H fun x H1=>tb Y H1 fun y H2=>∃ a v,x=.ref a/\DGet H2 a y (some v)/\Q v H2:=rfl
theorem an2:sDPut ta tb tc D Y H=tc Y H fun v H1=>ta Y H1 fun x H2=>tb Y H2 fun y H3=>∃ a H4,x=.ref a/\DPut H3 a y v H4/\D.nx Y H4:=rfl
theorem an3{rd:V->V->Hp->VK->Prop} : sDAug ta tb tc rd D Y H=ta Y H fun x H1=>tb Y H1 fun y H2=>∃ a v,x=.ref a/\DGet H2 a y (some v)/\tc Y H2 fun y2 H3=>rd v y2 H3 fun z H4=>∃ H5,DPut H4 a y z H5/\D.nx Y H5:=rfl
theorem an4{y:V} : aA (fun i j=>V.int (i-j)) x y H Q=∃ i j,x=.int i/\y=.int j/\Q (.int (i-j)) H:=rfl
theorem alD{y:V} : rI CDiv (fun i j=>V.int (i / j)) x y H Q=∃ i j,x=.int i/\y=.int j/\(0<j/\j<1073741824)/\Q (.int (i / j)) H:=rfl
theorem an5{y:V} : rI (fun _ j=>0<j) (fun i j=>V.int (i % j)) x y H Q=∃ i j,x=.int i/\y=.int j/\0<j/\Q (.int (i % j)) H:=rfl
theorem an6 : dS K "str" (.str z) H=True:=by simp [dS]
noncomputable def ForIt (J:It) (g:TG) (tb:TS) (D:Ends) (Y:St) (H1:Hp):Prop:=∃ W:Nat->Nat->St->Hp->Prop,(∃ m,W 0 m Y H1)/\∀ i m Y H,W i m Y H->
 (J.stop i H/\D.nx Y H)\/(J.go i H/\∃ N:St->Hp->Prop,(∀ σ' H',N σ' H'->∃ m',m'<m/\W (i+1) m' σ' H')/\∀ x H',J.yld i H x H'->g x Y H' fun σ2 H2=>tb { D with nx:=N,ct:=N,bk:=D.nx } σ2 H2)
theorem aqR{wi:TI}{tbs:TS} : tFor wi g tbs D Y H=wi Y H fun J H1=>ForIt J g tbs D Y H1:=rfl
theorem alE{Z:It->Hp->Prop} : iList K te Y H Z=te Y H fun x H1=>∃ a,x=.ref a/\(∃ xs,D0 K H1 a xs)/\Z (z9 K a) H1:=rfl
theorem an7{Z:It->Hp->Prop} : iTup K te Y H Z=te Y H fun x H1=>∃ a,x=.ref a/\(∃ xs,B1 K H1 a xs)/\Z (dQ K a) H1:=rfl
theorem an8{Z:It->Hp->Prop} : iStr te Y H Z=te Y H fun x H1=>∃ z,x=.str z/\Z (gD z) H1:=rfl
theorem alF{Z:It->Hp->Prop} : iRng1 taa Y H Z=taa Y H fun vs H1=>∃ j:Int,vs=[.int j]/\-(2 ^ 62)<=j/\j<2 ^ 62/\Z (m6 0 j.toNat) H1:=rfl
theorem alG{Z:It->Hp->Prop} : iRng2 taa Y H Z=taa Y H fun vs H1=>∃ i j:Int,vs=[.int i,.int j]/\(-(2 ^ 62)<=i/\i<2 ^ 62/\-(2 ^ 62)<=j/\j<2 ^ 62)/\Z (m6 i (j-i).toNat) H1:=rfl
noncomputable def dW (J:It) (k:Nat) (ixs:List Nat) (g:TG) (c:TT) (te:TE) (Y:St) (Q:VK) (H1:Hp):Prop:=∀ D,H1 D=none->
 ∃ (n:Nat) (W:Nat->List V->St->Hp->Prop),W 0 [] (compStart k ixs Y) (A0 H1 D (.lst []))/\∀ i ys σ2 H2,W i ys σ2 H2->H2 D=some (.lst ys)->
  (J.stop i H2/\Q (.ref D) H2)\/
  (i<n/\J.go i H2/\∀ x H',J.yld i H2 x H'->g x σ2 H' fun σ3 H3=>c σ3 H3 fun b H4=>
   if b=true then te σ3 H4 fun y H5=>H5 D=some (.lst ys)/\ys.length<sizeLine/\W (i+1) (ys++[y]) σ3 (A0 H5 D (.lst (ys++[y])))
   else H4 D=some (.lst ys)/\W (i+1) ys σ3 H4)
theorem an9{wi:TI} : tComp wi k ixs g tt te Y H Q=wi Y H fun J H1=>dW J k ixs g tt te Y Q H1:=rfl
end
theorem aoa{b k:Bool} : TruV K (.bl b) H k=(k=b):=rfl
theorem alH{i:Int}{k:Bool} : TruV K (.int i) H k=(k=(i != 0)):=rfl
theorem alI{k:Bool} : TruV K (.str z) H k=(z.length<=sizeLine/\k=((z.length:Int) != 0)):=rfl
theorem alJ{k:Bool} : TruV K .non H k=(k=false):=rfl
theorem alK : start N vs=vs.map some++X1 (N.length-vs.length) none:=rfl
theorem af9 : compStart k ixs Y=X1 k none++ixs.map fun i=>(Y[i]?).join:=rfl
theorem aob{i:Int} : jT K (.str z) (.int i) H Q=∃ c,z.length<=sizeLine/\G2 z.cps.toList i=some c/\Q (.str ⟨#[c]⟩) H:=by
 simp only [jT,rIxL,rIxT,rIxS];refine propext ⟨fun h=>?_,fun ⟨c,h⟩=>.inr (.inr ⟨z,i,c,rfl,rfl,h⟩)⟩
 rcases h with ⟨p,xs,j,v,e,_⟩ | ⟨p,xs,j,v,e,_⟩ | ⟨z',i',c,e1,e2,h⟩
 .cases e
 .cases e
 .cases e1;cases e2;exact ⟨c,h⟩
theorem aoc{i:Int} : jT K (.ref p) (.int i) H Q=∃ xs v,(D0 K H p xs\/B1 K H p xs)/\G2 xs i=some v/\Q v H:=by
 simp only [jT,rIxL,rIxT,rIxS];refine propext ⟨fun h=>?_,fun ⟨xs,v,h,r⟩=>?_⟩
 .rcases h with ⟨p',xs,j,v,e1,e2,h1,h2⟩ | ⟨p',xs,j,v,e1,e2,h1,h2⟩ | ⟨z',i',c,e1,e2,h⟩
  .cases e1;cases e2;exact ⟨xs,v,.inl h1,h2⟩
  .cases e1;cases e2;exact ⟨xs,v,.inr h1,h2⟩
  .cases e1
 .rcases h with h | h
  .exact .inl ⟨p,xs,i,v,rfl,rfl,h,r⟩
  .exact .inr (.inl ⟨p,xs,i,v,rfl,rfl,h,r⟩)
theorem vA{α:Type}{xs:List α}{i:Int}(h0:0<=i)(h1:i<xs.length):∃ v,G2 xs i=some v/\v∈xs:=by
 have C4:i.toNat<xs.length:=by lia
 refine ⟨xs[i.toNat],?_,jJ C4⟩;unfold G2 X3;rw [if_pos h0,if_pos h1];simp [C4]
theorem Z8:bootBuiltins "len"=some (.builtin "len"):=by decide +kernel
theorem vB:bootBuiltins "isinstance"=some (.builtin "isinstance"):=by decide +kernel
theorem amG:bootBuiltins "any"=some (.builtin "any"):=by decide +kernel
theorem aqS:bootBuiltins "min"=some (.builtin "min"):=by decide +kernel
theorem jY:bootBuiltins "list"=some (.type "list"):=by decide +kernel
theorem gF:bootBuiltins "tuple"=some (.type "tuple"):=by decide +kernel
theorem ajK:bootBuiltins "dict"=some (.type "dict"):=by decide +kernel
theorem aqT:bootBuiltins "str"=some (.type "str"):=by decide +kernel
theorem amH:bootBuiltins "int"=some (.type "int"):=by decide +kernel
section
variable {K:PySem.W.Frag} {H:Hp} {Q:VK} {i j:Int} {x y:Str} {u v:V} {b c:Bool} {p q:Addr} {lo hi:Option Int} {cm:Bool}
theorem ad_ii:rAddU K (.int i) (.int j) H Q=Q (.int (i+j)) H:=rfl
theorem ad_ss:rAddU K (.str x) (.str y) H Q=(x.length+y.length<=sizeLine/\Q (.str (x++y)) H):=rfl
theorem ad_rr:rAddU K (.ref p) (.ref q) H Q=rAddR K p q H Q:=rfl
theorem mu_ii:rMulU (.int i) (.int j) H Q=(CMul i j/\Q (.int (i*j)) H):=rfl
theorem mu_ri:rMulU (.ref p) (.int j) H Q=rRep (.ref p) (.int j) H Q:=rfl
theorem eq_ii:rEqU K (.int i) (.int j) H Q=Q (.bl (decide (i=j))) H:=rfl
theorem eq_ss:rEqU K (.str x) (.str y) H Q=Q (.bl (decide (x=y))) H:=rfl
theorem eq_bb:rEqU K (.bl b) (.bl c) H Q=Q (.bl (decide (b=c))) H:=rfl
theorem eq_rx:rEqU K (.ref p) v H Q=∃ d e,Dn K H (.ref p) d/\Dn K H v e/\min d.depth e.depth<=60/\Q (.bl (W2 d e)) H:=by cases v <;> rfl
theorem eq_xr:rEqU K v (.ref p) H Q=∃ d e,Dn K H v d/\Dn K H (.ref p) e/\min d.depth e.depth<=60/\Q (.bl (W2 d e)) H:=by cases v <;> rfl
theorem ne_ii:rNeU K (.int i) (.int j) H Q=Q (.bl (!decide (i=j))) H:=rfl
theorem ne_ss:rNeU K (.str x) (.str y) H Q=Q (.bl (!decide (x=y))) H:=rfl
theorem ne_bb:rNeU K (.bl b) (.bl c) H Q=Q (.bl (!decide (b=c))) H:=rfl
theorem ne_rx:rNeU K (.ref p) v H Q=∃ d e,Dn K H (.ref p) d/\Dn K H v e/\min d.depth e.depth<=60/\Q (.bl (!PyData.eqv d e)) H:=by cases v <;> rfl
theorem ne_xr:rNeU K v (.ref p) H Q=∃ d e,Dn K H v d/\Dn K H (.ref p) e/\min d.depth e.depth<=60/\Q (.bl (!PyData.eqv d e)) H:=by cases v <;> rfl
theorem lt_ii:rLtU (.int i) (.int j) H Q=Q (.bl (decide (i<j))) H:=rfl
theorem lt_ss:rLtU (.str x) (.str y) H Q=Q (.bl (decide (x.cps.toList<y.cps.toList))) H:=rfl
theorem le_ii:rLeU (.int i) (.int j) H Q=Q (.bl (decide (i<=j))) H:=rfl
theorem le_ss:rLeU (.str x) (.str y) H Q=Q (.bl (!decide (y.cps.toList<x.cps.toList))) H:=rfl
theorem gt_ii:rGtU (.int i) (.int j) H Q=Q (.bl (decide (j<i))) H:=rfl
theorem gt_ss:rGtU (.str x) (.str y) H Q=Q (.bl (decide (y.cps.toList<x.cps.toList))) H:=rfl
theorem ge_ii:rGeU (.int i) (.int j) H Q=Q (.bl (decide (j<=i))) H:=rfl
theorem ge_ss:rGeU (.str x) (.str y) H Q=Q (.bl (!decide (x.cps.toList<y.cps.toList))) H:=rfl
theorem in_xs:rInU K b u (.str x) H Q=∃ i,u=.str i/\Q (.bl (b.xor (!(Builtin.Str.occurrences x i 0 x.length 1).isEmpty))) H:=rfl
theorem in_xr:rInU K b u (.ref p) H Q=rInR K b u p H Q:=rfl
theorem sl_s:rSlU K (.str x) lo hi H Q=(x.length<=sizeLine/\Q (.str (cutS x lo hi)) H):=rfl
theorem sl_r:rSlU K (.ref p) lo hi H Q=rSlR K p lo hi H Q:=rfl
theorem len_s:rLenU K [.str x] H Q=(x.length<=sizeLine/\Q (.int x.length) H):=rfl
theorem len_r:rLenU K [.ref p] H Q=∃ n:Nat,LenR K H p n/\Q (.int n) H:=rfl
theorem aqU:uY K cm [.ref p] H Q=rListR K cm p H Q:=rfl
theorem all_r:rAllB cm [.ref p] H Q=∃ bs:List Bool,cm=true/\H p=some (.lst (bs.map V.bl))/\Q (.bl (bs.all id)) H:=rfl
theorem isi_t{n:String} : rIsi [u,.ty n] H Q=∃ T,jX H u=some T/\isTys.contains n=true/\Q (.bl (uZ T n)) H:=rfl
theorem ord_s:rOrd [.str x] H Q=(x.length=1/\Q (.int (x.cps.getD 0 0:Nat)) H):=rfl
end
theorem forL(Pv:Nat->St->Hp->Prop)(h0:Pv 0 Y H)(hl:∀ i Y H,i<=xs.length->Pv i Y H->D0 K H a xs)(hs:∀ i x Y H,xs[i]?=some x->Pv i Y H->g x Y H fun σ2 H2=>tb { D with nx:=Pv (i+1),ct:=Pv (i+1),bk:=D.nx } σ2 H2)(hd:∀ Y H,Pv xs.length Y H->D.nx Y H):ForIt (z9 K a) g tb D Y H:=ak9 Pv h0 hl hs hd
theorem forT(Pv:Nat->St->Hp->Prop)(h0:Pv 0 Y H)(hl:∀ i Y H,i<=xs.length->Pv i Y H->B1 K H a xs)(hs:∀ i x Y H,xs[i]?=some x->Pv i Y H->g x Y H fun σ2 H2=>tb { D with nx:=Pv (i+1),ct:=Pv (i+1),bk:=D.nx } σ2 H2)(hd:∀ Y H,Pv xs.length Y H->D.nx Y H):ForIt (dQ K a) g tb D Y H:=anj Pv h0 hl hs hd
theorem forR(Pv:Nat->St->Hp->Prop)(h0:Pv 0 Y H)(hs:∀ i Y H,i<n->Pv i Y H->g (.int (lo+i)) Y H fun σ2 H2=>tb { D with nx:=Pv (i+1),ct:=Pv (i+1),bk:=D.nx } σ2 H2)(hd:∀ Y H,Pv n Y H->D.nx Y H):ForIt (m6 lo n) g tb D Y H:=aji Pv h0 hs hd
theorem forS(Pv:Nat->St->Hp->Prop)(h0:Pv 0 Y H)(hs:∀ i c Y H,z.cps.toList[i]?=some c->Pv i Y H->g (.str ⟨#[c]⟩) Y H fun σ2 H2=>tb { D with nx:=Pv (i+1),ct:=Pv (i+1),bk:=D.nx } σ2 H2)(hd:∀ Y H,Pv z.length Y H->D.nx Y H):ForIt (gD z) g tb D Y H:=by
 refine ⟨fun i m Y H=>m=z.cps.size-i/\i<=z.cps.size/\Pv i Y H,⟨z.cps.size,by simp,F7 _,h0⟩,?_⟩;rintro i m Y H ⟨rfl,hi,p⟩
 by_cases C4:i<z.cps.size
 .refine .inr ⟨C4,Pv (i+1),fun σ' H' p'=>⟨z.cps.size-(i+1),by lia,rfl,C4,p'⟩,fun x H' y=>?_⟩;obtain ⟨e,c,hc,rfl⟩:=y;subst e;exact hs i c Y _ hc p
 .have e:i=z.cps.size:=by lia
  subst e;exact .inl ⟨C3 _,hd Y H p⟩
noncomputable def CW (n:Nat) (fr:St) (Pv:Nat->List V->Hp->Prop) (i:Nat) (ys:List V) (σ2:St) (H2:Hp):Prop:=i<=n/\ys.length<=i/\(∃ v,σ2=v::fr)/\Pv i ys H2
theorem CW.put{fr:St}{Pv:Nat->List V->Hp->Prop}{y:V}{o:Option V}(hi:i<n)(hy:ys.length<=i)(p:Pv (i+1) (ys++[y]) H):CW n fr Pv (i+1) (ys++[y]) (o::fr) H:=
 ⟨hi,by rw [D7,Z0];lia,⟨_,rfl⟩,p⟩
theorem vC{fr:St}{Pv:Nat->List V->Hp->Prop}{o:Option V}(hi:i<n)(hy:ys.length<=i)(p:Pv (i+1) ys H):CW n fr Pv (i+1) ys (o::fr) H:=⟨hi,Nat.le_succ_of_le hy,⟨_,rfl⟩,p⟩
theorem compL(fr:St)(k6:compStart 1 ixs Y=none::fr)(Pv:Addr->Nat->List V->Hp->Prop)(h0:∀ D,H1 D=none->Pv D 0 [] (A0 H1 D (.lst [])))(hl:∀ D i ys H,H1 D=none->i<=xs.length->Pv D i ys H->D0 K H a xs)(hs:∀ D i x ys H,H1 D=none->i<xs.length->xs[i]?=some x->Pv D i ys H->H D=some (.lst ys)->ys.length<=i->c (some x::fr) H fun b H4=>
   if b=true then te (some x::fr) H4 fun y H5=>H5 D=some (.lst ys)/\ys.length<sizeLine/\CW xs.length fr (Pv D) (i+1) (ys++[y]) (some x::fr) (A0 H5 D (.lst (ys++[y])))
   else H4 D=some (.lst ys)/\CW xs.length fr (Pv D) (i+1) ys (some x::fr) H4)(hd:∀ D ys H,H1 D=none->Pv D xs.length ys H->H D=some (.lst ys)->ys.length<=xs.length->Q (.ref D) H):dW (z9 K a) 1 ixs (gName 0) c te Y Q H1:=by
 intro D hD;refine ⟨xs.length,CW xs.length fr (Pv D),⟨F7 _,F7 _,⟨none,k6⟩,h0 D hD⟩,?_⟩;rintro i ys σ2 H2 ⟨hi,hy,⟨v,rfl⟩,p⟩ hDy;have q:=hl D i ys H2 hD hi p
 by_cases C4:i<xs.length
 .refine .inr ⟨C4,⟨xs,xs[i],q,by simp [C4]⟩,fun x H' y=>?_⟩;obtain ⟨e,y⟩:=y;subst e;exact hs D i x ys _ hD C4 (y xs q) p hDy hy
 .have e:i=xs.length:=by lia
  subst e;exact .inl ⟨⟨xs,q,C3 _⟩,hd D ys H2 hD p hDy hy⟩
theorem compT(fr:St)(k6:compStart 1 ixs Y=none::fr)(Pv:Addr->Nat->List V->Hp->Prop)(h0:∀ D,H1 D=none->Pv D 0 [] (A0 H1 D (.lst [])))(hl:∀ D i ys H,H1 D=none->i<=xs.length->Pv D i ys H->B1 K H a xs)(hs:∀ D i x ys H,H1 D=none->i<xs.length->xs[i]?=some x->Pv D i ys H->H D=some (.lst ys)->ys.length<=i->c (some x::fr) H fun b H4=>
   if b=true then te (some x::fr) H4 fun y H5=>H5 D=some (.lst ys)/\ys.length<sizeLine/\CW xs.length fr (Pv D) (i+1) (ys++[y]) (some x::fr) (A0 H5 D (.lst (ys++[y])))
   else H4 D=some (.lst ys)/\CW xs.length fr (Pv D) (i+1) ys (some x::fr) H4)(hd:∀ D ys H,H1 D=none->Pv D xs.length ys H->H D=some (.lst ys)->ys.length<=xs.length->Q (.ref D) H):dW (dQ K a) 1 ixs (gName 0) c te Y Q H1:=by
 intro D hD;refine ⟨xs.length,CW xs.length fr (Pv D),⟨F7 _,F7 _,⟨none,k6⟩,h0 D hD⟩,?_⟩;rintro i ys σ2 H2 ⟨hi,hy,⟨v,rfl⟩,p⟩ hDy;have q:=hl D i ys H2 hD hi p
 by_cases C4:i<xs.length
 .refine .inr ⟨C4,⟨xs,xs[i],q,by simp [C4]⟩,fun x H' y=>?_⟩;obtain ⟨e,y⟩:=y;subst e;exact hs D i x ys _ hD C4 (y xs q) p hDy hy
 .have e:i=xs.length:=by lia
  subst e;exact .inl ⟨⟨xs,q,C3 _⟩,hd D ys H2 hD p hDy hy⟩
theorem compS(fr:St)(k6:compStart 1 ixs Y=none::fr)(Pv:Addr->Nat->List V->Hp->Prop)(h0:∀ D,H1 D=none->Pv D 0 [] (A0 H1 D (.lst [])))(hs:∀ D i x ys H,H1 D=none->i<z.cps.size->z.cps.toList[i]?=some x->Pv D i ys H->H D=some (.lst ys)->ys.length<=i->c (some (.str ⟨#[x]⟩)::fr) H fun b H4=>
   if b=true then te (some (.str ⟨#[x]⟩)::fr) H4 fun y H5=>H5 D=some (.lst ys)/\ys.length<sizeLine/\CW z.cps.size fr (Pv D) (i+1) (ys++[y]) (some (.str ⟨#[x]⟩)::fr) (A0 H5 D (.lst (ys++[y])))
   else H4 D=some (.lst ys)/\CW z.cps.size fr (Pv D) (i+1) ys (some (.str ⟨#[x]⟩)::fr) H4)(hd:∀ D ys H,H1 D=none->Pv D z.cps.size ys H->H D=some (.lst ys)->ys.length<=z.cps.size->Q (.ref D) H):dW (gD z) 1 ixs (gName 0) c te Y Q H1:=by
 intro D hD;refine ⟨z.cps.size,CW z.cps.size fr (Pv D),⟨F7 _,F7 _,⟨none,k6⟩,h0 D hD⟩,?_⟩;rintro i ys σ2 H2 ⟨hi,hy,⟨v,rfl⟩,p⟩ hDy
 by_cases C4:i<z.cps.size
 .refine .inr ⟨C4,C4,fun x H' y=>?_⟩;obtain ⟨e,c,hc,rfl⟩:=y;subst e;exact hs D i c ys _ hD C4 hc p hDy hy
 .have e:i=z.cps.size:=by lia
  subst e;exact .inl ⟨C3 _,hd D ys H2 hD p hDy hy⟩
theorem compR(fr:St)(k6:compStart 1 ixs Y=none::fr)(Pv:Addr->Nat->List V->Hp->Prop)(h0:∀ D,H1 D=none->Pv D 0 [] (A0 H1 D (.lst [])))(hs:∀ D i ys H,H1 D=none->i<n->Pv D i ys H->H D=some (.lst ys)->ys.length<=i->c (some (.int (lo+i))::fr) H fun b H4=>
   if b=true then te (some (.int (lo+i))::fr) H4 fun y H5=>H5 D=some (.lst ys)/\ys.length<sizeLine/\CW n fr (Pv D) (i+1) (ys++[y]) (some (.int (lo+i))::fr) (A0 H5 D (.lst (ys++[y])))
   else H4 D=some (.lst ys)/\CW n fr (Pv D) (i+1) ys (some (.int (lo+i))::fr) H4)(hd:∀ D ys H,H1 D=none->Pv D n ys H->H D=some (.lst ys)->ys.length<=n->Q (.ref D) H):dW (m6 lo n) 1 ixs (gName 0) c te Y Q H1:=by
 intro D hD;refine ⟨n,CW n fr (Pv D),⟨F7 _,F7 _,⟨none,k6⟩,h0 D hD⟩,?_⟩;rintro i ys σ2 H2 ⟨hi,hy,⟨v,rfl⟩,p⟩ hDy
 by_cases C4:i<n
 .refine .inr ⟨C4,C4,fun x H' y=>?_⟩;obtain ⟨e,y⟩:=y;subst e y;exact hs D i ys _ hD C4 p hDy hy
 .have e:i=n:=by lia
  subst e;exact .inl ⟨C3 _,hd D ys H2 hD p hDy hy⟩
theorem C8{q:Addr}{o u:HO}(h:H p=some o)(n:H q=none):A0 H q u p=some o:=by rw [A7 (r8 h n)];exact h
theorem Same.new{q:Addr}{u:HO}(n:H q=none):Same H (A0 H q u):=fun _ _ h=>C8 h n
theorem Same.put{q:Addr}{u:HO}(s:Same H0 H)(n:H0 q=none):Same H0 (A0 H q u):=fun b o h=>by rw [A7 (r8 h n)];exact s b o h
end L2
set_option maxRecDepth 100000
namespace L2
open PySem PySem.Spec PyProof.Rows
theorem cxK{CX:i7}{P:Program}{w:World}{base:Heap}{sc:Scope}{o:List Env}{E:XK} : (cxOf CX P w K mg base N q sc f cd A o s H E).K=K:=rfl
theorem cxKn : X.nox.K=X.K:=rfl
theorem cxKb{sc:Scope} : (M9 X sc N' C zw zt fp pins).K=X.K:=rfl
theorem cxC{CX:i7}{P:Program}{w:World}{base:Heap}{sc:Scope}{o:List Env}{E:XK} : (cxOf CX P w K mg base N q sc f cd A o s H E).calm=true:=rfl
theorem cxCn : X.nox.calm=X.calm:=rfl
theorem cxCb{sc:Scope} : (M9 X sc N' C zw zt fp pins).calm=X.calm:=rfl
theorem iteD{c A B:Prop}[Decidable c](h1:c->A)(h2:¬ c->B):if decide c=true then A else B:=by
 by_cases h:c
 .rw [decide_eq_true h,if_pos rfl];exact h1 h
 .rw [decide_eq_false h,if_neg L5];exact h2 h
theorem iteN{c A B:Prop}[Decidable c](h1:¬ c->A)(h2:c->B):if (!decide c)=true then A else B:=by
 by_cases h:c
 .rw [decide_eq_true h];exact iteF (h2 h)
 .rw [decide_eq_false h];exact iteT (h1 h)
theorem V5(h:H p=some (.lst xs)):dS K "list" (.ref p) H:=.inl ⟨rfl,_,D0.of h⟩
theorem appOk{l:Addr}{y:V}(h:H l=some (.lst xs))(hz:xs.length<sizeLine)(q:Q .non (A0 H l (.lst (xs++[y])))):uK (.ref l) [y] H Q:=⟨l,xs,y,rfl,rfl,h,hz,q⟩
theorem L1(h:n<=1000000):n<sizeLine:=Nat.lt_of_le_of_lt h (by decide)
theorem P6(h:n<=1000000):n<=sizeLine:=Nat.le_of_lt (L1 h)
noncomputable def signB (c:Nat):Bool:=decide (33<=c)&&decide (c<=126)&&decide (c≠37)
noncomputable def qL (z:Str):Bool:=decide (1<=z.length)&&decide (z.length<=2)&&z.cps.toList.all signB
theorem ajL(h:qL z=true):i6 z=true/\1<=z.length/\z.length<=2:=by
 unfold qL at h;simp only [Z5,decide_eq_true_eq] at h;refine ⟨?_,h.1.1,h.1.2⟩;unfold i6;rw [Array.all_eq_true_iff_forall_mem];intro c hc
 have:=List.all_eq_true.mp h.2 c (Array.mem_toList_iff.mpr hc)
 unfold signB at this;simp only [Z5,decide_eq_true_eq] at this;simp only [decide_eq_true_eq];lia
theorem ajM{c:Nat}(h:signB c=true):qL ⟨#[c]⟩=true:=by
 unfold qL;simp [Str.length,h]
noncomputable def SG:List Nat:=[33,34,35,36]++(U1 89).map (· + 38)
theorem aod:∀ c∈SG,signB c=true:=by decide +kernel
theorem vD:SG.length=93:=by decide +kernel
structure IsRows(H:Hp)(a:Addr)(rs:List Addr)(zss:List (List Str)):Prop where
 top:H a=some (.lst (rs.map V.ref))
 row:Paired (fun r (zs:List Str)=>H r=some (.lst (zs.map V.str))) rs zss
theorem IsRows.same{zss:List (List Str)}(R:IsRows H a rs zss)(s:Same H H'):IsRows H' a rs zss:=⟨s _ _ R.top,N5 R.row fun _ _ h=>s _ _ h⟩
theorem Paired.at{α β:Type}{F:α->β->Prop} : ∀ {l₁:List α} {l₂:List β} {i:Nat} {a:α},Paired F l₁ l₂->l₁[i]?=some a->∃ b,l₂[i]?=some b/\F a b
 | _,_,_,_,.nil,h=>by simp at h
 | _,_,0,_,.cons h t,e=>by simp at e;subst e;exact ⟨_,rfl,h⟩
 | _,_,i+1,_,.cons h t,e=>by
  obtain ⟨b,h1,h2⟩:=Paired.at (i:=i) t (by simpa using e);exact ⟨b,by simpa using h1,h2⟩
theorem ae4:∀ zs:List Str,y9 (zs.map bN)=0
 | []=>rfl
 | z::zs=>by rw [E6,y9,ae4 zs,bM];rfl
theorem qM:∀ zs:List Int,y9 (zs.map bO)=0
 | []=>rfl
 | z::zs=>by rw [E6,y9,qM zs,bM];rfl
theorem ahR(xs ys:List Str):W2 (.list (xs.map .str)) (.list (ys.map .str))=decide (xs=ys):=by rw [W2,uX]
noncomputable def dd (acc:List Str) (z:Str):List Str:=if z∈acc then acc else acc++[z]
noncomputable def G7 (acc zs:List Str):List Str:=zs.foldl dd acc
noncomputable def toldL (zss:List (List Str)):List Str:=zss.foldl G7 []
theorem mR(zs:List Str):∀ acc:List Str,(G7 acc zs).length<=acc.length+zs.length:=by
 induction zs with
 | nil=>intro acc;exact C3 _
 | cons z zs ih=>
  intro acc;have h1:=ih (dd acc z);have h2:(dd acc z).length<=acc.length+1:=by
   unfold dd
   split
   .lia
   .simp
  show (G7 (dd acc z) zs).length<=_;rw [J9];lia
theorem alL(h:zs[j]?=some z):G7 acc (zs.take (j+1))=dd (G7 acc (zs.take j)) z:=by
 rw [q0,h];simp [G7,y3]
theorem ajO{zss:List (List Str)}(h:zss[i]?=some zs):toldL (zss.take (i+1))=G7 (toldL (zss.take i)) zs:=by
 rw [q0,h];simp [toldL,y3]
theorem qN(zss:List (List Str)):∀ acc,zss.foldl G7 acc=G7 acc zss.flatten:=by
 induction zss with
 | nil=>intro acc;rfl
 | cons zs zss ih=>
  intro acc;rw [jK,ih,jH];unfold G7;rw [y3]
theorem mS(zss:List (List Str)):(toldL zss).length<=zss.flatten.length:=by
 unfold toldL;rw [qN]
 have:=mR zss.flatten []
 simpa using this
theorem dd_mem(h:y∈dd acc z):y∈acc\/y=z:=by
 unfold dd at h
 split at h
 .exact .inl h
 .rcases G0.mp h with h | h
  .exact .inl h
  .exact .inr (by simpa using h)
noncomputable def kvOf (zs:List Str):List (B3×V):=zs.map fun z=>(Sum.inr z,V.bl true)
theorem vF(z:Str):∀ acc:List Str,((kvOf acc).any fun kv=>decide (kv.1=(Sum.inr z:B3)))=decide (z∈acc)
 | []=>by simp [kvOf]
 | y::acc=>by
  have ih:=vF z acc;unfold kvOf at ih ⊢
  rw [E6,y7,ih]
  by_cases e:y=z
  .subst e
   simp
  .have e1:decide ((Sum.inr y:B3)=Sum.inr z)=false:=decide_eq_false fun q=>e (Sum.inr.inj q)
   have e2:decide (z∈y::acc)=decide (z∈acc):=by
    by_cases h:z∈acc
    .rw [decide_eq_true h,decide_eq_true (N9 _ h)]
    .rw [decide_eq_false h,decide_eq_false];intro q
     rcases K0.mp q with q | q
     .exact e q.symm
     .exact h q
   rw [e2];simp only [e1,Bool.false_or]
theorem aga(acc:List Str)(z:Str):putK (kvOf acc) (Sum.inr z:B3) (.bl true)=kvOf (dd acc z):=by
 unfold putK dd;rw [vF]
 by_cases h:z∈acc
 .rw [decide_eq_true h,if_pos rfl,if_pos h];unfold kvOf;rw [Q6];refine jE fun y _=>?_
  show (if (Sum.inr y:B3)=Sum.inr z then ((Sum.inr y:B3),V.bl true) else (Sum.inr y,V.bl true))=_
  split <;> rfl
 .rw [decide_eq_false h,if_neg L5,if_neg h];unfold kvOf;rw [C9];rfl
theorem ajP(acc:List Str):((kvOf acc).map fun kv=>kV kv.1)=acc.map V.str:=by
 unfold kvOf;rw [Q6];rfl
theorem vG(z:Str):∀ acc:List Str,bS (.str z) (acc.map V.str)=decide (z∈acc)
 | []=>by simp [bS]
 | y::acc=>by
  have ih:=vG z acc;unfold bS at ih ⊢
  rw [E6,y7,ih];show ((y==z) || decide (z∈acc))=_
  by_cases e:y=z
  .subst e
   simp
  .have e1:(y==z)=false:=by simpa using e
   rw [e1,Bool.false_or]
   by_cases h:z∈acc
   .rw [decide_eq_true h,decide_eq_true (N9 _ h)]
   .rw [decide_eq_false h,decide_eq_false];intro q
    rcases K0.mp q with q | q
    .exact e q.symm
    .exact h q
theorem agb:∀ acc:List Str,(acc.map V.str).all flatV=true
 | []=>rfl
 | _::acc=>by rw [E6,List.all_cons,agb acc];rfl
theorem G9{α β:Type}{f:α->β}{l:List α}{y:β}(h:(l.map f)[i]?=some y):∃ x,l[i]?=some x/\y=f x:=by
 rw [T8] at h;cases e:l[i]? with
 | none=>rw [e] at h;cases h
 | some x=>rw [e] at h;exact ⟨x,rfl,(Option.some.inj h).symm⟩
noncomputable def SS:Str:=Str.ofString "!\"#$&'()*+,-./0123456789:;<=>?@ABCDEFGHIJKLMNOPQRSTUVWXYZ[\\]^_`"++Str.ofString "abcdefghijklmnopqrstuvwxyz{|}~"
theorem SS_eq:SS.cps.toList=SG:=by decide +kernel
theorem aqV:SS.length<=sizeLine:=by decide +kernel
theorem aoe:(Str.ofString "!\"#$&'()*+,-./0123456789:;<=>?@ABCDEFGHIJKLMNOPQRSTUVWXYZ[\\]^_`").length+(Str.ofString "abcdefghijklmnopqrstuvwxyz{|}~").length<=sizeLine:=by decide +kernel
theorem SS_at{i:Int}(h0:0<=i)(h1:i<93):∃ c,G2 SS.cps.toList i=some c/\signB c=true:=by
 rw [SS_eq];obtain ⟨c,h2,h3⟩:=vA (xs:=SG) h0 (by rw [vD];exact h1);exact ⟨c,h2,aod c h3⟩
theorem drawn{i:Int}(hx:∀ x∈xs,∃ n,x=V.int n)(h0:0<=i)(h1:i<xs.length):∃ n,G2 xs i=some (V.int n):=by
 obtain ⟨v,h2,h3⟩:=vA h0 h1;obtain ⟨n,rfl⟩:=hx v h3;exact ⟨n,h2⟩
theorem vH{α β:Type}{F:α->β->Prop}{a:α}{b:β} : ∀ {l₁:List α} {l₂:List β},Paired F (l₁++[a]) (l₂++[b])->Paired F l₁ l₂/\F a b
 | [],[],.cons h _=>⟨.nil,h⟩
 | [],y::l₂,h=>by
  have:=Paired.length h
  simp at this
 | x::l₁,[],h=>by
  have:=Paired.length h
  simp at this
 | x::l₁,y::l₂,.cons h t=>by
  obtain ⟨h1,h2⟩:=vH (l₁:=l₁) (l₂:=l₂) t;exact ⟨.cons h h1,h2⟩
theorem qO{α β:Type}{F G:α->β->Prop} : ∀ {l₁:List α} {l₂:List β},Paired F l₁ l₂->(∀ a∈l₁,∀ b,F a b->G a b)->Paired G l₁ l₂
 | _,_,.nil,_=>.nil
 | _,_,.cons h t,k=>.cons (k _ N3 _ h) (qO t fun a ha b hb=>k a (N9 _ ha) b hb)
structure RowsAt(H0 H:Hp)(a:Addr)(rs:List Addr)(zss:List (List Str)):Prop where
 rows:IsRows H a rs zss
 nd:(a::rs).Nodup
 new:∀ r∈a::rs,H0 r=none
 same:Same H0 H
theorem RowsAt.live{zss:List (List Str)}(R:RowsAt H0 H a rs zss)(h:r∈a::rs):∃ o,H r=some o:=by
 rcases K0.mp h with h | h
 .subst h;exact ⟨_,R.rows.top⟩
 .obtain ⟨i,hi,rfl⟩:=g6.mp h;obtain ⟨zs,_,h2⟩:=Paired.at R.rows.row (i:=i) (a:=rs[i]) (by simp [hi]);exact ⟨_,h2⟩
theorem agc(x:Str)(lo hi:Option Int):(cutS x lo hi).cps.toList=(x.cps.toList.drop (HT.sIx x.length 0 lo)).take (HT.sIx x.length x.length hi-HT.sIx x.length 0 lo):=by
 unfold cutS
 simp
theorem vI(h:H p=some (.tup xs)):jX H (.ref p)=some "tuple":=by unfold jX;simp only [h]
end L2
set_option maxRecDepth 100000
namespace L2
open PySem PySem.Spec PyProof.Rows
structure QE(X:Cx)(e:Expr)(t:TE):Prop where
 out:PE X e t
structure QT(X:Cx)(e:Expr)(t:TT):Prop where
 out:PT X e t
structure QW(X:Cx)(e:Expr)(t:TT):Prop where
 out:PW X e t
structure QA(X:Cx)(es:List Expr)(t:TA):Prop where
 out:PA X es t
structure QS(X:Cx)(st:Stmt)(t:TS):Prop where
 out:PS X st t
structure QSs(X:Cx)(st:List Stmt)(t:TS):Prop where
 out:Y5 X st t
structure QG(X:Cx)(tg:Expr)(t:TG):Prop where
 out:PG X tg t
structure QGs(X:Cx)(tg:List Expr)(t:m5):Prop where
 out:mM X tg t
structure QI(X:Cx)(tg iter:Expr)(wi:TI):Prop where
 out:PI X tg iter wi
structure QO(X:Cx)(e:Option Expr)(t:TO):Prop where
 out:PO X e t
structure QIfs(X:Cx)(ifs:List Expr)(t:TT):Prop where
 out:PIfs X ifs t
structure QOp(X:Cx)(f:Value->Value->Sem Value)(r:R2):Prop where
 out:G6 X f r
structure QUn(X:Cx)(f:Value->Sem Value)(r:V->Hp->VK->Prop):Prop where
 out:pY X f r
structure QCall(X:Cx)(f:Value)(r:List V->Hp->VK->Prop):Prop where
 out:CallR X f r
structure QMt(X:Cx)(id:String)(r:V->List V->Hp->VK->Prop):Prop where
 out:qB X id r
structure QIp(X:Cx)(op:Operator)(t:fY):Prop where
 out:tW X op t
structure QIn(X:Cx)(op:Operator)(t:V->V->Hp->VK->Prop):Prop where
 out:InOp X op t
section
variable {X:Cx} {a b c e o i value:Expr} {es:List Expr} {ta tb tc te to ti tv:TE} {tA tB':TT} {t u:TS} {tl:TA} {pos p pos' tpos:Pos} {rest:List Expr} {r r':R2} {x:Str}
theorem A1{i j} : QE X (.Constant (.int i) j pos) (tC (.int i)):=⟨amA⟩
theorem qe_bl{b j} : QE X (.Constant (.bool b) j pos) (tC (.bl b)):=⟨pe_bl⟩
theorem dY{j} : QE X (.Constant .none j pos) (tC .non):=⟨aoQ⟩
theorem N7{x j} : QE X (.Constant (.str x) j pos) (tC (.str x)):=⟨aoR⟩
theorem qe_v(hN:X.N[n]?=some x)(hv:mL X.env.scope x)(hd:(x==("__debug__" : Str))=false)(o7:(x==("__classdict__" : Str))=false):QE X (.Name x pos) (tVar n):=⟨amz hN hv hd o7⟩
theorem qv(n:Nat)(hN:X.N[n]?=some x:=by rfl)(hv:mL X.env.scope x:=by first | exact Or.inl rfl | exact Or.inr (Or.inl rfl) | exact Or.inr (Or.inr rfl))(hd:(x==("__debug__" : Str))=false:=by decide)(o7:(x==("__classdict__" : Str))=false:=by decide):QE X (.Name x pos) (tVar n):=⟨amz hN hv hd o7⟩
theorem gG{i:Int}(h:∃ t,X.mg x=some (.int i t))(hg:Gl X x:=by rfl)(hd:(x==("__debug__" : Str))=false:=by decide):QE X (.Name x p) (tC (.int i)):=⟨alx h hg hd⟩
theorem jZ{a:Addr}(h:X.mg x=some (.ref a))(hg:Gl X x:=by rfl)(hd:(x==("__debug__" : Str))=false:=by decide):QE X (.Name x p) (tC (.ref a)):=⟨aly h hg hd⟩
theorem qe_ty{n:String}(hm:X.mg x=none)(hv:bootBuiltins x=some (.type n))(hg:Gl X x:=by rfl)(hn:x≠"__name__":=by decide)(hd:(x==("__debug__" : Str))=false:=by decide):QE X (.Name x p) (tC (.ty n)):=⟨ana hg hm hv rfl hn hd⟩
theorem qe_op{op:Operator}(ho:QOp X (binaryOp op) r)(ha:QE X a ta)(hb:QE X b tb):QE X (.BinOp a op b pos) (bQ r ta tb):=⟨pe_op ho.out ha.out hb.out⟩
theorem qe_un{op:UnaryOp}{r:V->Hp->VK->Prop}(ho:QUn X (unaryOp op) r)(ha:QE X a ta):QE X (.UnaryOp op a pos) (tZ r ta):=⟨pe_un ho.out ha.out⟩
theorem aqW{op}(ha:QE X a ta):QE X (.BoolOp op [a] pos) ta:=⟨aoV ha.out⟩
theorem aqX(ha:QE X a ta)(hb:QE X (.BoolOp .And (b::rest) pos) tb):QE X (.BoolOp .And (a::b::rest) pos) (tAndV ta tb):=⟨aoW ha.out hb.out⟩
theorem aB{op:CmpOp}(ho:QOp X (compareOp op) r)(ha:QE X a ta)(hb:QE X b tb)(hm:behindInMarks op b=false:=by first | exact amC _ | rfl):QE X (.Compare a [op] [b] pos) (bQ r ta tb):=⟨anm ho.out ha.out hb.out hm⟩
theorem alM{op op':CmpOp}(ho:QOp X (compareOp op) r)(j7:QOp X (compareOp op') r')(ha:QE X a ta)(hb:QE X b tb)(hc:QE X c tc)(hm:lastMarks [op,op'] [b,c]=false:=by with_unfolding_all rfl):QE X (.Compare a [op,op'] [b,c] pos) (uB r r' ta tb tc):=⟨ala ho.out j7.out ha.out hb.out hc.out hm⟩
theorem ahS(hc:QT X c tA)(ha:QE X a ta)(hb:QE X b tb):QE X (.IfExp c a b pos) (tU tA ta tb):=⟨ak4 hc.out ha.out hb.out⟩
theorem A2:QA X [] tNil:=⟨aqi⟩
theorem qa_c(ha:QE X e te)(hr:QA X es tl)(h:L0 e=false:=by rfl):QA X (e::es) (tCons te tl):=⟨pa_c ha.out hr.out h⟩
theorem R1(h:QA X es tl):QE X (.List es pos) (tLst tl):=⟨aqk h.out⟩
theorem G3{x1}(h:QA X es tl):QE X (.Tuple es x1 pos) (tTup tl):=⟨aqj h.out⟩
theorem gH:QE X (.Dict [] [] pos) uQ:=⟨alp⟩
theorem R3:QO X none uG:=⟨anw⟩
theorem L9(h:QE X e te):QO X (some e) (tPart te):=⟨anx h.out⟩
theorem O6{lo hi:Option Expr}{tlo thi:TO}{p2:Pos}(he:QE X e te)(hl:QO X lo tlo)(hu:QO X hi thi)(hK:X.K=K:=by rfl):QE X (.Subscript e (.Slice lo hi none p2) pos) (uH (rSlU K) te tlo thi):=by subst hK;exact ⟨ali p_sl he.out hl.out hu.out⟩
theorem Z9(hu:X.A.units+1<cLine)(ho:QE X o to)(hi:QE X i ti)(hs:NoSl i:=by exact fun _ _=>rfl):QE X (.Subscript o i pos) (tDGet to ti):=⟨anD hu ho.out hi.out hs⟩
theorem qe_ix(ha:QE X a ta)(hb:QE X b tb)(hs:ajw b:=by exact fun _ _=>rfl)(hK:X.K=K:=by rfl):QE X (.Subscript a b pos) (bQ (jT K) ta tb):=by subst hK;exact ⟨pe_ix aqo ha.out hb.out hs⟩
theorem qe_cB{id:String}{rc:List V->Hp->VK->Prop}(hc:QCall X (.builtin id) rc)(hm:X.mg x=none)(hv:bootBuiltins x=some (.builtin id))(ha:QA X (e::es) tl)(hg:Gl X x:=by rfl)(h1:L0 e=false:=by rfl)(h2:X5 es=true:=by rfl)(hn:x≠"__name__":=by decide)(R7:(x==("__debug__" : Str))=false:=by decide) :
  QE X (.Call (.Name x p) (e::es) [] pos) (gA rc tl):=⟨pe_cB hc.out hg hm hv ha.out h1 h2 hn R7⟩
theorem qe_cT{T:String}{rc:List V->Hp->VK->Prop}(hc:QCall X (.type T) rc)(hm:X.mg x=none)(hv:bootBuiltins x=some (.type T))(ha:QA X (e::es) tl)(hg:Gl X x:=by rfl)(h1:L0 e=false:=by rfl)(h2:X5 es=true:=by rfl)(hn:x≠"__name__":=by decide)(R7:(x==("__debug__" : Str))=false:=by decide) :
  QE X (.Call (.Name x p) (e::es) [] pos) (gA rc tl):=⟨pe_cT hc.out hg hm hv ha.out h1 h2 hn R7⟩
theorem qe_mB{T id:String}{rm:V->List V->Hp->VK->Prop}(pa:PlainAttrs T)(slot:Slot T name id)(W4:typeOf (.builtin id)=pure (.type "method_descriptor"))(hm:QMt X id rm)(ho:QE X o to)(ha:QA X (e::es) tl)(h1:L0 e=false:=by rfl)(h2:X5 es=true:=by rfl)(h3:decide ((e::es).length<30)=true:=by rfl)(F8:attributeBase o name X.env (eval o X.env)=eval o X.env:=by rfl)(F9:(apos.endLine==cpos.line)=true:=by rfl)(hK:X.K=K:=by rfl):QE X (.Call (.Attribute o name apos) (e::es) [] cpos) (qC K T rm to tl):=by subst hK;exact ⟨pe_mB pa slot W4 hm.out ho.out ha.out h1 h2 h3 F8 F9⟩
theorem qe_m0{T id:String}{rm:V->List V->Hp->VK->Prop}(pa:PlainAttrs T)(slot:Slot T name id)(W4:typeOf (.builtin id)=pure (.type "method_descriptor"))(hm:QMt X id rm)(ho:QE X o to)(F8:attributeBase o name X.env (eval o X.env)=eval o X.env:=by rfl)(F9:(apos.endLine==cpos.line)=true:=by rfl)(hK:X.K=K:=by rfl):QE X (.Call (.Attribute o name apos) [] [] cpos) (tBM0 K T rm to):=by subst hK;exact ⟨aqq pa slot W4 hm.out ho.out F8 F9⟩
theorem D1(G:FO X.prog X.w X.K X.mg X.base k x ps dvs sp)(hr:Room k X.A)(ha:QA X (e::es) tl)(hg:Gl X x:=by rfl)(h1:L0 e=false:=by rfl)(h2:X5 es=true:=by rfl)(R7:(x==("__debug__" : Str))=false:=by decide) :
  QE X (.Call (.Name x p) (e::es) [] pos) (tCall sp dvs E0 tl):=⟨alw G hr ha.out hg h1 h2 R7⟩
theorem E1{op:CmpOp}(ho:QOp X (compareOp op) r)(ha:QE X a ta)(hb:QE X b tb)(hm:behindInMarks op b=false:=by first | exact amC _ | rfl):QT X (.Compare a [op] [b] pos) (tTest (bQ r ta tb)):=⟨ann ho.out ha.out hb.out hm⟩
theorem dZ(ha:QT X a tA):QT X (.UnaryOp .Not a pos) (tNot tA):=⟨aoU ha.out⟩
theorem gI(ha:QT X a tA):QW X (.BoolOp .And [a] pos) tA:=⟨anb ha.out⟩
theorem eA(ha:QT X a tA):QW X (.BoolOp .Or [a] pos) tA:=⟨aoS ha.out⟩
theorem eB(ha:QT X a tA)(hb:QW X (.BoolOp .And (b::rest) pos) tB'):QW X (.BoolOp .And (a::b::rest) pos) (tAnd tA tB'):=⟨aoT ha.out hb.out⟩
theorem qw_or(ha:QT X a tA)(hb:QW X (.BoolOp .Or (b::rest) pos) tB'):QW X (.BoolOp .Or (a::b::rest) pos) (tT tA tB'):=⟨pw_or ha.out hb.out⟩
theorem QW.pt(h:QW X a tA):QT X a tA:=⟨h.out.pt⟩
theorem Q7(ha:QE X a ta)(he:∀ whole,isTrue a X.env whole=(do let v <- whole;standAt a.pos;holding [v] (truthy v)):=by intro _;rfl)(hK:X.K=K:=by rfl):QT X a (tTru K ta):=by subst hK;exact ⟨aqw ha.out he⟩
variable {st:Stmt} {sts:List Stmt}
theorem G4:QSs X [] tNext:=⟨anc⟩
theorem A4(h:QS X st t):QSs X [st] t:=⟨ane h.out⟩
theorem A5(h:QS X st t)(h2:QSs X sts u):QSs X (st::sts) (tSeq t u):=⟨ak5 h.out h2.out⟩
theorem C7(he:QE X e te):QS X (.Return (some e) pos) (tRet te):=⟨aoY he.out⟩
theorem kA:QS X st tV:=⟨ak6⟩
theorem C6(hN:X.N.Nodup)(hi:X.N[n]?=some x)(hx:t5 X.env.scope x)(he:QE X e te)(hs:swapsWith e (some (.Name x pos')) pos.line X.env=pure false:=by rfl)(hf:X.fn x=true:=by rfl):QS X (.Assign [.Name x pos'] e pos) (tAsg te (gName n)):=⟨ao2 hN hi hx he.out hs (.inl hf)⟩
theorem kB{f:Str}(ho:QE X o to)(hv:QE X value tv)(hs:swapsWith value (some (.Attribute o f pos')) pos.line X.env=pure false:=by rfl)(hK:X.K=K:=by rfl):QS X (.Assign [.Attribute o f pos'] value pos) (sFld K to tv f):=by subst hK;exact ⟨aqf ho.out hv.out hs⟩
theorem aD{f:Str}(ho:QE X o to)(hb:attributeBase o f X.env (eval o X.env)=eval o X.env:=by rfl)(hK:X.K=K:=by rfl):QE X (.Attribute o f pos) (tFld K to f):=by subst hK;exact ⟨aqe ho.out hb⟩
theorem m7(hu:X.A.units+1<cLine)(ho:QE X o to)(hi:QE X i ti)(hv:QE X value tv)(hs:swapsWith value (some (.Subscript o i pos')) pos.line X.env=pure false:=by rfl):QS X (.Assign [.Subscript o i pos'] value pos) (sDPut to ti tv):=⟨anE hu ho.out hi.out hv.out hs⟩
theorem ajQ{op:Operator}{rd:V->V->Hp->VK->Prop}(hu:X.A.units+1<cLine)(ho:QE X o to)(hi:QE X i ti)(hv:QE X value tv)(zA:QIn X op rd)(ha:∀ ov iv new,augStore i ov iv new=(do holding [new,ov,iv] (setItem ov iv new);release [new,ov,iv] [];pure .next):=by exact fun _ _ _=>rfl) :
  QS X (.AugAssign (.Subscript o i tpos) op value pos) (sDAug to ti tv rd):=⟨anF hu ho.out hi.out hv.out zA.out ha⟩
theorem gJ(he:QE X e te)(hg:QG X tg g)(hs:swapsWithSole [tg] e pos.line X.env=pure false:=by rfl)(hw:swappedStores [tg] e X.env=pure none:=by rfl)(h1:(assignEach [tg] X.env).map (·.2)=[assign tg X.env]:=by rfl):QS X (.Assign [tg] e pos) (tAsg te g):=⟨ao1 he.out hg.out hs hw h1⟩
theorem vJ{op:Operator}{tip:fY}(hN:X.N.Nodup)(hi:X.N[n]?=some x)(hx:t5 X.env.scope x)(he:QE X e te)(ho:QIp X op tip)(hf:X.fn x=true:=by rfl):QS X (.AugAssign (.Name x pos') op e pos) (tAug n te tip):=⟨ao3 hN hi hx he.out ho.out (.inl hf)⟩
theorem U0(he:QE X e te)(hs:swapsWith e none pos.line X.env=pure false:=by rfl):QS X (.Expr e pos) (tDrop te):=⟨anf he.out hs⟩
theorem qs_if{sa sb:List Stmt}(hc:QT X c tA)(ha:QSs X sa t)(hb:QSs X sb u):QS X (.If c sa sb pos) (tIfS tA t u):=⟨ps_if hc.out ha.out hb.out⟩
theorem qP{body:List Stmt}(hp:PassesOwn (model X.prog X.w) X.A X.env X.xe)(hc:QT X c tA)(hb:QSs X body t):QS X (.While c body [] pos) (pX tA t):=⟨ak8 hp hc.out hb.out⟩
theorem M7{body:List Stmt}{wi:TI}(hp:PassesOwn (model X.prog X.w) X.A X.env X.xe)(hi:QI X tg iter wi)(hg:QG X tg g)(hb:QSs X body t)(hc:X.calm=true:=by rfl)(hs:∀ x,foldedSetIterable iter X.env x=pure x:=by intro _;rfl):QS X (.For tg iter body [] pos) (tFor wi g t):=⟨ao6 hp hc hi.out hg.out hb.out hs⟩
theorem D3(hN:X.N.Nodup)(hi:X.N[n]?=some x)(hx:t5 X.env.scope x)(hf:X.fn x=true\/X.env.scope.names.lookup x=some .local:=by first | exact .inl rfl | exact .inr rfl | assumption):QG X (.Name x pos) (gName n):=⟨ang hN hi hx hf⟩
theorem aE:QGs X [] gNil:=⟨anh⟩
theorem P7{gs:m5}(h1:QG X e g)(h2:QGs X es gs)(hs:(assignEach (e::es) X.env).map (·.2)=assign e X.env::(assignEach es X.env).map (·.2):=by rfl):QGs X (e::es) (gCons g gs):=⟨ak7 h1.out h2.out hs⟩
theorem aF{gs:m5}(h:QGs X es gs)(hc:X.calm=true:=by rfl)(hn:(assignEach es X.env).length=n:=by rfl)(Y7:(assignEach es X.env).findIdx? (·.1)=none:=by rfl)(hK:X.K=K:=by rfl):QG X (.Tuple es k pos) (gTup K n gs):=by subst hK;exact ⟨aoZ hc h.out hn Y7⟩
variable {tg:Expr}
theorem P0(h:QE X e te)(hK:X.K=K:=by rfl):QI X tg e (iList K te):=by subst hK;exact ⟨ani h.out⟩
theorem eC(h:QE X e te)(hK:X.K=K:=by rfl):QI X tg e (iTup K te):=by subst hK;exact ⟨ao5 h.out⟩
theorem vK(h:QE X e te):QI X tg e (iStr te):=⟨aqC h.out⟩
theorem qi_r1(hm:X.mg "range"=none)(ha:QA X [a] tl)(hg:Gl X "range":=by rfl)(h1:L0 a=false:=by rfl):QI X tg (.Call (.Name "range" p) [a] [] pos) (iRng1 tl):=⟨pi_r1 hg hm ha.out h1⟩
theorem qi_r2(hm:X.mg "range"=none)(ha:QA X [a,b] tl)(hg:Gl X "range":=by rfl)(h1:L0 a=false:=by rfl)(h2:L0 b=false:=by rfl):QI X tg (.Call (.Name "range" p) [a,b] [] pos) (iRng2 tl):=⟨pi_r2 hg hm ha.out h1 h2⟩
theorem i8:QIfs X [] tYes:=⟨als⟩
theorem kC(h:QT X c tA):QIfs X [c] tA:=⟨alt h.out⟩
variable {sc:Scope} {N':List Str} {k:Nat} {ixs:List Nat} {ifs:List Expr} {wi:TI} {g:TG} {elt:Expr}
theorem b8(C:CompOk X.N X.env.scope.names sc N' k ixs)(hi:QI X tg e wi)(hg:∀ C zw zt fp pins,QG (M9 X sc N' C zw zt fp pins) tg g)(hc:∀ C zw zt fp pins,QIfs (M9 X sc N' C zw zt fp pins) ifs tA)(he:∀ C zw zt fp pins,QE (M9 X sc N' C zw zt fp pins) elt te)(M5:X.calm=true:=by rfl)(hs:∀ x,foldedSetIterable e X.env x=pure x:=by intro _;rfl):QE X (.ListComp elt [⟨tg,e,ifs,0⟩] sc pos) (tComp wi k ixs g tA te):=
 ⟨anH C M5 hi.out (fun _ _ _ _ _=>(hg _ _ _ _ _).out) (fun _ _ _ _ _=>(hc _ _ _ _ _).out) (fun _ _ _ _ _=>(he _ _ _ _ _).out) hs⟩
theorem mT(hN:X.N.Nodup)(hiN:X.N[n]?=some x)(hx:t5 X.env.scope x)(C:CompOk X.N X.env.scope.names sc N' k ixs)(hi:QI X tg e wi)(hg:∀ C zw zt fp pins,QG (M9 X sc N' C zw zt fp pins) tg g)(hc:∀ C zw zt fp pins,QIfs (M9 X sc N' C zw zt fp pins) ifs tA)(he:∀ C zw zt fp pins,QE (M9 X sc N' C zw zt fp pins) elt te)(zB:swapsWith (.ListComp elt [⟨tg,e,ifs,0⟩] sc pos) (some (.Name x pos')) spos.line X.env=pure true:=by rfl)(M5:X.calm=true:=by rfl)(hf:X.fn x=true:=by rfl)(hs:∀ x,foldedSetIterable e X.env x=pure x:=by intro _;rfl) :
  QS X (.Assign [.Name x pos'] (.ListComp elt [⟨tg,e,ifs,0⟩] sc pos) spos) (tAsg (tComp wi k ixs g tA te) (gName n)):=
 ⟨aiC hN hiN hx C M5 hi.out (fun _ _ _ _ _=>(hg _ _ _ _ _).out) (fun _ _ _ _ _=>(hc _ _ _ _ _).out) (fun _ _ _ _ _=>(he _ _ _ _ _).out) zB (.inl hf) hs⟩
theorem q_add(hK:X.K=K:=by rfl):QOp X (binaryOp .Add) (rAddU K):=by subst hK;exact ⟨p_add⟩
theorem q_sub:QOp X (binaryOp .Sub) (aA fun i j=>.int (i-j)):=⟨p_sub⟩
theorem q_mul:QOp X (binaryOp .Mult) rMulU:=⟨p_mul⟩
theorem t7:QOp X (binaryOp .FloorDiv) (rI CDiv fun i j=>.int (i / j)):=⟨aqx⟩
theorem q_mod:QOp X (binaryOp .Mod) (rI (fun _ j=>0<j) fun i j=>.int (i % j)):=⟨p_mod⟩
theorem q_eq(hu:X.A.units+64<cLine)(hK:X.K=K:=by rfl):QOp X (compareOp .Eq) (rEqU K):=by subst hK;exact ⟨p_eq hu⟩
theorem q_ne(hu:X.A.units+64<cLine)(hK:X.K=K:=by rfl):QOp X (compareOp .NotEq) (rNeU K):=by subst hK;exact ⟨p_ne hu⟩
theorem q_lt:QOp X (compareOp .Lt) rLtU:=⟨p_lt⟩
theorem q_le:QOp X (compareOp .LtE) rLeU:=⟨p_le⟩
theorem q_gt:QOp X (compareOp .Gt) rGtU:=⟨p_gt⟩
theorem q_in(hu:X.A.units+64<cLine)(hK:X.K=K:=by rfl):QOp X (compareOp .In) (rInU K false):=by subst hK;exact ⟨p_in hu⟩
theorem vL(hu:X.A.units+64<cLine)(hK:X.K=K:=by rfl):QOp X (compareOp .NotIn) (rInU K true):=by subst hK;exact ⟨anI hu⟩
theorem q_isN:QOp X (compareOp .Is) (fun x y H Q=>y=.non/\Q (.bl (decide (x=.non))) H):=⟨aqc⟩
theorem qQ:QOp X (compareOp .IsNot) (fun x y H Q=>y=.non/\Q (.bl (!decide (x=.non))) H):=⟨anl⟩
theorem q_neg:QUn X (unaryOp .USub) (rU fun i=>.int (-i)):=⟨aqb⟩
theorem q_len(hK:X.K=K:=by rfl):QCall X (.builtin "len") (rLenU K):=by subst hK;exact ⟨p_len⟩
theorem q_isi:QCall X (.builtin "isinstance") rIsi:=⟨alu⟩
theorem mU(hK:X.K=K:=by rfl)(oU:X.calm=calm:=by rfl):QCall X (.type "list") (uY K calm):=by subst hK;subst oU;exact ⟨aqA⟩
theorem i9:QMt X "list.append" uK:=⟨fun pins s Y H x xs v us Q I rx rv h=>af4 pins s Y H x xs v us Q I rx rv h⟩
theorem ajT:QMt X "list.reverse" ahM:=⟨fun pins s Y H x xs v us Q I rx rv h=>aiB pins s Y H x xs v us Q I rx rv h⟩
theorem vM:QIp X .Add (tX fun i j=>i+j):=⟨ao4⟩
theorem aqY:QIn X .Add rAdd:=⟨aqg⟩
theorem aqZ:QIn X .Sub rSub:=⟨aqh⟩
end
end L2
set_option maxRecDepth 100000
namespace L2
open PySem PySem.Spec PyProof.Rows
noncomputable def ModD (P:Program) (w:World) (K:PySem.W.Frag) (a:Addr) (kvs:List (B3×V)):Prop:=(a==sysModules)=false/\∀ h:Heap,K.In h->∃ vs,KV kvs vs/\h.DictOf (M6 P w) a vs
noncomputable abbrev ModE (w:World):List DictEntry->List (B3×V)->Prop:=Paired fun e kv=>keyIs kv.1 e.key=true/\e.hash=keyH w kv.1/\RelV kv.2 e.val
theorem ModE.pairs{P:Program}{w:World} : ∀ {es:List DictEntry} {kvs:List (B3×V)},ModE w es kvs->∃ vs:List (B3×Value),KV kvs vs/\Pairs (M6 P w) es vs/\(∀ e∈es,∃ k,(M6 P w).is k e.key=true/\e.hash=(M6 P w).hash k)/\vs.map (·.1)=kvs.map (·.1)
 | _,_,.nil=>⟨[],.nil,.nil,fun e h=>(nomatch h),rfl⟩
 | e::es,kv::kvs,.cons ⟨h1,h2,h3⟩ t=>by
  obtain ⟨vs,a1,a2,a3,a4⟩:=ModE.pairs (P:=P) t;refine ⟨(kv.1,e.val)::vs,.cons ⟨rfl,h3⟩ a1,.cons h1 rfl a2,fun e' he=>?_,by rw [E6,E6,a4]⟩
  rcases K0.mp he with z | z
  .rw [z];exact ⟨kv.1,h1,h2⟩
  .exact a3 e' z
theorem aof{P:Program}{w:World}{es:Array DictEntry}{ep:Nat}(l:K.lookup a=some { cls:=.type "dict",dict:=none,data:=.dict es ep,slots:=#[] })(hs:(a==sysModules)=false)(he:ModE w es.toList kvs)(hn:(kvs.map (·.1)).Nodup):ModD P w K a kvs:=by
 refine ⟨hs,fun h X=>?_⟩;obtain ⟨vs,a1,a2,a3,a4⟩:=he.pairs (P:=P);exact ⟨vs,a1,_,es,ep,X a _ l,⟨rfl,rfl,rfl⟩,rfl,fun e h=>a3 e (Array.mem_toList_iff.mpr h),a2,by rw [a4];exact hn⟩
noncomputable def rInM (neg:Bool) (a:Addr) (kvs:List (B3×V)):R2:=fun x y H Q=>y=.ref a/\∃ k,x=kV k/\Q (.bl (neg.xor (valV kvs k).isSome)) H
noncomputable def amI (a:Addr) (kvs:List (B3×V)) (to ti:TE):TE:=fun Y H Q=>to Y H fun x H1=>ti Y H1 fun y H2=>x=.ref a/\∃ k v,y=kV k/\valV kvs k=some v/\Q v H2
section
variable {X:Cx} {a:Addr} {kvs:List (B3×V)} {o i:Expr} {to ti:TE} {pos:Pos}
theorem q_inM(M:ModD X.prog X.w X.K a kvs):QOp X (compareOp .In) (rInM false a kvs):=⟨by
 intro pins s Y H x y v u Q I rx ry h;obtain ⟨rfl,k,rfl,q⟩:=h;obtain rfl:u=Value.ref a:=ry;obtain ⟨hd,M⟩:=M;obtain ⟨vs,rel,dd⟩:=M s.heap I.kIn;refine wpAny_in_of (kV_is rx) hd dd.mapOf ?_;rw [<- (rel.val k).isSome_eq];exact ⟨.bl _,H,I.tok _,rfl,by simpa using q⟩⟩
theorem ahU(M:ModD X.prog X.w X.K a kvs)(ho:QE X o to)(hi:QE X i ti)(hs:NoSl i:=by exact fun _ _=>rfl):QE X (.Subscript o i pos) (amI a kvs to ti):=⟨by
 intro pins s Y H Q I h;refine uP PySem.F.slot_dict_getitem.lookup hs (A9 (ho.out pins s Y H _ I h) fun u s1 ⟨x,H1,I1,rx,q1⟩=>A9 (hi.out pins s1 Y H1 _ I1 q1) fun iv s2 ⟨y,H2,I2,ry,ex,k,v,ey,l,q2⟩=>?_);subst ex ey;obtain rfl:u=Value.ref a:=rx;obtain ⟨hd,M⟩:=M;obtain ⟨vs,rel,dd⟩:=M s2.heap I2.kIn;obtain ⟨w',hw,rw'⟩:=mN (v:=v) (o:=valueAt vs k) (by rw [<- l];exact rel.val k);exact ⟨dd.typeIs,wpAny_getItem_of (kV_is ry) dd.mapOf hw ⟨v,H2,I2.tok _,rw',q2⟩⟩⟩
end
theorem amJ{k:B3} : (V.str z=kV k)=(k=Sum.inr z):=by
 cases k with
 | inl i=>exact propext ⟨fun h=>(by cases h),fun h=>(by cases h)⟩
 | inr x=>exact propext ⟨fun h=>(by cases h;rfl),fun h=>(by cases h;rfl)⟩
theorem aq0 : rInM neg a kvs (.str z) (.ref b) H Q=(V.ref b=V.ref a/\Q (.bl (neg.xor (valV kvs (Sum.inr z)).isSome)) H):=by
 unfold rInM;simp only [amJ,exists_eq_left]
theorem alN : amI a kvs to ti Y H Q=to Y H fun x H1=>ti Y H1 fun y H2=>x=.ref a/\∃ k v,y=kV k/\valV kvs k=some v/\Q v H2:=rfl
noncomputable def ajV (c:TT) (tb:TS) (D:Ends) (Y:St) (H:Hp):Prop:=pX c tb D Y H
theorem alO : pX c tb D Y H=ajV c tb D Y H:=rfl
theorem qR(Pv:Nat->St->Hp->Prop)(m:Nat)(h0:Pv m Y H)(hs:∀ m Y H,Pv m Y H->c Y H fun b H1=>if b=true then ∃ N:St->Hp->Prop,(∀ σ' H',N σ' H'->∃ m',m'<m/\Pv m' σ' H')/\tb { D with nx:=N,ct:=N,bk:=D.nx } Y H1 else D.nx Y H1):ajV c tb D Y H:=⟨Pv,⟨m,h0⟩,hs⟩
noncomputable def rTupR (K:PySem.W.Frag) (p:Addr) (H:Hp) (Q:VK):Prop:=∃ ys,(D0 K H p ys/\∀ l,H l=none->Q (.ref l) (A0 H l (.tup ys)))\/(B1 K H p ys/\Q (.ref p) H)
theorem rTupR.l(h1:D0 K H p ys)(h:∀ l,H l=none->Q (.ref l) (A0 H l (.tup ys))):rTupR K p H Q:=⟨ys,.inl ⟨h1,h⟩⟩
noncomputable def rTupU (K:PySem.W.Frag):List V->Hp->VK->Prop
 | [.ref p],H,Q=>rTupR K p H Q
 | _,_,_=>False
theorem tup_r : rTupU K [.ref p] H Q=rTupR K p H Q:=rfl
theorem mV(hK:X.K=K:=by rfl):QCall X (.type "tuple") (rTupU K):=by
 subst hK;refine ⟨fun pins s Y H xs us Q I r h=>?_⟩
 match xs,h with
 | [.ref p],⟨ys,h⟩=>exact afu pins s Y H _ us Q I r ⟨p,ys,rfl,h⟩
noncomputable def rMin:List V->Hp->VK->Prop:=fun xs H Q=>∃ i j,xs=[.int i,.int j]/\Q (.int (if j<i then j else i)) H
noncomputable def rMax:List V->Hp->VK->Prop:=fun xs H Q=>∃ i j,xs=[.int i,.int j]/\Q (.int (if j > i then j else i)) H
theorem aq1{i j:Int} : rMin [.int i,.int j] H Q=Q (.int (if j<i then j else i)) H:=propext ⟨fun ⟨_,_,e,q⟩=>(by cases e;exact q),fun q=>⟨_,_,rfl,q⟩⟩
theorem aq2{i j:Int} : rMax [.int i,.int j] H Q=Q (.int (if j > i then j else i)) H:=propext ⟨fun ⟨_,_,e,q⟩=>(by cases e;exact q),fun q=>⟨_,_,rfl,q⟩⟩
noncomputable def rCalm (calm:Bool) (r:List V->Hp->VK->Prop):List V->Hp->VK->Prop:=fun xs H Q=>calm=true/\r xs H Q
theorem aog{r:List V->Hp->VK->Prop} : rCalm true r xs H Q=r xs H Q:=propext ⟨fun h=>h.2,fun h=>⟨rfl,h⟩⟩
end L2
set_option maxRecDepth 100000
namespace L2
open PySem PySem.Spec PyProof.Rows
open PySem.Builtin PySem.Builtin.Str PySem.StrLaws
noncomputable def tSeqM (t u:TS):TS:=fun D Y H=>∃ M:St->Hp->Prop,t { D with nx:=M } Y H/\∀ σ' H',M σ' H'->u D σ' H'
theorem eD{rest:List Stmt}{t u:TS}(h1:QS X st t)(h2:QSs X rest u):QSs X (st::rest) (tSeqM t u):=⟨by
 intro pins s Y H D I h;obtain ⟨M,h,hm⟩:=h;refine wpAny_execs_cons (A9 (h1.out pins s Y H { D with nx:=M } I h) fun f s1 q=>?_)
 cases f with
 | next=>
  obtain ⟨σ',H',I',q⟩:=q;exact h2.out pins s1 σ' H' D I' (hm _ _ q)
 | ret v=>exact q
 | brk=>exact q
 | cont=>exact q⟩
theorem mid{t u:TS}(M:St->Hp->Prop)(h:t { D with nx:=M } Y H)(h2:∀ σ' H',M σ' H'->u D σ' H'):tSeqM t u D Y H:=⟨M,h,h2⟩
theorem vN(h:H p=some (.lst xs)):TruV K (.ref p) H (!xs.isEmpty):=.inl ⟨xs,.of h,rfl⟩
theorem t8(xs:List V)(k:Nat):cutV xs (some (k:Int)) none=xs.drop k:=by
 unfold cutV;have e1:HT.sIx xs.length 0 (some (k:Int))=min k xs.length:=by unfold HT.sIx;simp;lia
 have e2:HT.sIx xs.length xs.length none=xs.length:=rfl;rw [e1,e2,o9 (by rw [y4];exact C3 _)]
 by_cases h:k<=xs.length
 .rw [dN h]
 .rw [Nat.min_eq_right (by lia),mD (C3 _),mD (by lia)]
theorem bV(xs:List V)(k:Nat):cutV xs none (some (k:Int))=xs.take k:=by
 unfold cutV;have e1:HT.sIx xs.length xs.length (some (k:Int))=min k xs.length:=by unfold HT.sIx;simp;lia
 have e2:HT.sIx xs.length 0 none=0:=rfl;rw [e1,e2,List.drop_zero,Nat.sub_zero]
 by_cases h:k<=xs.length
 .rw [dN h]
 .rw [Nat.min_eq_right (by lia),o9 (C3 _),o9 (by lia)]
theorem vO(x:V)(xs:List V):cutV (x::xs) (some 1) none=xs:=t8 (x::xs) 1
theorem L3{α:Type}(x:α)(xs:List α):G2 (x::xs) 0=some x:=by
 have e:X3 (x::xs).length 0=some 0:=by unfold X3;rw [if_pos (Int.le_refl 0),if_pos (by rw [J9];lia)];rfl
 unfold G2;rw [e];rfl
theorem alP{o f:Expr}(hu:X.A.units+1<cLine)(ho:QE X o td)(he:QE X e ty)(hf:QE X f tx)(h1:L0 e=false:=by rfl)(h2:L0 f=false:=by rfl)(F8:attributeBase o "get" X.env (eval o X.env)=eval o X.env:=by rfl)(F9:(apos.endLine==cpos.line)=true:=by rfl):QE X (.Call (.Attribute o "get" apos) [e,f] [] cpos) (uT td ty tx):=
 ⟨alr hu ho.out he.out hf.out ⟨F8,by rw [N6 h1,N6 h2];rfl,F9,by rw [N6 h1,N6 h2];rfl⟩⟩
theorem aoh{trs:List (TE×TE)} : tDisp trs Y H Q=∀ p,H p=none->jU trs Y (A0 H p (.dK [])) fun ps H2=>H2 p=some (.dK [])/\∃ kvs:List (B3×V),ps=kvs.map (fun kv=>(kV kv.1,kv.2))/\kvs.length<=15/\Q (.ref p) (A0 H2 p (.dK (X4 [] kvs))):=rfl
theorem aoi{Q:List (V×V)->Hp->Prop} : jU [] Y H Q=Q [] H:=rfl
theorem alQ{r:List (TE×TE)}{Q:List (V×V)->Hp->Prop} : jU ((tk,tv)::r) Y H Q=tk Y H fun x H1=>tv Y H1 fun y H2=>jU r Y H2 fun ps H3=>Q ((x,y)::ps) H3:=rfl
theorem alR : uT td ty tx Y H Q=td Y H fun x H1=>∃ a,x=.ref a/\gC H1 a/\ty Y H1 fun y H2=>tx Y H2 fun z H3=>∃ o,DGet H3 a y o/\Q (o.getD z) H3:=rfl
theorem ad4:∀ {zs:List Str} {us:List Value},Vals (zs.map V.str) us->StrsAre us zs
 | [],_,.nil=>.nil
 | z::zs,_::_,.cons ⟨t,h⟩ r=>by subst h;exact .cons _ _ (ad4 r)
end L2
set_option maxRecDepth 100000
namespace L2
open PySem PySem.Spec PyProof.Rows
theorem acO:entryFor table "dict.update.loop"=some Builtin.«dict.update.loop»:=entryFor_of_tree (by kernel_rfl)
theorem qS:plainId "dict.update.loop"=true:=by decide +kernel
section
variable {prog:Program} {w:World} {A:Around} {R:Result->Shared->Prop} {I:Addr} {fp wr:List Addr} {G:Array GenState->Array GenState->Prop} {n:Nat} {P:Nat->Value->Prop} {St:Nat->Shared->Prop}
variable {K:Type} [DecidableEq K] {knd:KeyKind prog w K}
noncomputable def t9 (ks:Nat->K) (vl:Nat->Value):Nat->List (K×Value)
 | 0=>[]
 | i+1=>stored (t9 ks vl i) (ks i) (vl i)
theorem aer(ks:Nat->K)(vl:Nat->Value):∀ i,(t9 ks vl i).length<=i
 | 0=>C3 _
 | i+1=>by
  have h1:=aer ks vl i;have h2:(stored (t9 ks vl i) (ks i) (vl i)).length<=(t9 ks vl i).length+1:=by
   unfold stored
   split
   .rw [A6];lia
   .rw [D7];exact C3 _
  show (stored (t9 ks vl i) (ks i) (vl i)).length<=i+1;lia
theorem ajW(W:WalksS prog w A.in1 I fp wr G n P St)(d:Addr)(aX:d∉fp)(tp:Nat->Addr)(ky vl:Nat->Value)(ks:Nat->K)(hP:∀ i v,P i v->v=.ref (tp i))(hk:∀ i,i<n->knd.is (ks i) (ky i)=true)(ht:∀ i,i<n->tp i≠d/\tp i∉wr)(hn:n<=sizeLine) :
  ∀ (k i:Nat) (s:Shared) (j:Int) (t:Tok),n-i=k->i<=n->St i s->(∀ i,i<n->IsTup s.heap (tp i) #[ky i,vl i])->s.heap.DictOf knd d (t9 ks vl i)->
   (∀ s',Moved (d::wr) G s s'->s'.heap.DictOf knd d (t9 ks vl n)->R (.ok (.ret .none)) s')->
   codeAny (model prog w) A (.builtin "dict.update.loop" ⟨[.ref d,.ref I,.int j t,.none],[]⟩) R s:=by
 have hdw:d∉wr:=fun h=>aX (W.sub _ h)
 have oV:∀ b∈wr,b∈d::wr:=fun b hb=>N9 _ hb
 intro k
 induction k with
 | zero=>
  intro i s j t zD hi Y7 hT hD hR;have E8:i=n:=by lia
  subst E8;refine codeAny_builtin acO ?_;rw [Around.under_plainId qS _];show wpAny _ A.in1 (pyNext (.ref I) >>= _) _ _ s;refine wpAny_bind (W.done s _ _ Y7 fun s' hm=>?_);have e0:Builtin.Dict.addKeywords d []=pure ():=rfl;show wpAny _ A.in1 (Builtin.Dict.addKeywords d [] >>= fun _=>ret Value.none) _ _ s';rw [e0];refine wpAny_bind (wpAny_pure (wpAny_pure (hR s' (hm.mono oV) ?_)));obtain ⟨o,es,ep,ho,rest⟩:=hD;exact ⟨o,es,ep,hm.heap d _ hdw ho,rest⟩
 | succ k ih=>
  intro i s j t zD hi Y7 hT hD hR;have C4:i<n:=by lia
  refine codeAny_builtin acO ?_;rw [Around.under_plainId qS _];show wpAny _ A.in1 (pyNext (.ref I) >>= _) _ _ s;refine wpAny_bind (W.item i s _ _ C4 Y7 fun v s' hv zE hm=>?_);obtain rfl:=hP i v hv;have hD':s'.heap.DictOf knd d (t9 ks vl i):=by
   obtain ⟨o,es,ep,ho,rest⟩:=hD;exact ⟨o,es,ep,hm.heap d _ hdw ho,rest⟩
  have hT':∀ i,i<n->IsTup s'.heap (tp i) #[ky i,vl i]:=fun i hi=>by
   obtain ⟨o,ho,rest⟩:=hT i hi;exact ⟨o,hm.heap _ _ (ht i hi).2 ho,rest⟩
  have hTi:=hT' i C4;obtain ⟨o,ho,yS,n0,sS⟩:=id hTi;refine wpAny_bind (wpAny_holding (wpAny_bind (wpAny_tryCatch ?_)));unfold Builtin.Dict.pairItems;refine wpAny_bind (wpAny_typeOf hTi.typeIs ?_);rw [if_pos (by decide)];refine wpAny_bind (wpAny_seqItems ho sS ?_);refine wpAny_pure ?_;show wpAny _ _ (holding [ky i,vl i] (dictSet d (ky i) (vl i))) _ _ s';have hl:=aer ks vl i;refine wpAny_holding (wpAny_dictSet_pairs (hk i C4) hD' (fun h' hD2 zF=>?_) (by lia));refine wpAny_pure ⟨plainId_quiet qS _,ih (i+1) _ (j+1) 0 (by lia) C4 (W.frame _ s' _ _ zE (Nat.le_succ _) fun b hb o e=>?_) (fun i hi=>?_) hD2 fun s'' hm'' hD''=>?_⟩
  .rw [zF.2 b (fun h:b=d=>aX (by rw [<- h];exact hb))];exact e
  .obtain ⟨o,ho,rest⟩:=hT' i hi;exact ⟨o,(zF.2 _ (ht i hi).1).trans ho,rest⟩
  .refine hR s'' (Moved.trans W.gtrans ((hm.mono oV).then_heap (Nat.le_succ _) fun b o hb e=>?_) hm'') hD'';rw [zF.2 b (fun h:b=d=>hb (by rw [h];exact N3))];exact e
end
theorem aiD:typeLookup (.type "list") "__getattribute__"=pure (some (.builtin "list.__getattribute__")):=by rw [typeLookup_type,builtinLookup_eq_fast];kernel_rfl
theorem age:typeLookup (.type "list") "keys"=pure none:=by rw [typeLookup_type,builtinLookup_eq_fast];kernel_rfl
theorem agf:typeLookup (.type "list") "__getattr__"=pure none:=by rw [typeLookup_type,builtinLookup_eq_fast];kernel_rfl
theorem agg{w:World}{l:Addr}{xs:Array Value}{Q:Option Value->Shared->Prop}(hx:s.heap.get? l=some o)(hc:o.cls=.type "list")(oW:o.data=.seq xs k)(hd:o.dict=none)(hA:A.handled=none)(h:∀ h' tk,(∀ b o,s.heap.get? b=some o->h'.get? b=some o)->Q none { s with heap:=h',toks:=tk }):wpAny (model prog w) A (getAttr? (.ref l) "keys") Q E s:=by
 obtain ⟨c,dct,dat,sl⟩:=o;simp only at hc oW hd;subst hc oW hd;obtain ⟨hp,g,d,tk,os⟩:=s;have hT:∀ tk',(⟨hp,g,d,tk',os⟩:Shared).TypeIs (.ref l) "list":=fun _=>⟨_,hx,rfl⟩
 have f4:=F.slot_list_getattribute.bind (.ref l);unfold getAttr? getAttrBy? getAttrBy;refine wpAny_bind (wpAny_mkText (wpAny_bind (wpAny_attempt (wpAny_holding (wpAny_bind (wpAny_typeOf (hT _) ?_))))));rw [aiD];refine wpAny_bind (wpAny_pure ?_);show wpAny _ _ (getAttrByItsOwn _ _ _ _ _ _) _ _ _;unfold getAttrByItsOwn;refine wpAny_bind (wpAny_pure ?_);refine wpAny_bind (wpAny_attempt (wpAny_holding ?_));show wpAny _ _ (boundAndCalled _ _ _) _ _ _;unfold boundAndCalled;rw [f4];refine wpAny_bind (wpAny_pure ?_);refine call_meets F.slot_list_getattribute (hT _) am_entry_list_getattribute (F.args_list_getattribute_2 _ _) (meets_getattribute_miss_list l xs k sl "keys" _ age (by decide +kernel) (by decide +kernel)) ⟨hx,hA,fun h' tk' e new=>?_⟩;obtain ⟨t',u',he⟩:=new.there;have hTe:∀ tk',(⟨h',g,d,tk',os⟩:Shared).TypeIs (.ref e) "AttributeError":=fun _=>⟨_,he,rfl⟩
 show wpAny _ _ (getattributeRaised _ _ _ _ _ _ _) _ _ _;unfold getattributeRaised;refine wpAny_bind (wpAny_isInstance (hTe _) sub_AttributeError ?_);rw [if_pos rfl];show wpAny _ _ (hookBehind _ _ >>= _) _ _ _;unfold hookBehind;rw [if_neg (by decide),agf];refine wpAny_bind (wpAny_pure ?_);unfold hookOrError attributeErrorLeaves;show wpAny _ _ (if (!false)=true then _ else _) _ _ _;rw [if_pos (by decide)];refine wpAny_bind (wpAny_throw ?_);show wpAny _ _ (isInstance _ _ >>= _) _ _ _;refine wpAny_bind (wpAny_isInstance (hTe _) sub_AttributeError ?_);rw [if_pos rfl];exact wpAny_pure (h h' tk' new.keeps)
section
variable {prog:Program} {w:World} {A:Around} {E:Value->Shared->Prop} {s:Shared} {K:Type} [DecidableEq K] {knd:KeyKind prog w K}
theorem aes{l:Addr}{Q:Value->Shared->Prop}(hl:PlainL s.heap l items)(hA:A.handled=none)(tp:Nat->Addr)(ky vl:Nat->Value)(ks:Nat->K)(hP:∀ (i:Nat) (v:Value),items[i]?=some v->v=Value.ref (tp i))(hk:∀ i,i<items.size->knd.is (ks i) (ky i)=true)(hT:∀ i,i<items.size->IsTup s.heap (tp i) #[ky i,vl i])(hn:items.size<=sizeLine)(h:∀ h' tk,(∀ b o,s.heap.get? b=some o->h'.get? b=some o)->h'.DictOf knd s.heap.objs.size (t9 ks vl items.size)->Q (.ref s.heap.objs.size) { s with heap:=h',toks:=tk }) :
  wpAny (model prog w) A (call (.type "dict") [.ref l]) Q E s:=by
 refine callType_codes (Q₁:=fun obj zu=>obj=.ref s.heap.objs.size/\zu={ s with heap:=s.heap.push { cls:=.type "dict",data:=.dict #[] } }) F.kt_called_dict (F.kt_typeCall_dict_1 _) F.entry_dict_init (kt_code_dict_new _ ⟨rfl,rfl⟩) ?_;rintro obj zu ⟨rfl,rfl⟩;have R9:(s.heap.push { cls:=.type "dict",data:=.dict #[] }).DictOf knd s.heap.objs.size []:=Heap.DictOf.new s.heap;obtain ⟨ol,nl,hol,zG,hld,eY⟩:=hl;have iI:(s.heap.push { cls:=.type "dict",data:=.dict #[] }).get? l=some ol:=Heap.get?_push_of_some _ hol;have C4:l<s.heap.objs.size:=Heap.lt_size hol;refine ⟨R9.typeIs,F.args_dict_init_2 _ _,?_⟩;unfold Builtin.«dict.__init__»;refine wpAny_bind ?_;unfold Builtin.Dict.selfAndRest;refine wpAny_bind (wpAny_notOrdered_dict R9.typeIs ?_);show wpAny _ _ (pure (s.heap.objs.size,[Value.ref l])) _ _ _;refine wpAny_pure ?_;show wpAny _ _ (Builtin.Dict.updateFrom "dict.__init__" s.heap.objs.size (.ref l) [] .none) _ _ _;unfold Builtin.Dict.updateFrom;refine wpAny_bind (wpAny_typeOf (T:="list") ⟨_,iI,zG⟩ ?_);rw [if_pos (by decide)];refine wpAny_bind (agg iI zG eY hld (by simp [hA]) fun h2 tk2 keep2=>?_);rw [if_pos (show (none:Option Value).isNone=true from rfl)];refine wpAny_bind (wpAny_rule ?_);have f8:h2.IsList l items:=⟨ol,keep2 _ _ iI,zG,nl,eY⟩
 refine wpAny_bind (wpAny_pyIter_list f8 ?_);obtain ⟨od,es,ep,sS,restd⟩:=R9;have cN:s.heap.objs.size<h2.objs.size:=Heap.lt_size (keep2 _ _ sS);have G8:l≠h2.objs.size:=L8 (Nat.lt_trans C4 cN);have hh:A.in1.in1.handled=none:=by simp [hA]
 have aX:s.heap.objs.size∉[h2.objs.size,l]:=by
  simp only [K0,jI,or_false,not_or];exact ⟨L8 cN,Nat.ne_of_gt C4⟩
 have oX:∀ i,i<items.size->tp i<s.heap.objs.size:=fun i hi=>by
  obtain ⟨o,ho,_⟩:=hT i hi;exact Heap.lt_size ho
 refine wpAny_pure ⟨plainId_quiet qS _,ajW ((Walks.list hh _ l G8 items).toS) s.heap.objs.size aX tp ky vl ks hP hk (fun i hi=>⟨L8 (oX i hi),?_⟩) hn (items.size-0) 0 _ 0 0 (by lia) (F7 _) ⟨⟨_,Heap.get?_push_size _ rfl,rfl,rfl⟩,f8.push _⟩ (fun i hi=>?_) ?_ fun s' hm hD'=>?_⟩
 .simp only [K0,jI,or_false];exact L8 (Nat.lt_trans (oX i hi) cN)
 .obtain ⟨o,ho,rest⟩:=hT i hi;exact ⟨o,Heap.get?_push_of_some _ (keep2 _ _ (Heap.get?_push_of_some _ ho)),rest⟩
 .exact ⟨od,es,ep,Heap.get?_push_of_some _ (keep2 _ _ sS),restd⟩
 .obtain ⟨h',g',d',tk',os'⟩:=s';have eg:g'=s.gens:=hm.gens;have ed:d'=s.drawn:=hm.drawn;have eo:os'=s.os:=hm.os;subst eg ed eo;refine ⟨rfl,h h' tk' (fun b o hb=>hm.heap b o ?_ (Heap.get?_push_of_some _ (keep2 _ _ (Heap.get?_push_of_some _ hb)))) hD'⟩;have oY:b<s.heap.objs.size:=Heap.lt_size hb;simp only [K0,jI,or_false,not_or];exact ⟨L8 oY,L8 (Nat.lt_trans oY cN)⟩
end
noncomputable def aq3 (K:PySem.W.Frag) (calm:Bool):List V->Hp->VK->Prop:=fun xs H Q=>calm=true/\∃ (p:Addr) (ts:List Addr) (kxs:List (B3×V)),xs=[.ref p]/\D0 K H p (ts.map V.ref)/\Paired (fun t kx=>B1 K H t [kV kx.1,kx.2]) ts kxs/\∀ d,H d=none->Q (.ref d) (A0 H d (.dK (X4 [] kxs)))
theorem ahW(I:Inv X pins Y H s):∀ {ts:List Addr} {kxs:List (B3×V)},Paired (fun t kx=>B1 X.K H t [kV kx.1,kx.2]) ts kxs->
  ∃ ws:List (Value×Value),Paired (fun t w=>IsTup s.heap t #[w.1,w.2]) ts ws/\Paired (fun (kx:B3×V) (w:Value×Value)=>keyIs kx.1 w.1=true/\RelV kx.2 w.2) kxs ws
 | _,_,.nil=>⟨[],.nil,.nil⟩
 | _,_,.cons h t=>by
  obtain ⟨ws,h1,h2⟩:=ahW I t;obtain ⟨its,r,ht,_⟩:=I.tuple h;obtain ⟨u1,u2,rfl,r1,r2⟩:=vals2 r;exact ⟨(u1,u2)::ws,.cons ht h1,.cons ⟨kV_is (P:=X.prog) (w:=X.w) r1,r2⟩ h2⟩
theorem ajX:∀ {ts:List Addr} {us:List Value},Vals (ts.map V.ref) us->us=ts.map Value.ref
 | [],_,.nil=>rfl
 | t::ts,_::_,.cons h r=>by
  rw [E6,<- ajX r];cases h;rfl
theorem ajY(hK:X.K=K:=by rfl)(hc:X.calm=calm:=by rfl):QCall X (.type "dict") (aq3 K calm):=⟨by
 subst hK;intro pins s Y H xs us Q I r h;obtain ⟨oU,p,ts,kxs,rfl,hp,hP,q⟩:=h;obtain ⟨u,rfl,rx⟩:=vals1 r
 cases rx
 obtain ⟨its,r',pl,hz⟩:=I.list hp;have oZ:=ajX r';obtain ⟨ws,h1,h2⟩:=ahW I hP;have k7:ts.length=ws.length:=Paired.length h1;have f8:kxs.length=ws.length:=Paired.length h2;rw [A6] at hz;have hsz:its.toArray.size=ts.length:=by rw [J8,oZ,A6]
 have zH:∀ i,i<=ts.length->KV (X4 [] (kxs.take i)) (t9 (fun i=>(kxs.getD i (Sum.inl 0,.non)).1) (fun i=>(ws.getD i (.none,.none)).2) i):=by
  intro i
  induction i with
  | zero=>intro _;exact .nil
  | succ i ih=>
   intro hi;have cO:i<kxs.length:=by lia
   obtain ⟨w',hw,hr⟩:=Paired.at h2 (J7 cO);have e1:X4 [] (kxs.take (i+1))=putK (X4 [] (kxs.take i)) kxs[i].1 kxs[i].2:=by
    unfold X4;rw [q0,J7 cO,Option.toList_some,y3];rfl
   rw [e1];show KV _ (stored _ (kxs.getD i (Sum.inl 0,.non)).1 (ws.getD i (.none,.none)).2);have e2:(kxs.getD i (Sum.inl 0,.non))=kxs[i]:=by rw [x9,J7 cO];rfl
   have e3:(ws.getD i (.none,.none))=w':=by rw [x9,hw];rfl
   rw [e2,e3];exact (ih (by lia)).put _ hr.2
 refine aes (knd:=M6 X.prog X.w) pl (I.ok.hd (hc.trans oU)) (fun i=>ts.getD i 0) (fun i=>(ws.getD i (.none,.none)).1) (fun i=>(ws.getD i (.none,.none)).2) (fun i=>(kxs.getD i (Sum.inl 0,.non)).1) (fun i v hv=>?_) (fun i hi=>?_) (fun i hi=>?_) (by lia) fun h' tk keep hD=>?_
 .rw [<- Array.getElem?_toList,oZ,T8] at hv;rw [x9];cases e:ts[i]? with
  | none=>rw [e] at hv;cases hv
  | some t=>rw [e] at hv;cases hv;rfl
 .obtain ⟨w',hw,hr⟩:=Paired.at h2 (J7 (show i<kxs.length by lia));have e2:(kxs.getD i (Sum.inl 0,.non))=kxs[i]'(by lia):=by rw [x9,J7 (show i<kxs.length by lia)];rfl
  have e3:(ws.getD i (.none,.none))=w':=by rw [x9,hw];rfl
  rw [e2,e3];exact hr.1
 .have hi':i<ts.length:=by lia
  obtain ⟨w',hw,hr⟩:=Paired.at h1 (J7 hi');have e3:(ws.getD i (.none,.none))=w':=by rw [x9,hw];rfl
  have e4:ts.getD i 0=ts[i]:=by rw [x9,J7 hi'];rfl
  rw [e3,e4];exact hr
 .have hD2:KV (X4 [] kxs) (t9 (fun i=>(kxs.getD i (Sum.inl 0,.non)).1) (fun i=>(ws.getD i (.none,.none)).2) its.toArray.size):=by
   have:=zH ts.length (C3 _)
   rw [o9 (by lia)] at this;rw [hsz];exact this
  have A8:=ady kxs [];rw [Z2] at A8;exact ⟨.ref s.heap.objs.size,_,I.laid (t':=tk) keep (C3 _) (uO (by lia) (beq_eq_false_iff_ne.mpr (Ne.symm (L8 I.big))) hD2 hD),rfl,q _ (I.hok.fresh (C3 _))⟩⟩
end L2
set_option maxRecDepth 100000
namespace L2
open PySem PySem.Spec PyProof.Rows
section
variable {X:Cx} {pins:List (Addr×Obj)} {Y:St} {H:Hp} {s:Shared} {h':Heap}
theorem Inv.turnNew{ch:List Addr}{T:Addr}{o:HO}(I:Inv X pins Y H s)(hf:∀ b∈ch,FpOk X pins H b)(k:∀ b u,b∉ch->s.heap.get? b=some u->h'.get? b=some u)(hT:s.heap.objs.size<=T)(new:ObjOk X.prog X.w (A0 H T o) h' T o):Inv X pins Y (A0 H T o) { s with heap:=h',toks:=t' }:=by
 have hn:H T=none:=I.hok.fresh hT;have nch:∀ b u,H b=some u->b∉ch:=fun b u e z=>by rw [(hf b z).1] at e;cases e
 have neT:∀ b u,s.heap.get? b=some u->b≠T:=fun b u e=>L8 (V2 (Heap.lt_size e) hT)
 refine I.step (g':=s.gens) (d':=s.drawn) (ch:=ch) (fun b hb=>?_) (fun b u _ _ hc e _=>k b u hc e) (fun b u _ _ hc e _=>⟨u.slots,k b u hc e⟩) (fun b u _ e n=>by rw [A7 (neT b u e)];exact n)
  (fun b u hc e=>⟨u,k b u hc e⟩) (fun b xs e=>C8 e hn) (fun b ob u e=>C8 e hn) (fun b ps e=>⟨#[],by rw [C8 e hn];simp⟩) (fun m hm=>?_) (fun b u e=>?_) I.bare
 .obtain ⟨f0,f1,f2,f3,f4,f5⟩:=hf b hb;exact ⟨f3,f1,f4,f5⟩
 .obtain ⟨ob,es,ep,ho,r⟩:=hm;exact ⟨ob,es,ep,k _ ob (fun z=>(hf _ z).2.1 rfl) ho,r⟩
 .by_cases hb:b=T
  .subst hb;rw [A3] at e;cases e;exact new
  .rw [A7 hb] at e;refine (I.hok b u e).stay (fun c v hc q=>k c v ?_ q) (fun c q=>C8 q hn) fun c xs q=>C8 q hn
   rcases hc with z | z
   .rw [z];exact nch b u e
   .exact nch c _ z
end
theorem m8{a b:Nat}(h:a<b\/b<a):(show Addr from a)≠(show Addr from b):=fun e=>by
 have e:a=b:=e;lia
noncomputable def qT (l1 l2 : Addr) : It :=
  ⟨fun i H => ∃ xs ys x y, H l1 = some (.lst xs) /\ H l2 = some (.lst ys) /\ xs[i]? = some x /\ ys[i]? = some y,
   fun i H v H' => ∃ t xs ys x y, H l1 = some (.lst xs) /\ H l2 = some (.lst ys) /\ xs[i]? = some x /\ ys[i]? = some y /\ H t = none /\ v = .ref t /\ H' = A0 H t (.tup [x, y]),
   fun i H => ∃ xs ys, H l1 = some (.lst xs) /\ H l2 = some (.lst ys) /\ (xs.length <= i \/ ys.length <= i)⟩
theorem alS{P:Program}{w:World}{pos:Pos}(z TI TO i1 i2 l1 l2:Addr)(a1:TI≠z)(a2:TO≠z)(a3:i1≠z)(a4:i2≠z)(a5:TI≠TO)(a6:TI≠i1)(a7:TI≠i2)(a8:TO≠i1)(a9:TO≠i2)(a10:i1≠i2) :
  Turn P w K (.Tuple elts x1 pos) (qT l1 l2) [z,TO,i1,i2,TI] z (fun i h=>IsZip h z TI TO .none/\IsPair h TI (.ref i1) (.ref i2)/\(∃ a b,IsPair h TO a b)/\h.IsListIter i1 l1 i/\h.IsListIter i2 l2 i) where
 mem:=by simp
 obj:=fun i h ⟨hz,hTI,⟨a,b,hTO⟩,h1,h2⟩ c hc=>by
  have e:c=z\/c=TO\/c=i1\/c=i2\/c=TI:=by simpa using hc
  rcases e with rfl | rfl | rfl | rfl | rfl
  .exact ⟨_,hz,fun v q=>by cases q⟩
  .exact ⟨_,hTO,fun v q=>by cases q⟩
  .obtain ⟨o,e,c,d⟩:=h1;exact ⟨o,e,fun v z=>by rw [d] at z;cases z⟩
  .obtain ⟨o,e,c,d⟩:=h2;exact ⟨o,e,fun v z=>by rw [d] at z;cases z⟩
  .exact ⟨_,hTI,fun v q=>by cases q⟩
 keep:=fun i h h' ⟨hz,hTI,⟨a,b,hTO⟩,h1,h2⟩ k=>⟨k z (by simp) _ hz,k TI (by simp) _ hTI,⟨a,b,k TO (by simp) _ hTO⟩,h1.at fun o e=>k i1 (by simp) o e,h2.at fun o e=>k i2 (by simp) o e⟩
 item:=by
  intro X hP hw hK hc i pins s Y H E I hf ⟨hz,hTI,⟨a,b,hTO⟩,h1,h2⟩ hg;subst hP hw hK;obtain ⟨xs,ys,x,y,e1,e2,hx,hy⟩:=hg;obtain ⟨its1,W5,p1,_⟩:=I.list (D0.of (K:=X.K) e1);obtain ⟨its2,sT,p2,_⟩:=I.list (D0.of (K:=X.K) e2);obtain ⟨u1,B5,r1⟩:=W5.get hx;obtain ⟨u2,eZ,r2⟩:=sT.get hy;have nl:∀ c∈[z,TO,i1,i2,TI],l1≠c/\l2≠c:=fun c hc=>⟨fun q=>(by rw [q,(hf c hc).1] at e1;cases e1),fun q=>(by rw [q,(hf c hc).1] at e2;cases e2)⟩
  have D:ZipApart z TI TO i1 i2 l1 l2:=⟨a1,a2,a3,a4,a5,a6,a7,a8,a9,a10,(nl z (by simp)).1,(nl TO (by simp)).1,(nl i1 (by simp)).1,(nl i2 (by simp)).1,(nl z (by simp)).2,(nl TO (by simp)).2,(nl i1 (by simp)).2,(nl i2 (by simp)).2⟩
  refine wpAny_pyNext_zip_item D hz hTI hTO h1 h2 p1.isList p2.isList (x:=u1) (y:=u2) (by simpa using B5) (by simpa using eZ) fun h' b1 b2 b3 b4 b5 b6 b7=>⟨_,rfl,wpAny_letOwnedTupleGo_zip b1 fun h2' c1 c2=>?_⟩
  have O9:z<s.heap.objs.size:=Heap.lt_size hz;have up:∀ c o,c≠z->h'.get? c=some o->h2'.get? c=some o:=fun c o hc e=>(c2.2 c hc).trans e
  have nT:∀ c∈[z,TO,i1,i2,TI],c≠s.heap.objs.size:=fun c hc=>by
   have e:c=z\/c=TO\/c=i1\/c=i2\/c=TI:=by simpa using hc
   refine L8 ?_
   rcases e with rfl | rfl | rfl | rfl | rfl
   .exact Heap.lt_size hz
   .exact Heap.lt_size hTO
   .obtain ⟨o,e,_⟩:=h1;exact Heap.lt_size e
   .obtain ⟨o,e,_⟩:=h2;exact Heap.lt_size e
   .exact Heap.lt_size hTI
  have hT:=up _ _ (Nat.ne_of_gt O9) b5;refine ⟨.ref s.heap.objs.size,A0 H s.heap.objs.size (.tup [x,y]),I.turnNew (t':=s.toks) (ch:=[z,TO,i1,i2,TI]) hf (fun c u hc e=>?_) (C3 _) ⟨by show 2<=sizeLine;decide,[u1,u2],.cons r1 (.cons r2 .nil),?_⟩,rfl,⟨_,xs,ys,x,y,e1,e2,hx,hy,I.fresh,rfl,rfl⟩,
   ⟨c1,up _ _ a1 (b7 _ _ a1 a5 a6 a7 hTI),⟨_,_,up _ _ a2 b2⟩,b3.at fun o e=>up _ o a3 e,b4.at fun o e=>up _ o a4 e⟩,fun c hc=>by rw [A7 (nT c hc)];exact (hf c hc).1⟩
  .have q:c≠z/\c≠TO/\c≠i1/\c≠i2:=by
    refine ⟨fun q=>hc (by simp [q]),fun q=>hc (by simp [q]),fun q=>hc (by simp [q]),fun q=>hc (by simp [q])⟩
   exact up c u q.1 (b7 c u q.1 q.2.1 q.2.2.1 q.2.2.2 e)
  .exact ⟨_,hT,rfl,_,rfl⟩
 done:=by
  intro X hP hw hK hc i pins s Y H E I hf ⟨hz,hTI,⟨a,b,hTO⟩,h1,h2⟩ hg;subst hP hw hK;obtain ⟨xs,ys,e1,e2,iJ⟩:=hg;obtain ⟨its1,W5,p1,_⟩:=I.list (D0.of (K:=X.K) e1);obtain ⟨its2,sT,p2,_⟩:=I.list (D0.of (K:=X.K) e2);have q1:=W5.length;have q2:=sT.length;have nl:∀ c∈[z,TO,i1,i2,TI],l1≠c/\l2≠c:=fun c hc=>⟨fun q=>(by rw [q,(hf c hc).1] at e1;cases e1),fun q=>(by rw [q,(hf c hc).1] at e2;cases e2)⟩
  have D:ZipApart z TI TO i1 i2 l1 l2:=⟨a1,a2,a3,a4,a5,a6,a7,a8,a9,a10,(nl z (by simp)).1,(nl TO (by simp)).1,(nl i1 (by simp)).1,(nl i2 (by simp)).1,(nl z (by simp)).2,(nl TO (by simp)).2,(nl i1 (by simp)).2,(nl i2 (by simp)).2⟩
  refine wpAny_pyNext_zip_end (I.ok.hd hc) D hz hTI hTO h1 h2 p1.isList p2.isList (by rcases iJ with q | q <;> simp <;> lia) fun h' k=>⟨rfl,?_⟩
  refine I.step (h':=h') (t':=s.toks) (g':=s.gens) (d':=s.drawn) (ch:=[z,TO,i1,i2,TI]) (fun b hb=>?_) (fun b u _ _ hc e _=>?_) (fun b u _ _ hc e _=>⟨u.slots,?_⟩) (fun b u _ e n=>n)
   (fun b u hc e=>⟨u,?_⟩) (fun b xs e=>e) (fun b ob u e=>e) (fun b ps e=>⟨#[],by rw [e];simp⟩) (fun m hm=>?_) (fun b u e=>?_) I.bare
  .obtain ⟨f0,f1,f2,f3,f4,f5⟩:=hf b hb;exact ⟨f3,f1,f4,f5⟩
  .exact k b u (fun q=>hc (by simp [q])) (fun q=>hc (by simp [q])) (fun q=>hc (by simp [q])) (fun q=>hc (by simp [q])) e
  .exact k b u (fun q=>hc (by simp [q])) (fun q=>hc (by simp [q])) (fun q=>hc (by simp [q])) (fun q=>hc (by simp [q])) e
  .exact k b u (fun q=>hc (by simp [q])) (fun q=>hc (by simp [q])) (fun q=>hc (by simp [q])) (fun q=>hc (by simp [q])) e
  .obtain ⟨ob,es,ep,ho,r⟩:=hm;have nL:∀ c∈[z,TO,i1,i2,TI],X.env.locals≠c:=fun c hc q=>(hf c hc).2.1 q.symm
   exact ⟨ob,es,ep,k _ ob (nL z (by simp)) (nL TO (by simp)) (nL i1 (by simp)) (nL i2 (by simp)) ho,r⟩
  .have nch:∀ b u,H b=some u->∀ c∈[z,TO,i1,i2,TI],b≠c:=fun b u e c hc q=>by rw [q,(hf c hc).1] at e;cases e
   refine (I.hok b u e).stay (fun c v hc q=>?_) (fun c q=>q) fun c xs q=>q
   have:∀ d∈[z,TO,i1,i2,TI],c≠d:=by
    rcases hc with z | z
    .rw [z];exact nch b u e
    .exact nch c _ z
   exact k c v (this z (by simp)) (this TO (by simp)) (this i1 (by simp)) (this i2 (by simp)) q
 self:=fun _ _ _ _ _ st h=>wpAny_pyIter_zip st.1 h
section
variable {X:Cx}
noncomputable def iZip (ta:TA):TI:=fun Y H R=>ta Y H fun vs H1=>∃ (l1 l2:Addr) (xs ys:List V),vs=[.ref l1,.ref l2]/\H1 l1=some (.lst xs)/\H1 l2=some (.lst ys)/\R (qT l1 l2) H1
theorem aq4{a b:Expr}{p pos:Pos}(hg:Gl X "zip")(hm:X.mg "zip"=none)(ha:PA X [a,b] ta)(h1:L0 a=false:=by rfl)(h2:L0 b=false:=by rfl) :
  PI X (.Tuple elts x1 tpos) (.Call (.Name "zip" p) [a,b] [] pos) (iZip ta):=by
 intro pins s Y H R I h;refine Call_ (z8 I hg hm boot_zip (PyProof.Rows.callWith_type1 (A9 (ha pos pins s Y H _ I h) fun us s1 ⟨vs,H1,I1,r1,q1⟩=>?_) (N6 h1) (by rw [N6 h2];rfl)));obtain ⟨l1,l2,xs,ys,rfl,e1,e2,q⟩:=q1;obtain ⟨u1,u2,rfl,iK,zI⟩:=vals2 r1
 cases iK
 cases zI
 obtain ⟨its1,W5,p1,_⟩:=I1.list (D0.of (K:=X.K) e1);obtain ⟨its2,sT,p2,_⟩:=I1.list (D0.of (K:=X.K) e2);refine call_zip_2 p1.isList p2.isList fun h' z1 z2 z3 z4 z5 z6 z7=>wpAny_pyIter_zip z1 ?_
 refine ⟨s1.heap.objs.size+4,[s1.heap.objs.size+4,s1.heap.objs.size+3,s1.heap.objs.size,s1.heap.objs.size+1,s1.heap.objs.size+2],_,_,H1,rfl,I1.kept (t':=s1.toks) z7,
  alS _ (s1.heap.objs.size+2) (s1.heap.objs.size+3) s1.heap.objs.size (s1.heap.objs.size+1) l1 l2 (m8 (by lia)) (m8 (by lia)) (m8 (by lia)) (m8 (by lia)) (m8 (by lia)) (m8 (by lia)) (m8 (by lia)) (m8 (by lia)) (m8 (by lia)) (m8 (by lia)),⟨z1,z2,⟨_,_,z3⟩,z4,z5⟩,fun b hb=>?_,q⟩
 have Y8:s1.heap.objs.size<=b:=by
  have e:b=s1.heap.objs.size+4\/b=s1.heap.objs.size+3\/b=s1.heap.objs.size\/b=s1.heap.objs.size+1\/b=s1.heap.objs.size+2:=by simpa using hb
  rcases e with rfl | rfl | rfl | rfl | rfl
  .exact dM _ _
  .exact dM _ _
  .exact C3 _
  .exact dM _ _
  .exact dM _ _
 exact I1.fpOk Y8 (I1.hok.fresh Y8)
theorem aq5{a b:Expr}{p pos:Pos}(hm:X.mg "zip"=none)(ha:QA X [a,b] ta)(hg:Gl X "zip":=by rfl)(h1:L0 a=false:=by rfl)(h2:L0 b=false:=by rfl) :
  QI X (.Tuple elts x1 tpos) (.Call (.Name "zip" p) [a,b] [] pos) (iZip ta):=⟨aq4 hg hm ha.out h1 h2⟩
end
theorem aoj{R:It->Hp->Prop} : iZip ta Y H R=ta Y H fun vs H1=>∃ (l1 l2:Addr) (xs ys:List V),vs=[.ref l1,.ref l2]/\H1 l1=some (.lst xs)/\H1 l2=some (.lst ys)/\R (qT l1 l2) H1:=rfl
theorem forZ{l1 l2:Addr}(Pv:Nat->St->Hp->Prop)(h0:Pv 0 Y H)(hl:∀ i Y H,Pv i Y H->H l1=some (.lst xs)/\H l2=some (.lst ys))(hs:∀ i x y t Y H,xs[i]?=some x->ys[i]?=some y->Pv i Y H->H t=none->g (.ref t) Y (A0 H t (.tup [x,y])) fun σ2 H2=>tb { D with nx:=Pv (i+1),ct:=Pv (i+1),bk:=D.nx } σ2 H2)(hd:∀ Y H,Pv (min xs.length ys.length) Y H->D.nx Y H):ForIt (qT l1 l2) g tb D Y H:=by
 refine ⟨fun i m Y H=>m=min xs.length ys.length-i/\i<=min xs.length ys.length/\Pv i Y H,⟨min xs.length ys.length,by simp,F7 _,h0⟩,?_⟩;rintro i m Y H ⟨rfl,hi,p⟩;obtain ⟨e1,e2⟩:=hl i Y H p
 by_cases C4:i<min xs.length ys.length
 .refine .inr ⟨⟨xs,ys,xs[i]'(by lia),ys[i]'(by lia),e1,e2,by simp,by simp⟩,Pv (i+1),fun σ' H' p'=>⟨_,by lia,rfl,C4,p'⟩,fun v H' y=>?_⟩;obtain ⟨t,xs',ys',x,y',f1,f2,hx,hy,ht,rfl,rfl⟩:=y;rw [e1] at f1;cases f1;rw [e2] at f2;cases f2;exact hs i x y' t Y H hx hy p ht
 .have e:i=min xs.length ys.length:=by lia
  subst e;exact .inl ⟨⟨xs,ys,e1,e2,by lia⟩,hd Y H p⟩
noncomputable def Itr3 (lo st:Int) (n:Nat):It:=⟨fun i _=>i<n,fun i H x H'=>H'=H/\x=.int (lo+i*st),fun i _=>n<=i⟩
theorem ae6:∀ {vs:List Value} {zs:List Str},StrsAre vs zs->∀ {j:Nat} {z:Str},zs[j]?=some z->∃ t,vs[j]?=some (.str z t)
 | _,_,.nil,_,_,h=>by simp at h
 | _,_,.cons _ _ _,0,_,h=>by simp at h;subst h;exact ⟨_,rfl⟩
 | _,_,.cons _ _ r,j+1,z,h=>by
  obtain ⟨t,q⟩:=ae6 r (j:=j) (z:=z) (by simpa using h);exact ⟨t,by simpa using q⟩
theorem agh{α β:Type}(f:α->β):∀ (l:List α) (i:Nat),(l.eraseIdx i).map f=(l.map f).eraseIdx i
 | [],_=>rfl
 | _::_,0=>rfl
 | x::l,i+1=>by
  show f x::(l.eraseIdx i).map f=f x::(l.map f).eraseIdx i;rw [agh f l i]
noncomputable def vP (td ty tx:TE):TE:=fun Y H Q=>td Y H fun x H1=>∃ a,x=.ref a/\gC H1 a/\ty Y H1 fun y H2=>tx Y H2 fun z H3=>∃ kvs k,H3 a=some (.dK kvs)/\kvs.length<sizeLine/\y=kV k/\
 (∀ v,valV kvs k=some v->Q v H3)/\(valV kvs k=none->Q z (A0 H3 a (.dK (putK kvs k z))))
section
variable {X:Cx} {o e f:Expr} {apos cpos:Pos} {td ty tx:TE} {pins:List (Addr×Obj)} {Y:St} {H:Hp} {s:Shared} {a:Addr} {A:Around} {E:Value->Shared->Prop}
theorem aq6{k:B3}{z:V}{r:Value}{Q:Value->Shared->Prop}(I:Inv X pins Y H s)(e:H a=some (.dK kvs))(hl:kvs.length<sizeLine)(ry:RelV (kV k) u)(rz:RelV z r)(h1:∀ v w' s',valV kvs k=some v->Inv X pins Y H s'->RelV v w'->Q w' s')(h2:∀ s',valV kvs k=none->Inv X pins Y (A0 H a (.dK (putK kvs k z))) s'->Q r s') :
  wpAny (model X.prog X.w) A (call (.builtin "dict.setdefault") [.ref a,u,r]) Q E s:=by
 obtain ⟨hz,hd,vs,rel,dd⟩:=dk_of I.hok e;have A8:=rel.length;refine call_meetsIn PySem.F.slot_dict_setdefault dd.typeIs PySem.F.entry_dict_setdefault (PySem.F.args_dict_setdefault_3 _ _ _) (kt_meets_setdefault (M6 X.prog X.w) a (kV_is ry) hd r) ⟨vs,dd,by lia,fun v hv=>?_,fun hn h' hm hs=>?_⟩
 .have:=rel.val k
  rw [hv] at this;cases iL:valV kvs k with
  | none=>rw [iL] at this;exact this.elim
  | some x=>rw [iL] at this;exact h1 x v _ iL (I.tok _) this
 .have:=rel.val k
  rw [hn] at this;cases iL:valV kvs k with
  | some x=>rw [iL] at this;exact this.elim
  | none=>
   have X9:(putK kvs k z).length<=sizeLine:=by rw [aln z iL,D7,Z0];lia
   obtain ⟨ob,_,_,ho,_⟩:=id hm;exact h2 _ iL (qF (t':=s.toks+1) I (by rw [e];exact trivial) hs ⟨ob,ho⟩ (uO X9 hd (rel.put k rz) hm))
theorem alT(ho:PE X o td)(he:PE X e ty)(hf:PE X f tx)(m:M2 X o "setdefault" apos e f cpos):PE X (.Call (.Attribute o "setdefault" apos) [e,f] [] cpos) (vP td ty tx):=by
 intro pins s Y H Q I h;refine wpAny_Call_method m.base m.few m.line PySem.F.plainAttrs_dict PySem.F.slot_dict_setdefault PySem.F.type_dict_setdefault (A9 (ho pins s Y H _ I h) fun u s1 ⟨x,H1,I1,rx,a,ex,d,q1⟩=>?_);subst ex;obtain rfl:u=Value.ref a:=rx;obtain ⟨t1,t2,_⟩:=uR I1 d;refine ⟨t1,t2,?_⟩;rw [m.trees];refine Calls.callWith_builtin rfl (Calls.evalArgs_plain (Calls.spliced_cons (A9 (he pins s1 Y H1 _ I1 q1) fun iv s2 ⟨y,H2,I2,ry,q2⟩=>
  Calls.spliced_cons (A9 (hf pins s2 Y H2 _ I2 q2) fun fv s3 ⟨z,H3,I3,rz,kvs,k,e3,hl,ey,q3,q4⟩=>Calls.spliced_nil ?_))))
 subst ey;exact aq6 I3 e3 hl ry rz (fun v w' s4 hv I4 rw'=>⟨v,H3,I4,rw',q3 v hv⟩) fun s4 hn I4=>⟨z,_,I4,rz,q4 hn⟩
theorem alU(ho:QE X o td)(he:QE X e ty)(hf:QE X f tx)(h1:L0 e=false:=by rfl)(h2:L0 f=false:=by rfl)(F8:attributeBase o "setdefault" X.env (eval o X.env)=eval o X.env:=by rfl)(F9:(apos.endLine==cpos.line)=true:=by rfl):QE X (.Call (.Attribute o "setdefault" apos) [e,f] [] cpos) (vP td ty tx):=
 ⟨alT ho.out he.out hf.out ⟨F8,by rw [N6 h1,N6 h2];rfl,F9,by rw [N6 h1,N6 h2];rfl⟩⟩
theorem alV:vP td ty tx Y H Q=td Y H fun x H1=>∃ a,x=.ref a/\gC H1 a/\ty Y H1 fun y H2=>tx Y H2 fun z H3=>∃ kvs k,H3 a=some (.dK kvs)/\kvs.length<sizeLine/\y=kV k/\
 (∀ v,valV kvs k=some v->Q v H3)/\(valV kvs k=none->Q z (A0 H3 a (.dK (putK kvs k z)))):=rfl
end
section
variable {X:Cx} {tg:Expr}
noncomputable def rsz (i j k:Int):Nat:=(if i<j then (j-i-1) / k+1 else 0).toNat
noncomputable def iRng3 (ta:TA):TI:=fun Y H R=>ta Y H fun vs H1=>∃ i j k:Int,vs=[.int i,.int j,.int k]/\(-(2 ^ 60)<=i/\i<2 ^ 60/\-(2 ^ 60)<=j/\j<2 ^ 60/\0<k/\k<1000000)/\R (Itr3 i k (rsz i j k)) H1
end
theorem alW{R:It->Hp->Prop} : iRng3 ta Y H R=ta Y H fun vs H1=>∃ i j k:Int,vs=[.int i,.int j,.int k]/\(-(2 ^ 60)<=i/\i<2 ^ 60/\-(2 ^ 60)<=j/\j<2 ^ 60/\0<k/\k<1000000)/\R (Itr3 i k (rsz i j k)) H1:=rfl
section
variable {X:Cx} {pins:List (Addr×Obj)} {Y:St} {H:Hp} {s:Shared} {a:Addr}
theorem Inv.swap{u u':HO}(I:Inv X pins Y H s)(e:H a=some u)(n1:∀ xs,u≠.tup xs)(n2:∀ x,u≠.own x)(n3:∀ ps,u≠.tbl ps)(n4:∀ o v,X.H₀ a≠some (.frz o v))(new:ObjOk X.prog X.w H s.heap a u'):Inv X pins Y (A0 H a u') s:=by
 have ne:∀ b,H b=none->b≠a:=fun b h q=>by rw [q,e] at h;cases h
 have own:∀ c x,H c=some (.own x)->A0 H a u' c=some (.own x):=fun c x q=>by
  rw [A7 (fun z=>by rw [z,e] at q;exact n2 x (Option.some.inj q))];exact q
 have tup:∀ c xs,H c=some (.tup xs)->A0 H a u' c=some (.tup xs):=fun c x q=>by
  rw [A7 (fun z=>by rw [z,e] at q;exact n1 x (Option.some.inj q))];exact q
 refine ⟨I.ok,I.os,I.bare,⟨I.base.keep,I.base.slot,fun b o h1 h2 h3=>?_,I.base.there,fun b xs h=>tup b xs (I.base.tups b xs h),fun b o v h=>?_,fun b ps h=>?_⟩,I.loc,I.cell,?_,fun x c h=>?_,fun p hp=>?_,fun b v h=>?_,I.len⟩
 .have:=I.base.free b o h1 h2 h3
  rw [A7 (ne b this)];exact this
 .rw [A7 (fun z=>n4 o v (by rw [<- z];exact h))];exact I.base.frzs b o v h
 .obtain ⟨m,q⟩:=I.base.tbls b ps h;exact ⟨m,by rw [A7 (fun z=>by rw [z,e] at q;exact n3 _ (Option.some.inj q))];exact q⟩
 .rw [A7 (ne _ I.free)];exact I.free
 .rw [A7 (ne _ (I.freeC x c h))];exact I.freeC x c h
 .obtain ⟨h1,h2,h3⟩:=I.pin p hp;exact ⟨h1,by rw [A7 (ne _ h2)];exact h2,h3⟩
 .by_cases hb:b=a
  .subst hb;rw [A3] at h;cases h;exact new.stay (fun _ _ _ q=>q) (fun c q=>own c _ q) fun c xs q=>tup c xs q
  .rw [A7 hb] at h;exact (I.hok b v h).stay (fun _ _ _ q=>q) (fun c q=>own c _ q) fun c xs q=>tup c xs q
end
noncomputable def mW (a:Addr) (o:Obj) (kvs:List (B3×V)):It:=
 ⟨fun i H=>H a=some (.frz o (.dK kvs))/\i<kvs.length,fun i H x H'=>H'=H/\∃ k v,kvs[i]?=some (k,v)/\x=kV k,fun i H=>H a=some (.frz o (.dK kvs))/\kvs.length<=i⟩
theorem aj0{P:Program}{w:World}(a it:Addr)(o:Obj)(kvs:List (B3×V))(vs:List (B3×Value))(ep:Nat)(V0:∀ h:Heap,h.get? a=some o->h.DictAt (M6 P w) a vs ep)(rel:KV kvs vs):Turn P w K tg (mW a o kvs) [it] it (fun i h=>h.IsKeyIter it a i vs.length ep) where
 mem:=by simp
 obj:=fun i h st b hb=>by
  have e:b=it:=by simpa using hb
  subst e;obtain ⟨o,e,c,d⟩:=st;exact ⟨o,e,fun v z=>by rw [d] at z;cases z⟩
 keep:=fun i h h' st k=>st.at fun o e=>k it (by simp) o e
 item:=by
  intro X hP hw hK hc i pins s Y H E I hf st hg;subst hP hw hK;obtain ⟨f0,f1,f2,f3,f4,f5⟩:=hf it (by simp);obtain ⟨zJ,pA⟩:=hg;have hd:=V0 s.heap (I.hok a _ zJ).1;have zK:i<vs.length:=by rw [<- rel.length];exact pA
  refine wpAny_pyNext_dict_item st hd (k:=vs[i].1) (v:=vs[i].2) (by rw [J7 zK]) fun key h' j8 pB sU=>?_
  have I1:Inv X pins Y H { s with heap:=h' }:=I.turned (t':=s.toks) (fun b o hb e=>(sU.2 b hb).trans e) f0 f1 f3 f4 f5;obtain ⟨oi,e,c,d⟩:=id pB;have hk:kvs[i].1=vs[i].1:=by
   have:=congrArg (·[i]?) rel.keys
   simpa [pA,zK] using this
  have rk:RelV (kV kvs[i].1) key:=by
   rw [hk];have j8:keyIs vs[i].1 key=true:=j8;generalize vs[i].1=kk at j8
   rcases r0 j8 with ⟨j,t,rfl,rfl⟩ | ⟨x,t,rfl,rfl⟩
   .exact ⟨t,rfl⟩
   .exact ⟨t,rfl⟩
  exact ⟨key,rfl,go_of (s:={ s with heap:=h' }) e c d (by decide) ⟨kV kvs[i].1,H,I1,rk,⟨rfl,kvs[i].1,kvs[i].2,by rw [J7 pA],rfl⟩,pB,fun b hb=>(hf b hb).1⟩⟩
 done:=by
  intro X hP hw hK hc i pins s Y H E I hf st hg;subst hP hw hK;obtain ⟨f0,f1,f2,f3,f4,f5⟩:=hf it (by simp);obtain ⟨zJ,pA⟩:=hg;have hd:=V0 s.heap (I.hok a _ zJ).1;exact wpAny_pyNext_dict_end (I.ok.hd hc) st hd (by rw [List.getElem?_eq_none_iff,<- rel.length];exact pA) fun h' eb=>⟨rfl,I.turned (t':=s.toks) (fun b o hb e=>eb b o hb e) f0 f1 f3 f4 f5⟩
 self:=fun _ _ _ _ _ st h=>wpAny_pyIter_keyiter st h
noncomputable def Ends.thaw (D:Ends) (a:Addr) (kvs:List (B3×V)):Ends where
 nx:=fun Y H=>(∃ o,H a=some (.frz o (.dK kvs)))/\D.nx Y (A0 H a (.dK kvs))
 rt:=fun v H=>(∃ o,H a=some (.frz o (.dK kvs)))/\D.rt v (A0 H a (.dK kvs))
noncomputable def tForD (tl:TE) (g:TG) (tb:TS):TS:=fun D Y H=>tl Y H fun x H1=>∃ a kvs,x=.ref a/\H1 a=some (.dK kvs)/\∀ o,ForIt (mW a o kvs) g tb (D.thaw a kvs) Y (A0 H1 a (.frz o (.dK kvs)))
theorem aok{l:Expr}{body:List Stmt}{pos:Pos}(hp:PassesOwn (model X.prog X.w) X.A X.env X.xe)(hc:X.calm=true)(hl:PE X l tl)(hg:PG X tg g)(hb:Y5 X body tb)(hs:∀ x,foldedSetIterable l X.env x=pure x):PS X (.For tg l body [] pos) (tForD tl g tb):=by
 intro pins s Y H D I h;refine wpAny_For (A9 (hl pins s Y H _ I h) fun v s1 ⟨x,H1,I1,r1,q1⟩=>?_) hs;obtain ⟨a,kvs,rfl,e,q⟩:=q1
 cases r1
 obtain ⟨z,hd,vs,rel,dd⟩:=dk_of I1.hok e;obtain ⟨ep,V0⟩:=dd.dictAt;obtain ⟨o,es,ho,f9⟩:=id V0;refine wpAny_pyIter_dict hd V0 ?_;have NF:∀ o' v',X.H₀ a≠some (.frz o' v'):=fun o' v' z=>by
  have:=I1.base.frzs _ _ _ z
  rw [e] at this;cases this
 have I1':Inv X pins Y H1 { s1 with heap:=s1.heap.push { cls:=.type "dict_keyiterator",data:=.fields #[.ref a,.int 0 0,.int vs.length 0,.int ep 0] } }:=I1.kept (t':=s1.toks) fun b u e=>Heap.get?_push_of_some _ e
 have I2:=I1'.swap (u':=.frz o (.dK kvs)) e (fun _ q=>by cases q) (fun _ q=>by cases q) (fun _ q=>by cases q) NF ⟨Heap.get?_push_of_some _ ho,I1'.hok a _ e⟩;have thaw:∀ {σ':St} {H':Hp} {s':Shared},Inv X pins σ' H' s'->(∃ o,H' a=some (.frz o (.dK kvs)))->Inv X pins σ' (A0 H' a (.dK kvs)) s':=fun {σ' H' s'} I' ⟨o',e'⟩=>
  I'.swap e' (fun _ q=>by cases q) (fun _ q=>by cases q) (fun _ q=>by cases q) NF (I'.hok a _ e').2
 have T:Turn X.prog X.w X.K tg (mW a o kvs) [s1.heap.objs.size] s1.heap.objs.size (fun i h=>h.IsKeyIter s1.heap.objs.size a i vs.length ep):=aj0 a _ o kvs vs ep (fun h e=>⟨o,es,e,f9⟩) rel;have k6:A0 H1 a (.frz o (.dK kvs)) s1.heap.objs.size=none:=by rw [A7 (fun q=>by rw [<- q,I1.fresh] at e;cases e)];exact I1.fresh
 have f2:∀ b∈[s1.heap.objs.size],FpOk X pins (A0 H1 a (.frz o (.dK kvs))) b:=fun b hb=>by
  have e:b=s1.heap.objs.size:=by simpa using hb
  subst e;exact I1.fpOk (C3 _) k6
 obtain ⟨W,⟨m0,w0⟩,turn⟩:=q o;have stat:∀ {H':Hp},(∀ b∈[s1.heap.objs.size],H' b=none)->∀ b∈[s1.heap.objs.size],FpOk X pins H' b:=fun hn b hb=>⟨hn b hb,(f2 b hb).2⟩
 refine codeAny_forLoop_any (fun n s'=>∃ i σ' H',Inv X pins σ' H' s'/\s'.heap.IsKeyIter s1.heap.objs.size a i vs.length ep/\(∀ b∈[s1.heap.objs.size],H' b=none)/\W i n σ' H') ?_ m0 ⟨0,Y,_,I2,⟨_,Heap.get?_push_size _ rfl,rfl,rfl⟩,fun b hb=>(f2 b hb).1,w0⟩;rintro n s3 ⟨i,σ3,H3,I3,eT,oP,w3⟩
 rcases turn i n σ3 H3 w3 with ⟨stop,qn⟩ | ⟨go,N,hN,step⟩
 .refine wpAny_passesOwn hp (A9 (T.done X rfl rfl rfl hc i pins s3 σ3 H3 X.xe I3 (stat oP) eT stop) fun r s4 ⟨hr,I4⟩=>?_);subst hr;exact wpAny_execs_nil ⟨σ3,_,thaw I4 qn.1,qn.2⟩
 .refine wpAny_passesOwn hp (A9 (T.item X rfl rfl rfl hc i pins s3 σ3 H3 X.xe I3 (stat oP) eT go) fun r s4 ⟨u,hr,h4⟩=>?_);subst hr;refine wpAny_passesOwn hp (A9 h4 fun _ s5 ⟨x,H5,I5,r5,y5,iA,yU⟩=>?_);have I5':=I5.pinned (stat yU) (T.obj _ _ iA);refine wpAny_passesOwn hp (A9 (hg _ s5 σ3 H5 x u _ I5' r5 (step x H5 y5)) fun _ s6 ⟨σ6,H6,I6,q6⟩=>?_);refine wpAny_passesOwn hp (A9 (hb _ s6 σ6 H6 _ I6 q6) fun f s7 q7=>?_);have again:∀ {σ7:St} {H7:Hp},Inv X (pins++jP [s1.heap.objs.size] s5.heap) σ7 H7 s7->N σ7 H7->∃ m,m<n/\∃ i σ' H',Inv X pins σ' H' s7/\s7.heap.IsKeyIter s1.heap.objs.size a i vs.length ep/\(∀ b∈[s1.heap.objs.size],H' b=none)/\W i m σ' H':=fun {σ7 H7} I7 n7=>by
   obtain ⟨m',hm,w7⟩:=hN σ7 H7 n7;refine ⟨m',hm,i+1,σ7,H7,I7.unpinned,T.keep _ _ _ iA fun b hb o e=>(I7.pin (b,o) (O5 _ (O5 _ (jQ hb e)))).1,fun b hb=>?_,w7⟩;obtain ⟨o,e,d⟩:=T.obj _ _ iA b hb;exact (I7.pin (b,o) (O5 _ (O5 _ (jQ hb e)))).2.1
  cases f with
  | next=>obtain ⟨σ7,H7,I7,n7⟩:=q7;exact again I7 n7
  | cont=>obtain ⟨σ7,H7,I7,n7⟩:=q7;exact again I7 n7
  | brk=>obtain ⟨σ7,H7,I7,q7⟩:=q7;exact ⟨σ7,_,thaw I7.unpinned q7.1,q7.2⟩
  | ret v=>obtain ⟨x7,σ7,H7,I7,r7,q7⟩:=q7;exact ⟨x7,σ7,_,thaw I7.unpinned q7.1,r7,q7.2⟩
theorem vQ{l:Expr}{body:List Stmt}{pos:Pos}(hp:PassesOwn (model X.prog X.w) X.A X.env X.xe)(hl:QE X l tl)(hg:QG X tg g)(hb:QSs X body tb)(hc:X.calm=true:=by rfl)(hs:∀ x,foldedSetIterable l X.env x=pure x:=by intro _;rfl):QS X (.For tg l body [] pos) (tForD tl g tb):=⟨aok hp hc hl.out hg.out hb.out hs⟩
theorem aol : tForD tl g tb D Y H=tl Y H fun x H1=>∃ a kvs,x=.ref a/\H1 a=some (.dK kvs)/\∀ o,ForIt (mW a o kvs) g tb (D.thaw a kvs) Y (A0 H1 a (.frz o (.dK kvs))):=rfl
theorem forD(Pv:Nat->St->Hp->Prop)(h0:Pv 0 Y H)(hl:∀ i Y H,Pv i Y H->H a=some (.frz o (.dK kvs)))(hs:∀ i k v Y H,kvs[i]?=some (k,v)->Pv i Y H->g (kV k) Y H fun σ2 H2=>tb { D.thaw a kvs with nx:=Pv (i+1),ct:=Pv (i+1),bk:=(D.thaw a kvs).nx } σ2 H2)(hd:∀ Y H,Pv kvs.length Y H->D.nx Y (A0 H a (.dK kvs))):ForIt (mW a o kvs) g tb (D.thaw a kvs) Y H:=by
 refine ⟨fun i m Y H=>m=kvs.length-i/\i<=kvs.length/\Pv i Y H,⟨kvs.length,by simp,F7 _,h0⟩,?_⟩;rintro i m Y H ⟨rfl,hi,p⟩;have e:=hl i Y H p
 by_cases C4:i<kvs.length
 .refine .inr ⟨⟨e,C4⟩,Pv (i+1),fun σ' H' p'=>⟨_,by lia,rfl,C4,p'⟩,fun v H' y=>?_⟩;obtain ⟨rfl,k,v',hk,rfl⟩:=y;exact hs i k v' Y _ hk p
 .have e2:i=kvs.length:=by lia
  subst e2;exact .inl ⟨⟨e,C3 _⟩,⟨o,e⟩,hd Y H p⟩
end L2
set_option maxRecDepth 100000
namespace L2
open PySem PySem.Spec PyProof.Rows
noncomputable def V6 (row:List Str):List (Str×Str):=row.zip row.tail
noncomputable def edges (rows:List (List Str)):List (Str×Str):=rows.flatMap V6
noncomputable def F6 (E:List (Str×Str)) (p:Str):List Str:=(E.filter fun e=>decide (e.1=p)).map (·.2)
noncomputable def cnt (E:List (Str×Str)) (line:List Str) (q:Str):Nat:=E.countP fun e=>decide (e.2=q) && !decide (e.1∈line)
noncomputable def cntIn (E:List (Str×Str)) (S:List Str) (q:Str):Nat:=E.countP fun e=>decide (e.2=q)&&decide (e.1∈S)
theorem alX(E:List (Str×Str))(a b p:Str):F6 (E++[(a,b)]) p=if a=p then F6 E p++[b] else F6 E p:=by
 unfold F6;rw [bJ,C9]
 by_cases h:a=p
 .rw [if_pos h,jB (by simpa using h)];rfl
 .rw [if_neg h,jC (by simpa using h)];simp
theorem agi(E:List (Str×Str))(p q:Str):(F6 E p).count q=E.countP fun e=>decide (e.2=q)&&decide (e.1=p):=by
 induction E with
 | nil=>rfl
 | cons e E ih=>
  unfold F6 at ih ⊢
  by_cases h:e.1=p
  .rw [jB (by simpa using h),E6,List.count_cons,ih,dG]
   by_cases h2:e.2=q
   .simp [h,h2]
   .simp [h,h2]
  .rw [jC (by simpa using h),ih,dG];simp [h]
theorem aiE{E:List (Str×Str)}{S:List Str}{p:Str}(h:p∉S):cntIn E (S++[p]) q=cntIn E S q+(F6 E p).count q:=by
 rw [agi];unfold cntIn
 induction E with
 | nil=>rfl
 | cons e E ih=>
  rw [dG,dG,dG,ih]
  by_cases h2:e.2=q
  .by_cases h1:e.1=p
   .have:e.1∉S:=by rw [h1];exact h
    simp [h2,h1,h];lia
   .by_cases h3:e.1∈S
    .simp [h2,h1,h3];lia
    .simp [h2,h1,h3]
  .simp [h2]
theorem ahX{E:List (Str×Str)}{p:Str}(h:p∉line):cnt E line q=cnt E (line++[p]) q+(F6 E p).count q:=by
 rw [agi];unfold cnt
 induction E with
 | nil=>rfl
 | cons e E ih=>
  rw [dG,dG,dG,ih]
  by_cases h2:e.2=q
  .by_cases h1:e.1=p
   .simp [h2,h1,h];lia
   .by_cases h3:e.1∈line
    .simp [h2,h1,h3]
    .simp [h2,h1,h3];lia
  .simp [h2]
theorem aj1{E:List (Str×Str)}{S:List Str}(h:∀ e∈E,e.1∈S)(q:Str):cntIn E S q=cnt E [] q:=by
 unfold cntIn cnt;refine List.countP_congr fun e he=>?_
 simp [h e he]
theorem aj2(E:List (Str×Str))(q:Str):cntIn E [] q=0:=by
 unfold cntIn
 simp
theorem cnt_zero{E:List (Str×Str)} : cnt E line q=0↔∀ e∈E,e.2=q->e.1∈line:=by
 unfold cnt;rw [List.countP_eq_zero]
 constructor
 .intro h e he h2
  have:=h e he
  simpa [h2] using this
 .intro h e he
  by_cases h2:e.2=q
  .simp [h2,h e he h2]
  .simp [h2]
noncomputable def nextP (E:List (Str×Str)) (ts pre:List Str):Option Str:=(ts.filter fun p=>!decide (p∈pre)).find? fun p=>decide (cnt E pre p=0)
noncomputable def U5 (E:List (Str×Str)) (ts line:List Str):Prop:=∀ pre q post,line=pre++q::post->nextP E ts pre=some q
theorem U5.nil(E:List (Str×Str))(ts:List Str):U5 E ts []:=fun pre q post h=>by
 have:=congrArg Z3 h
 simp at this
theorem U5.snoc{E:List (Str×Str)}{p:Str}(r:U5 E ts line)(h:nextP E ts line=some p):U5 E ts (line++[p]):=fun pre q post e=>by
 rcases List.append_eq_append_iff.mp e with ⟨m,h1,h2⟩ | ⟨m,h1,h2⟩
 .cases m with
  | nil=>
   rw [M3] at h1;rw [dH] at h2
   cases (List.cons.inj h2).1
   rw [h1];exact h
  | cons a m=>
   have:=congrArg Z3 h2
   simp at this
 .cases m with
  | nil=>
   rw [M3] at h1;rw [dH] at h2
   cases (List.cons.inj h2).1
   rw [<- h1];exact h
  | cons a m=>
   rw [fT] at h2;have h3:=(List.cons.inj h2).1;exact r pre q m (by rw [h1,h3])
theorem kD{E:List (Str×Str)}{pre:List Str}(h:nextP E ts pre=some q):q∈ts/\q∉pre/\cnt E pre q=0:=by
 have h1:=List.mem_of_find?_eq_some h;have h2:=List.find?_some h;rw [W9] at h1;exact ⟨h1.1,by simpa using h1.2,by simpa using h2⟩
theorem U5.nodup{E:List (Str×Str)} : ∀ {line:List Str},U5 E ts line->line.Nodup:=by
 intro line r;rw [dC,fP];intro i j hi hj zL e;have e1:line=line.take j++line[j]::line.drop (j+1):=by rw [<- fQ hj,p9]
 have:=(kD (r _ _ _ e1)).2.1
 exact this (g6.mpr ⟨i,by rw [L4];lia,by rw [List.getElem_take];exact e⟩)
theorem U5.sub{E:List (Str×Str)}(r:U5 E ts line)(h:q∈line):q∈ts:=by
 obtain ⟨pre,post,e⟩:=List.append_of_mem h;exact (kD (r pre q post e)).1
theorem alY{E:List (Str×Str)}{rank:Str->Nat}(hr:∀ e∈E,rank e.1<rank e.2)(hE:∀ e∈E,e.1∈ts)(hw:∃ p∈ts,p∉line):∃ q,nextP E ts line=some q:=by
 have key:∀ n p,rank p<=n->p∈ts->p∉line->∃ q∈ts,q∉line/\cnt E line q=0:=by
  intro n
  induction n with
  | zero=>
   intro p hp ht hl;refine ⟨p,ht,hl,cnt_zero.mpr fun e he h2=>?_⟩
   have:=hr e he
   rw [h2] at this;lia
  | succ n ih=>
   intro p hp ht hl
   by_cases hc:cnt E line p=0
   .exact ⟨p,ht,hl,hc⟩
   .have:∃ e∈E,e.2=p/\e.1∉line:=by
     refine Classical.byContradiction fun hn=>hc (cnt_zero.mpr fun e he h2=>Classical.byContradiction fun h3=>hn ⟨e,he,h2,h3⟩)
    obtain ⟨e,he,h2,h3⟩:=this;have h4:=hr e he;rw [h2] at h4;exact ih e.1 (by lia) (hE e he) h3
 obtain ⟨p,hp,hl⟩:=hw;obtain ⟨q,h1,h2,h3⟩:=key (rank p) p (C3 _) hp hl;cases h:nextP E ts line with
 | some q=>exact ⟨q,rfl⟩
 | none=>
  have:=y0.mp h q (W9.mpr ⟨h1,by simpa using h2⟩)
  simp [h3] at this
theorem qU{E:List (Str×Str)}(nd:ts.Nodup)(r:U5 E ts line)(h:∀ p∈ts,p∈line):line.length=ts.length:=
 ((List.perm_ext_iff_of_nodup r.nodup nd).mpr fun a=>⟨r.sub,h a⟩).length_eq
theorem ae7(E:List (Str×Str))(pre:List Str):∀ ts:List Str,nextP E ts pre=ts.find? fun p=>!decide (p∈pre)&&decide (∀ e∈E,e.2=p->e.1∈pre)
 | []=>rfl
 | t::ts=>by
  have ih:=ae7 E pre ts;unfold nextP at ih ⊢
  by_cases h:t∈pre
  .rw [jC (by simpa using h),X0,ih];simp [h]
  .rw [jB (by simpa using h),X0,X0,ih]
   by_cases h2:cnt E pre t=0
   .have:=cnt_zero.mp h2
    rw [decide_eq_true h2,decide_eq_true this];simp [h]
   .have:¬ ∀ e∈E,e.2=t->e.1∈pre:=fun z=>h2 (cnt_zero.mpr z)
    rw [decide_eq_false h2,decide_eq_false this];simp [h]
theorem aiF{row:List Str}{e:Str×Str}(h:e∈V6 row):e.1∈row/\e.2∈row:=by
 unfold V6 at h;exact ⟨(List.of_mem_zip h).1,List.mem_of_mem_tail (List.of_mem_zip h).2⟩
theorem agj{rows:List (List Str)}{e:Str×Str}(h:e∈edges rows):e.1∈rows.flatten/\e.2∈rows.flatten:=by
 unfold edges at h;obtain ⟨row,h1,h2⟩:=W0.mp h
 have:=aiF h2
 exact ⟨List.mem_flatten.mpr ⟨row,h1,this.1⟩,List.mem_flatten.mpr ⟨row,h1,this.2⟩⟩
noncomputable def C2 (ts:List Str) (f:Str->V):List (B3×V):=ts.map fun t=>(Sum.inr t,f t)
theorem vR(f:Str->V)(z:Str):∀ ts:List Str,((C2 ts f).any fun kv=>decide (kv.1=(Sum.inr z:B3)))=decide (z∈ts)
 | []=>by simp [C2]
 | y::ts=>by
  have ih:=vR f z ts;unfold C2 at ih ⊢
  rw [E6,y7,ih]
  by_cases e:y=z
  .subst e
   simp
  .have e1:decide ((Sum.inr y:B3)=Sum.inr z)=false:=decide_eq_false fun q=>e (Sum.inr.inj q)
   rw [e1,Bool.false_or]
   by_cases h:z∈ts
   .rw [decide_eq_true h,decide_eq_true (N9 _ h)]
   .rw [decide_eq_false h,decide_eq_false];intro q
    rcases K0.mp q with q | q
    .exact e q.symm
    .exact h q
theorem P8(f:Str->V)(z:Str):∀ ts:List Str,valV (C2 ts f) (Sum.inr z)=if z∈ts then some (f z) else none
 | []=>rfl
 | y::ts=>by
  have ih:=P8 f z ts;unfold C2 at ih ⊢
  rw [E6]
  by_cases e:y=z
  .subst e;rw [qE rfl,if_pos N3]
  .rw [bT (fun q=>e (Sum.inr.inj q)),ih]
   by_cases h:z∈ts
   .rw [if_pos h,if_pos (N9 _ h)]
   .rw [if_neg h,if_neg];intro q
    rcases K0.mp q with q | q
    .exact e q.symm
    .exact h q
theorem mX{f:Str->V}(v:V)(h:z∈ts):putK (C2 ts f) (Sum.inr z:B3) v=C2 ts fun t=>if t=z then v else f t:=by
 unfold putK;rw [vR,decide_eq_true h,if_pos rfl];unfold C2;rw [Q6];refine jE fun y _=>?_
 show (if (Sum.inr y:B3)=Sum.inr z then ((Sum.inr y:B3),v) else (Sum.inr y,f y))=((Sum.inr y:B3),if y=z then v else f y)
 by_cases e:y=z
 .rw [if_pos (by rw [e]),if_pos e]
 .rw [if_neg (fun q=>e (Sum.inr.inj q)),if_neg e]
theorem eE{f:Str->V}(v:V)(h:z∉ts):putK (C2 ts f) (Sum.inr z:B3) v=C2 (ts++[z]) fun t=>if t=z then v else f t:=by
 unfold putK;rw [vR,decide_eq_false h,if_neg L5];unfold C2;rw [C9]
 congr 1
 .refine jE fun y hy=>?_
  show _=((Sum.inr y:B3),if y=z then v else f y);rw [if_neg (fun e:y=z=>h (by rw [<- e];exact hy))]
 .simp
theorem U6{f g:Str->V}(h:∀ t∈ts,f t=g t):C2 ts f=C2 ts g:=by
 unfold C2;exact jE fun t ht=>by rw [h t ht]
theorem j0(f:Str->V)(ts:List Str):(C2 ts f).length=ts.length:=by unfold C2;rw [A6]
theorem amK{f:Str->V}{k:B3}(h:(C2 ts f)[i]?=some (k,v)):∃ t,ts[i]?=some t/\k=Sum.inr t/\v=f t:=by
 unfold C2 at h;obtain ⟨t,h1,h2⟩:=G9 h;cases h2;exact ⟨t,h1,rfl,rfl⟩
theorem alZ(f:Str->V)(ts:List Str):((C2 ts f).map fun kv=>kV kv.1)=ts.map V.str:=by
 unfold C2;rw [Q6];rfl
structure DL(H0 H:Hp)(ts:List Str)(ad:Str->Addr)(F:Str->List Str):Prop where
 row:∀ t∈ts,H (ad t)=some (.lst ((F t).map V.str))
 inj:∀ t∈ts,∀ u∈ts,ad t=ad u->t=u
 new:∀ t∈ts,H0 (ad t)=none
theorem DL.same{ad:Str->Addr}{F:Str->List Str}(x:DL H0 H ts ad F)(s:Same H H'):DL H0 H' ts ad F:=⟨fun t h=>s _ _ (x.row t h),x.inj,x.new⟩
theorem DL.app{ad:Str->Addr}{F:Str->List Str}(x:DL H0 H ts ad F)(hz:z∈ts)(ys:List Str):DL H0 (A0 H (ad z) (.lst (ys.map V.str))) ts ad fun t=>if t=z then ys else F t:=by
 refine ⟨fun t ht=>?_,x.inj,x.new⟩;show _=some (HO.lst ((if t=z then ys else F t).map V.str))
 by_cases e:t=z
 .subst e;rw [A3,if_pos rfl]
 .rw [A7 (fun q=>e (x.inj t ht z hz q)),if_neg e];exact x.row t ht
theorem DL.more{ad:Str->Addr}{F:Str->List Str}(x:DL H0 H ts ad F)(hz:z∉ts)(np:H p=none)(n0:H0 p=none):DL H0 (A0 H p (.lst [])) (ts++[z]) (fun t=>if t=z then p else ad t) fun t=>if t=z then [] else F t:=by
 have ne:∀ t∈ts,t≠z:=fun t ht e=>hz (by rw [<- e];exact ht)
 have nad:∀ t∈ts,ad t≠p:=fun t ht e=>by have:=x.row t ht;rw [e,np] at this;cases this
 have cases':∀ t,t∈ts++[z]->(t∈ts/\t≠z)\/t=z:=fun t ht=>by
  rcases G0.mp ht with h | h
  .exact .inl ⟨h,ne t h⟩
  .exact .inr (E4.mp h)
 refine ⟨fun t ht=>?_,fun t ht u hu e=>?_,fun t ht=>?_⟩
 .show A0 H p (.lst []) (if t=z then p else ad t)=some (.lst ((if t=z then [] else F t).map V.str))
  rcases cases' t ht with ⟨h1,h2⟩ | rfl
  .rw [if_neg h2,if_neg h2,A7 (nad t h1)];exact x.row t h1
  .rw [if_pos rfl,if_pos rfl,A3];rfl
 .have e:(if t=z then p else ad t)=(if u=z then p else ad u):=e
  rcases cases' t ht with ⟨h1,h2⟩ | rfl <;> rcases cases' u hu with ⟨h3,h4⟩ | rfl
  .rw [if_neg h2,if_neg h4] at e;exact x.inj t h1 u h3 e
  .rw [if_neg h2,if_pos rfl] at e;exact absurd e (nad t h1)
  .rw [if_pos rfl,if_neg h4] at e;exact absurd e.symm (nad u h3)
  .rfl
 .show H0 (if t=z then p else ad t)=none
  rcases cases' t ht with ⟨h1,h2⟩ | rfl
  .rw [if_neg h2];exact x.new t h1
  .rw [if_pos rfl];exact n0
theorem al0(h:acc.Nodup)(z:Str):(dd acc z).Nodup:=by
 unfold dd
 split
 .exact h
 .rename_i hz
  rw [Y2];refine ⟨h,by simp,fun a ha b hb e=>hz ?_⟩;rw [<- E4.mp hb,<- e];exact ha
theorem vS:∀ {zs acc:List Str},acc.Nodup->(G7 acc zs).Nodup
 | [],_,h=>h
 | z::zs,acc,h=>vS (zs:=zs) (al0 h z)
theorem kE(zss:List (List Str)):(toldL zss).Nodup:=by
 unfold toldL;rw [qN];exact vS (by simp)
theorem aG(x:Str):∀ (zs acc:List Str),x∈G7 acc zs↔x∈acc\/x∈zs
 | [],acc=>by simp [G7]
 | z::zs,acc=>by
  show x∈G7 (dd acc z) zs↔_;rw [aG x zs];unfold dd
  by_cases h:z∈acc
  .rw [if_pos h,K0]
   constructor
   .rintro (h1 | h1)
    .exact .inl h1
    .exact .inr (.inr h1)
   .rintro (h1 | rfl | h1)
    .exact .inl h1
    .exact .inl h
    .exact .inr h1
  .rw [if_neg h,G0,E4,K0,or_assoc]
theorem vT(x:Str)(zss:List (List Str)):x∈toldL zss↔x∈zss.flatten:=by
 unfold toldL;rw [qN,aG]
 simp
theorem aiG{zss:List (List Str)}{e:Str×Str}(h:e∈edges zss):e.1∈toldL zss/\e.2∈toldL zss:=⟨(vT _ _).mpr (agj h).1,(vT _ _).mpr (agj h).2⟩
theorem aiH{zss:List (List Str)}(h:zss[i]?=some zs):edges (zss.take (i+1))=edges (zss.take i)++V6 zs:=by
 rw [q0,h];unfold edges;rw [Z1]
 simp
theorem vU(zs:List Str):(V6 zs).length=min zs.length zs.tail.length:=by unfold V6;rw [List.length_zip]
theorem agk{x:Str}(h1:zs[j]?=some x)(h2:zs.tail[j]?=some y):(V6 zs)[j]?=some (x,y):=by
 unfold V6;rw [List.getElem?_zip_eq_some];exact ⟨h1,h2⟩
theorem agl(zss:List (List Str)):(edges zss).length<=zss.flatten.length:=by
 induction zss with
 | nil=>exact C3 _
 | cons zs zss ih=>
  unfold edges at ih ⊢
  rw [m3,D7,jH,D7,vU];lia
theorem DL.put{ad:Str->Addr}{F:Str->List Str}(x:DL H0 H ts ad F){o u:HO}(hb:H0 b=some u):DL H0 (A0 H b o) ts ad F:=
 ⟨fun t ht=>by rw [A7 (fun e=>by have:=x.new t ht;rw [e,hb] at this;cases this)];exact x.row t ht,x.inj,x.new⟩
theorem DL.congr{ad:Str->Addr}{F G:Str->List Str}(x:DL H0 H ts ad F)(h:∀ t∈ts,F t=G t):DL H0 H ts ad G:=⟨fun t ht=>by rw [<- h t ht];exact x.row t ht,x.inj,x.new⟩
theorem DL.old{H00:Hp}{ad:Str->Addr}{F:Str->List Str}(x:DL H0 H ts ad F)(s:Same H00 H0):DL H00 H ts ad F:=⟨x.row,x.inj,fun t ht=>s.free (x.new t ht)⟩
theorem vV(nd:ts.Nodup)(h:ts[i]?=some z):z∉ts.take i:=fun hm=>by
 obtain ⟨hi,e⟩:=E9.mp h;obtain ⟨j,hj,e2⟩:=g6.mp hm;rw [L4] at hj;rw [List.getElem_take] at e2
 have:=(dC.mp nd)
 rw [fP] at this;exact this j i (by lia) hi (by lia) (e2.trans e.symm)
theorem M0{α:Type}{ts:List α}{z:α}(h:ts[i]?=some z):ts.take (i+1)=ts.take i++[z]:=by rw [q0,h];rfl
noncomputable def SameBut (d:Addr) (H H':Hp):Prop:=∀ b o,b≠d->H b=some o->H' b=some o
theorem SameBut.put{d q:Addr}{u:HO}(s:SameBut d H0 H)(n:H0 q=none):SameBut d H0 (A0 H q u):=fun b o hb h=>by rw [A7 (r8 h n)];exact s b o hb h
theorem SameBut.thaw{d:Addr}{u:HO}(s:SameBut d H0 H)(h:H0 d=some u):Same H0 (A0 H d u):=fun b o hb=>by
 by_cases e:b=d
 .subst e;rw [A3,<- hb,h]
 .rw [A7 e];exact s b o e hb
theorem RowsAt.grow{q:Addr}{zss:List (List Str)}(R:RowsAt H0 H a rs zss)(S:Same H H')(hq:H q=none)(iB:H' q=some (.lst (zs.map V.str))):RowsAt H0 (A0 H' a (.lst (rs.map V.ref++[V.ref q]))) a (rs++[q]) (zss++[zs]):=by
 have nq:∀ r∈a::rs,r≠q:=fun r hr z=>by
  obtain ⟨o,e⟩:=R.live hr;rw [z,hq] at e;cases e
 obtain ⟨na,_⟩:=V1.mp R.nd;refine ⟨⟨by rw [A3,C9];rfl,?_⟩,?_,?_,?_⟩
 .refine Paired.snoc (qO R.rows.row fun r hr zs h=>?_) ?_
  .rw [A7 (fun z:r=a=>na (by rw [<- z];exact hr))];exact S _ _ h
  .rw [A7 (nq a N3).symm];exact iB
 .show (a::(rs++[q])).Nodup;exact uU R.nd fun h=>nq q h rfl
 .intro r hr
  rcases K0.mp hr with h | h
  .exact R.new r (by rw [h];exact N3)
  .rcases G0.mp h with h | h
   .exact R.new r (N9 _ h)
   .rw [E4.mp h];exact R.same.free hq
 .exact (R.same.trans S).put (R.new a N3)
noncomputable def spFol:Sp:=fun vs H Q _=>∃ (a:Addr) (rs:List Addr) (zss:List (List Str)),vs=[.ref a]/\IsRows H a rs zss/\zss.flatten.length<=100000/\
 ∀ (d:Addr) (ad:Str->Addr) (H':Hp),H d=none->Same H H'->H' d=some (.dK (C2 (toldL zss) fun t=>.ref (ad t)))->DL H H' (toldL zss) ad (F6 (edges zss))->Q (.ref d) H'
noncomputable def aj3:Sp:=fun vs H Q _=>∃ (d:Addr) (ts:List Str) (ad:Str->Addr) (E:List (Str×Str)),vs=[.ref d]/\H d=some (.dK (C2 ts fun t=>.ref (ad t)))/\ts.Nodup/\ts.length<=100000/\E.length<=100000/\
 (∀ t∈ts,H (ad t)=some (.lst ((F6 E t).map V.str)))/\(∀ e∈E,e.1∈ts/\e.2∈ts)/\∀ c H',H c=none->Same H H'->H' c=some (.dK (C2 ts fun t=>.int (cnt E [] t:Nat)))->Q (.ref c) H'
theorem agm:∀ {l m:List Str},l.Nodup->(∀ x∈l,x∈m)->l.length<=m.length
 | [],_,_,_=>F7 _
 | x::l,m,nd,h=>by
  obtain ⟨n1,n2⟩:=V1.mp nd;have hx:=h x N3
  have:=agm (l:=l) (m:=m.erase x) n2 fun y hy=>(List.mem_erase_of_ne (fun e=>n1 (by rw [<- e];exact hy))).mpr (h y (N9 _ hy))
  rw [pS hx] at this;have cP:=pT hx;rw [J9];lia
noncomputable def aj4:Sp:=fun vs H Q _=>∃ (a:Addr) (rs:List Addr) (zss:List (List Str)) (rank:Str->Nat),vs=[.ref a]/\IsRows H a rs zss/\zss.flatten.length<=100000/\(∀ e∈edges zss,rank e.1<rank e.2)/\
 ∀ (l:Addr) (line:List Str) (H':Hp),H l=none->Same H H'->H' l=some (.lst (line.map V.str))->U5 (edges zss) (toldL zss) line->(∀ p∈toldL zss,p∈line)->Q (.ref l) H'
theorem SameBut.free{d:Addr}(s:SameBut d H0 H)(n:H p=none)(h:p≠d):H0 p=none:=by
 cases e:H0 p with
 | none=>rfl
 | some o=>
  have:=s p o h e
  rw [n] at this;cases this
theorem SameBut.same{d:Addr}(s:SameBut d H1 H2)(S:Same H H1)(n:H d=none):Same H H2:=fun b o h=>s b o (r8 h n) (S b o h)
theorem uad(d:Addr)(H:Hp):SameBut d H H:=fun _ _ _ h=>h
theorem SameBut.at{d:Addr}{o:HO}(s:SameBut d H H'):SameBut d H (A0 H' d o):=fun b u hb h=>by rw [A7 hb];exact s b u hb h
noncomputable def one (c:Nat):Str:=⟨#[c]⟩
noncomputable def two (c d:Nat):Str:=⟨#[c,d]⟩
theorem SG_nd:SG.Nodup:=by decide +kernel
end L2
set_option maxRecDepth 100000
namespace L2
open PySem PySem.Spec PyProof.Rows
section
variable {X:Cx}
noncomputable def rAnyB (calm:Bool):List V->Hp->VK->Prop
 | [.ref p],H,Q=>∃ bs:List Bool,calm=true/\H p=some (.lst (bs.map V.bl))/\Q (.bl (bs.any id)) H
 | _,_,_=>False
theorem p_any:CallR X (.builtin "any") (rAnyB X.calm):=by
 intro pins s Y H xs us Q I r h
 match xs,h with
 | [.ref p],⟨bs,hc,hp,q⟩=>
  obtain ⟨u,rfl,rx⟩:=vals1 r
  cases rx
  obtain ⟨z,its,n,rv,hl,e⟩:=I.lstM hp;have pl:s.heap.IsList p its.toArray:=⟨_,e,rfl,n,rfl⟩
  refine call_any_walk (wpAny_pyIter_list pl ?_);have G8:p≠s.heap.objs.size:=L8 (Heap.lt_size e);have hk:∀ b o,s.heap.get? b=some o->(s.heap.push { cls:=.type "list_iterator",data:=.fields #[.ref p,.int 0 0] }).get? b=some o:=fun b o q=>Heap.get?_push_of_some _ q
  refine ⟨_,_,_,_,_,_,fun i=>(bs[i]?).getD false,rfl,Walks.list (show X.A.in1.handled=none from I.ok.hd hc) s.heap.objs.size p G8 its.toArray,⟨⟨_,Heap.get?_push_size _ rfl,rfl,rfl⟩,pl.at fun o q=>hk p o q⟩,?_,?_⟩
  .intro i v s' Q' E' hv hq;have sO:its[i]?=some v:=by simpa using hv
   have hb:∃ b,bs[i]?=some b/\v=.bool b:=by
    cases eb:(bs.map V.bl)[i]? with
    | none=>
     have:=rv.none_of eb
     rw [sO] at this
     cases this
    | some y=>
     obtain ⟨u,h1,h2⟩:=rv.get eb;rw [sO] at h1;cases h1;rw [T8] at eb;cases e3:bs[i]? with
     | none=>rw [e3] at eb;cases eb
     | some b=>
      rw [e3] at eb;cases eb;exact ⟨b,rfl,h2⟩
   obtain ⟨b,e1,rfl⟩:=hb;have hq:Q' ((bs[i]?).getD false) s':=hq;rw [e1] at hq;exact wpAny_truthy_bool hq
  .intro h' tk pC;have e1:(U1 its.toArray.size).any (fun i=>(bs[i]?).getD false)=bs.any id:=by
    have A8:its.toArray.size=bs.length:=by
     rw [J8,<- hl,A6]
    rw [A8,jL,List.any_eq_true,List.any_eq_true]
    constructor
    .rintro ⟨i,hi,hb⟩;rw [g7] at hi;rw [J7 hi,Option.getD_some] at hb;exact ⟨bs[i],jJ hi,hb⟩
    .rintro ⟨b,hb,ht⟩;obtain ⟨i,hi,rfl⟩:=g6.mp hb;exact ⟨i,g7.mpr hi,by rw [J7 hi];exact ht⟩
   rw [e1];have I1:Inv X pins Y H { s with heap:=h',toks:=tk }:=I.kept fun b o q=>pC b o (by
    intro hm
    have:b=s.heap.objs.size:=by simpa using hm
    rw [this] at q;exact absurd (Heap.lt_size q) (Z4 _)) (hk b o q)
   exact ⟨.bl _,H,I1,rfl,q⟩
theorem q_any(oU:X.calm=calm:=by rfl):QCall X (.builtin "any") (rAnyB calm):=by subst oU;exact ⟨p_any⟩
theorem any_r{cm:Bool} : rAnyB cm [.ref p] H Q=∃ bs:List Bool,cm=true/\H p=some (.lst (bs.map V.bl))/\Q (.bl (bs.any id)) H:=rfl
end
noncomputable def mY (l : Addr) : It :=
  ⟨fun i H => ∃ xs x, H l = some (.lst xs) /\ xs[i]? = some x,
   fun i H v H' => ∃ t xs x, H l = some (.lst xs) /\ xs[i]? = some x /\ H t = none /\ v = .ref t /\ H' = A0 H t (.tup [.int i, x]),
   fun i H => ∃ xs, H l = some (.lst xs) /\ xs.length <= i⟩
theorem aj5{P:Program}{w:World}{pos:Pos}(e it l:Addr)(G8:e≠it) :
  Turn P w K (.Tuple elts x1 pos) (mY l) [e,it] e (fun i h=>(∃ old,IsEnum h e it ((i:Nat):Int) old)/\h.IsListIter it l i) where
 mem:=by simp
 obj:=fun i h ⟨⟨old,he⟩,hi⟩ c hc=>by
  have q:c=e\/c=it:=by simpa using hc
  rcases q with rfl | rfl
  .exact ⟨_,he,fun v q=>by cases q⟩
  .obtain ⟨o,e,c,d⟩:=hi;exact ⟨o,e,fun v z=>by rw [d] at z;cases z⟩
 keep:=fun i h h' ⟨⟨old,he⟩,hi⟩ k=>⟨⟨old,k e (by simp) _ he⟩,hi.at fun o q=>k it (by simp) o q⟩
 item:=by
  intro X hP hw hK hc i pins s Y H E I hf ⟨⟨old,he⟩,hi⟩ hg;subst hP hw hK;obtain ⟨xs,x,e1,hx⟩:=hg;obtain ⟨its1,W5,p1,_⟩:=I.list (D0.of (K:=X.K) e1);obtain ⟨u1,B5,r1⟩:=W5.get hx;refine wpAny_pyNext_enum_item he hi p1.isList (x:=u1) (by simpa using B5) G8 fun h' b1 b2 b3 b4 b5=>⟨_,rfl,wpAny_letOwnedTupleGo_enum b1 fun h2' c1 c2=>?_⟩
  have k8:e<s.heap.objs.size:=Heap.lt_size he;have up:∀ c o,c≠e->h'.get? c=some o->h2'.get? c=some o:=fun c o hc q=>(c2.2 c hc).trans q
  have hT:=up _ _ (Nat.ne_of_gt k8) b3;have nT:∀ c∈[e,it],c≠s.heap.objs.size:=fun c hc=>by
   have q:c=e\/c=it:=by simpa using hc
   refine L8 ?_
   rcases q with rfl | rfl
   .exact k8
   .obtain ⟨o,q,_⟩:=hi;exact Heap.lt_size q
  refine ⟨.ref s.heap.objs.size,A0 H s.heap.objs.size (.tup [.int i,x]),I.turnNew (t':=s.toks+1) (ch:=[e,it]) hf (fun c u hc q=>?_) (C3 _) ⟨by show 2<=sizeLine;decide,[.int i s.toks,u1],.cons ⟨_,rfl⟩ (.cons r1 .nil),?_⟩,rfl,⟨_,xs,x,e1,hx,I.fresh,rfl,rfl⟩,
   ⟨⟨_,c1⟩,b2.at fun o q=>up _ o G8.symm q⟩,fun c hc=>by rw [A7 (nT c hc)];exact (hf c hc).1⟩
  .have q1:c≠e/\c≠it:=⟨fun q=>hc (by simp [q]),fun q=>hc (by simp [q])⟩
   exact up c u q1.1 (b5 c u q1.1 q1.2 q)
  .exact ⟨_,hT,rfl,_,rfl⟩
 done:=by
  intro X hP hw hK hc i pins s Y H E I hf ⟨⟨old,he⟩,hi⟩ hg;subst hP hw hK;obtain ⟨xs,e1,iJ⟩:=hg;obtain ⟨its1,W5,p1,_⟩:=I.list (D0.of (K:=X.K) e1);have q1:=W5.length;obtain ⟨f0,f1,f2,f3,f4,f5⟩:=hf it (by simp);exact wpAny_pyNext_enum_end (I.ok.hd hc) he hi p1.isList (by simp;lia) fun h' eb=>⟨rfl,I.turned (t':=s.toks) (fun b o hb q=>eb b o hb q) f0 f1 f3 f4 f5⟩
 self:=fun _ _ _ _ _ st h=>by
  obtain ⟨⟨old,he⟩,_⟩:=st;exact wpAny_pyIter_enum he h
section
variable {X:Cx}
noncomputable def iEnum (ta:TA):TI:=fun Y H R=>ta Y H fun vs H1=>∃ (l:Addr) (xs:List V),vs=[.ref l]/\H1 l=some (.lst xs)/\R (mY l) H1
theorem aom{a:Expr}{p pos:Pos}(hg:Gl X "enumerate")(hm:X.mg "enumerate"=none)(ha:PA X [a] ta)(h1:L0 a=false:=by rfl) :
  PI X (.Tuple elts x1 tpos) (.Call (.Name "enumerate" p) [a] [] pos) (iEnum ta):=by
 intro pins s Y H R I h;refine Call_ (z8 I hg hm boot_enumerate (PyProof.Rows.callWith_type1 (A9 (ha pos pins s Y H _ I h) fun us s1 ⟨vs,H1,I1,r1,q1⟩=>?_) (N6 h1) rfl));obtain ⟨l,xs,rfl,e1,q⟩:=q1;obtain ⟨u1,rfl,iK⟩:=vals1 r1
 cases iK
 obtain ⟨its1,W5,p1,_⟩:=I1.list (D0.of (K:=X.K) e1);refine call_enumerate_list p1.isList fun h' z1 z2 z3 z4=>wpAny_pyIter_enum z1 ?_
 refine ⟨s1.heap.objs.size+1,[s1.heap.objs.size+1,s1.heap.objs.size],_,_,H1,rfl,I1.kept (t':=s1.toks) z4,aj5 _ s1.heap.objs.size l (m8 (by lia)),⟨⟨_,z1⟩,z2⟩,fun b hb=>?_,q⟩;have Y8:s1.heap.objs.size<=b:=by
  have e:b=s1.heap.objs.size+1\/b=s1.heap.objs.size:=by simpa using hb
  rcases e with rfl | rfl
  .exact dM _ _
  .exact C3 _
 exact I1.fpOk Y8 (I1.hok.fresh Y8)
theorem vW{a:Expr}{p pos:Pos}(hm:X.mg "enumerate"=none)(ha:QA X [a] ta)(hg:Gl X "enumerate":=by rfl)(h1:L0 a=false:=by rfl) :
  QI X (.Tuple elts x1 tpos) (.Call (.Name "enumerate" p) [a] [] pos) (iEnum ta):=⟨aom hg hm ha.out h1⟩
end
theorem al1{R:It->Hp->Prop} : iEnum ta Y H R=ta Y H fun vs H1=>∃ (l:Addr) (xs:List V),vs=[.ref l]/\H1 l=some (.lst xs)/\R (mY l) H1:=rfl
theorem forE{l:Addr}(Pv:Nat->St->Hp->Prop)(h0:Pv 0 Y H)(hl:∀ i Y H,Pv i Y H->H l=some (.lst xs))(hs:∀ i x t Y H,xs[i]?=some x->Pv i Y H->H t=none->g (.ref t) Y (A0 H t (.tup [.int i,x])) fun σ2 H2=>tb { D with nx:=Pv (i+1),ct:=Pv (i+1),bk:=D.nx } σ2 H2)(hd:∀ Y H,Pv xs.length Y H->D.nx Y H):ForIt (mY l) g tb D Y H:=by
 refine ⟨fun i m Y H=>m=xs.length-i/\i<=xs.length/\Pv i Y H,⟨xs.length,by simp,F7 _,h0⟩,?_⟩;rintro i m Y H ⟨rfl,hi,p⟩;have e1:=hl i Y H p
 by_cases C4:i<xs.length
 .refine .inr ⟨⟨xs,xs[i],e1,by simp⟩,Pv (i+1),fun σ' H' p'=>⟨_,by lia,rfl,C4,p'⟩,fun v H' y=>?_⟩;obtain ⟨t,xs',x,f1,hx,ht,rfl,rfl⟩:=y;rw [e1] at f1;cases f1;exact hs i x t Y H hx p ht
 .have e:i=xs.length:=by lia
  subst e;exact .inl ⟨⟨xs,e1,by lia⟩,hd Y H p⟩
noncomputable def MO (P:Program) (w:World) (K:PySem.W.Frag) (mg:Str->Option Value) (base:Heap) (k:Nat) (C:Addr) (m:Str) (ps:List Str) (sp:Sp):Prop:=
 ∃ f fd,FnOk P w K mg base D9 k f fd ps sp/\Cls K C/\Meth K C m f/\Binds K fd ps []
noncomputable def KO (P:Program) (w:World) (K:PySem.W.Frag) (mg:Str->Option Value) (base:Heap) (k:Nat) (C:Addr) (x:Str) (ps:List Str) (sp:Sp):Prop:=
 ∃ f fd,FnOk P w K mg base D9 k f fd ps sp/\Mk K C f/\mg x=some (.ref C)/\Binds K fd ps []
section
variable {X:Cx} {k:Nat} {C:Addr} {ps:List Str} {sp:Sp} {x m:Str} {p pos apos:Pos} {e o:Expr} {es:List Expr} {ta:TE} {t:TA}
theorem aon(G:KO X.prog X.w X.K X.mg X.base k C x ps sp)(hr:Room (k+1) X.A)(ha:QA X (e::es) t)(hg:Gl X x:=by rfl)(h1:L0 e=false:=by rfl)(h2:X5 es=true:=by rfl)(R7:(x==("__debug__" : Str))=false:=by decide) :
  QE X (.Call (.Name x p) (e::es) [] pos) (tMake C sp [] E0 t):=by
 obtain ⟨f,fd,F,M,hm,hb⟩:=G;exact ⟨anu M F hr hg hm hb .nil pass0 ha.out R7 (N6 h1) (gE h2)⟩
theorem qV(ho:QE X o ta)(G:MO X.prog X.w X.K X.mg X.base k C m ps sp)(hr:Room k X.A)(ha:QA X (e::es) t)(h1:L0 e=false:=by rfl)(h2:X5 es=true:=by rfl){pl:Sem Bool}(ht:eval (.Call (.Attribute o m apos) (e::es) [] pos) X.env=(do
   let ov <- eval o X.env
   standAt apos.atName
   let (f,first) <- holding [ov] (getMethod ov m pl)
   callWith pos f first (backTo pos (starEach (e::es) X.env)) (backToKw pos (keywordEach [] X.env))):=by rfl) :
  QE X (.Call (.Attribute o m apos) (e::es) [] pos) (tMeth C m sp [] E0 ta t):=by
 obtain ⟨f,fd,F,c,hm,hb⟩:=G;exact ⟨ant ho.out c hm F hr hb .nil pass0 ha.out (N6 h1) (gE h2) ht⟩
theorem al2(ho:QE X o ta)(G:MO X.prog X.w X.K X.mg X.base k C m ps sp)(hr:Room k X.A){pl:Sem Bool}(ht:eval (.Call (.Attribute o m apos) [] [] pos) X.env=(do
   let ov <- eval o X.env
   standAt apos.atName
   let (f,first) <- holding [ov] (getMethod ov m pl)
   callWith pos f first (backTo pos (starEach [] X.env)) (backToKw pos (keywordEach [] X.env))):=by rfl) :
  QE X (.Call (.Attribute o m apos) [] [] pos) (tMeth C m sp [] E0 ta tNil):=by
 obtain ⟨f,fd,F,c,hm,hb⟩:=G;exact ⟨ale ho.out c hm F hr hb .nil pass0 ht⟩
end
section
variable {C:Addr} {m f:Str} {sp:Sp} {K:PySem.W.Frag} {ta tv:TE} {t:TA} {Y:St} {H:Hp} {Q:VK} {D:Ends}
theorem aoo:tMake C sp [] E0 t Y H Q=t Y H fun vs H1=>∀ x dx,H1 x=none->H1 dx=none->dx≠x->sp (.ref x::(vs++[])) (A0 (A0 H1 dx (.own x)) x (.ins C dx [])) (fun v H2=>v=.non/\Q (.ref x) H2) E0:=rfl
theorem aop:tMeth C m sp [] E0 ta t Y H Q=ta Y H fun x H1=>∃ a dx fs,x=.ref a/\H1 a=some (.ins C dx fs)/\fs.lookup m=none/\t Y H1 fun vs H2=>sp (x::(vs++[])) H2 Q E0:=rfl
theorem aq7:tFld K ta f Y H Q=ta Y H fun x H1=>∃ a C dx fs v,x=.ref a/\H1 a=some (.ins C dx fs)/\Cls K C/\NoAttr K C f/\fs.lookup f=some v/\Q v H1:=rfl
theorem aoq:sFld K ta tv f D Y H=tv Y H fun y H1=>ta Y H1 fun x H2=>∃ a C dx fs,x=.ref a/\H2 a=some (.ins C dx fs)/\Cls K C/\NoAttr K C f/\fs.length<1000/\D.nx Y (A0 H2 a (.ins C dx (putF f y fs))):=rfl
end
section
variable {X:Cx} {o e:Expr} {apos cpos:Pos} {td ty:TE}
theorem qW(hu:X.A.units+1<cLine)(ho:QE X o td)(he:QE X e ty)(h1:L0 e=false:=by rfl)(F8:attributeBase o "get" X.env (eval o X.env)=eval o X.env:=by rfl)(F9:(apos.endLine==cpos.line)=true:=by rfl):QE X (.Call (.Attribute o "get" apos) [e] [] cpos) (uS td ty):=
 ⟨alq hu ho.out he.out ⟨F8,by rw [N6 h1];rfl,F9,by rw [N6 h1];rfl⟩⟩
theorem al3 : uS td ty Y H Q=td Y H fun x H1=>∃ a,x=.ref a/\gC H1 a/\ty Y H1 fun y H2=>∃ o,DGet H2 a y o/\Q (o.getD .non) H2:=rfl
end
end L2
set_option maxRecDepth 100000
namespace L2
open PySem PySem.Spec PyProof.Rows
noncomputable abbrev Rl:=Str×List Str
noncomputable def tupR (z:Rl):HO:=.tup ((z.1::z.2).map V.str)
structure IsRules(H:Hp)(a:Addr)(rs:List Addr)(R:List Rl):Prop where
 top:H a=some (.lst (rs.map V.ref))
 row:Paired (fun r z=>H r=some (tupR z)) rs R
theorem IsRules.same{R:List Rl}(h:IsRules H a rs R)(s:Same H H'):IsRules H' a rs R:=⟨s _ _ h.top,N5 h.row fun _ _ e=>s _ _ e⟩
theorem IsRules.len{R:List Rl}(h:IsRules H a rs R):rs.length=R.length:=Paired.length h.row
noncomputable def O7 (z:Rl):List Str:=if z.1=("great" : Str) then z.2.drop 1 else if z.1=("as" : Str) then z.2.take 1 else if z.1=("row" : Str)\/z.1=("marks" : Str)\/z.1=("over" : Str) then z.2 else []
noncomputable def jobD (w:Str):Str:=if w=("row" : Str) then "letter" else if w=("marks" : Str) then "mark" else w
noncomputable def C5 (R:List Rl):List (Str×Str):=R.flatMap fun z=>(O7 z).map fun p=>(p,jobD z.1)
noncomputable def hasW (R:List Rl) (w:Str):Bool:=R.any fun z=>decide (z.1=w)
noncomputable def figO (c:Nat):Bool:=decide (48<=c)&&decide (c<=57)
noncomputable def mZ:List Str:=["letter", "mark", "over"]
noncomputable def NC (figs:Bool) (g:Str->Str) (PL:List (Str×Str)):Prop:=∀ i p j,PL[i]?=some (p,j)->j=g p/\(p∈(PL.take i).map (·.1)->j∈mZ)/\(figs=true->∀ c∈p.cps.toList,figO c=false)/\p.length<=1000
noncomputable def keysP (PL:List (Str×Str)):List Str:=G7 [] (PL.map (·.1))
theorem ae8{R:List Rl}{z:Rl}(h:R[i]?=some z):C5 (R.take (i+1))=C5 (R.take i)++(O7 z).map fun p=>(p,jobD z.1):=by
 rw [q0,h];unfold C5;rw [Z1]
 simp
theorem ago(R:List Rl)(i:Nat):∃ more,C5 R=C5 (R.take i)++more:=⟨C5 (R.drop i),by
 unfold C5;rw [<- Z1,p9]⟩
theorem aiI(PL:List (Str×Str))(p j:Str):keysP (PL++[(p,j)])=dd (keysP PL) p:=by
 unfold keysP G7;rw [C9,y3];rfl
theorem qX(x:Str)(PL:List (Str×Str)):x∈keysP PL↔x∈PL.map (·.1):=by
 unfold keysP;rw [aG]
 simp
theorem vX(PL:List (Str×Str)):(keysP PL).length<=PL.length:=by
 have:=mR (PL.map (·.1)) []
 rw [A6] at this
 simpa [keysP] using this
noncomputable def rowsW (R:List Rl) (w:Str):List (List Str):=(R.filter fun z=>decide (z.1=w)).map (·.2)
theorem ae9{R:List Rl}{z:Rl}{w:Str}(h:R[i]?=some z):rowsW (R.take (i+1)) w=if z.1=w then rowsW (R.take i) w++[z.2] else rowsW (R.take i) w:=by
 rw [q0,h];unfold rowsW;rw [bJ,C9]
 by_cases e:z.1=w
 .rw [if_pos e,Option.toList_some,jB (by simpa using e)];rfl
 .rw [if_neg e,Option.toList_some,jC (by simpa using e)];simp
theorem aH{hi:Option Int}(hk:1<=k)(hn:1<=n):¬ (HT.sIx n 0 (some (k:Int))=0/\HT.sIx n n hi=n):=fun h=>by
 have:=h.1
 rw [HT.sIx_nat] at this;lia
noncomputable abbrev jobsL:List (B3×V):=[((Sum.inr ("row" : Str):B3),V.str "letter"),(Sum.inr ("marks" : Str),V.str "mark"),(Sum.inr ("great" : Str),V.str "great"),(Sum.inr ("as" : Str),V.str "as"),(Sum.inr ("over" : Str),V.str "over")]
noncomputable def gK (w:Str):Prop:=w=("row" : Str)\/w=("marks" : Str)\/w=("great" : Str)\/w=("as" : Str)\/w=("over" : Str)
theorem vY{w:Str}(h:gK w):valV jobsL (Sum.inr w)=some (.str (jobD w)):=by
 rcases h with rfl | rfl | rfl | rfl | rfl <;> decide +kernel
theorem al4{w:Str}(h:¬ gK w):valV jobsL (Sum.inr w)=none:=by
 unfold gK at h;have n:∀ u:Str,w≠u->¬ ((Sum.inr u:B3)=Sum.inr w):=fun u hu e=>hu (Sum.inr.inj e).symm
 rw [bT (n _ (fun e=>h (.inl e))),bT (n _ (fun e=>h (.inr (.inl e)))),bT (n _ (fun e=>h (.inr (.inr (.inl e))))),bT (n _ (fun e=>h (.inr (.inr (.inr (.inl e)))))),bT (n _ (fun e=>h (.inr (.inr (.inr (.inr e))))))];rfl
theorem nA{z:Rl}{p:Str}(h:p∈O7 z):gK z.1:=by
 unfold O7 at h;unfold gK
 split at h
 .rename_i e;exact .inr (.inr (.inl e))
 .split at h
  .rename_i e;exact .inr (.inr (.inr (.inl e)))
  .split at h
   .rename_i e
    rcases e with e | e | e
    .exact .inl e
    .exact .inr (.inl e)
    .exact .inr (.inr (.inr (.inr e)))
   .cases h
theorem aq8{R:List Rl}{z:Rl}{p:Str}(hz:R[i]?=some z)(hp:(O7 z)[j]?=some p) :
  (C5 R)[(C5 (R.take i)).length+j]?=some (p,jobD z.1)/\(C5 R).take ((C5 (R.take i)).length+j)=C5 (R.take i)++((O7 z).take j).map fun p=>(p,jobD z.1):=by
 obtain ⟨more,e⟩:=ago R (i+1);rw [ae8 hz,V9] at e;have hj:j<(O7 z).length:=(E9.mp hp).1;rw [e]
 constructor
 .rw [fO (dM _ _),Nat.add_sub_cancel_left,dD (by rw [A6];exact hj),T8,hp];rfl
 .rw [List.take_append,o9 (dM _ _),Nat.add_sub_cancel_left,List.take_append_of_le_length (by rw [A6];lia),dJ]
theorem aq9{c d:Nat} : (([c]:List Nat)<[d])↔c<d:=by
 constructor
 .intro h;cases h with
  | rel h=>exact h
  | cons h=>cases h
 .intro h;exact List.Lex.rel h
theorem B1.same(e:Same H H')(h:B1 K H a xs):B1 K H' a xs:=by
 rcases h with (h | ⟨o,h⟩) | h
 .exact .inl (.inl (e _ _ h))
 .exact .inl (.inr ⟨o,e _ _ h⟩)
 .exact .inr h
theorem B1.dput{d:Addr}{o:HO}(hd:H d=some (.dK kvs))(h:B1 K H a xs):B1 K (A0 H d o) a xs:=by
 rcases h with (h | ⟨o,h⟩) | h
 .exact .inl (.inl (by rw [A7 (fun e=>by rw [e,hd] at h;cases h)];exact h))
 .exact .inl (.inr ⟨o,by rw [A7 (fun e=>by rw [e,hd] at h;cases h)];exact h⟩)
 .exact .inr h
noncomputable def spHas (K:PySem.W.Frag):Sp:=fun vs H Q _=>∃ (a:Addr) (ts:List Addr) (R:List Rl) (w:Str),vs=[.ref a,.str w]/\IsRules H a ts R/\R.length<=1000/\∀ H',Same H H'->Q (.bl (hasW R w)) H'
noncomputable def aj6 (K:PySem.W.Frag):Sp:=fun vs H Q _=>∃ (t:Addr) (z:Rl),vs=[.ref t]/\H t=some (tupR z)/\∀ p H',Same H H'->B1 K H' p ((O7 z).map V.str)->Q (.ref p) H'
noncomputable def aj7:Sp:=fun vs H Q _=>∃ (d:Addr) (p j:Str) (fg:Bool) (ks:List Str) (g:Str->Str),vs=[.ref d,.str p,.str j,.bl fg]/\H d=some (.dK (C2 ks fun t=>.str (g t)))/\p.length<=1000/\(p∈ks->g p=j/\j∈mZ)/\(fg=true->∀ c∈p.cps.toList,figO c=false)/\
 ∀ H',Same H H'->Q (.bl false) H'
noncomputable def V7 (R:List Rl):List Str:=if hasW R "blanks"=true then [" "] else []
noncomputable def jobG (g:Str->Str):Str->V:=fun t=>if t=(" " : Str) then .str "over" else .str (g t)
noncomputable def amL (K:PySem.W.Frag):Sp:=fun vs H Q _=>∃ (a:Addr) (ts:List Addr) (R:List Rl) (g:Str->Str),vs=[.ref a]/\IsRules H a ts R/\R.length<=1000/\(C5 R).length<=10000/\NC (hasW R "figures") g (C5 R)/\(" " : Str)∉(C5 R).map (·.1)/\
 ∀ d H',H d=none->Same H H'->H' d=some (.dK (C2 (keysP (C5 R)++V7 R) (jobG g)))->Q (.ref d) H'
noncomputable def ordF (f b:Bool) (j ll ml md:Addr):List (Str×V):=putF "made" (.ref md) (putF "mark_line" (.ref ml) (putF "letter_line" (.ref ll) (putF "jobs" (.ref j) (putF "behind" (.bl b) (putF "figures" (.bl f) [])))))
theorem ad5(f b:Bool)(j ll ml md:Addr):(ordF f b j ll ml md).lookup ("figures" : Str)=some (V.bl f):=by
 unfold ordF;rw [O3,if_neg (by decide +kernel),O3,if_neg (by decide +kernel),O3,if_neg (by decide +kernel),O3,if_neg (by decide +kernel),O3,if_neg (by decide +kernel),O3,if_pos rfl]
theorem aew(f b:Bool)(j ll ml md:Addr):(ordF f b j ll ml md).lookup ("behind" : Str)=some (V.bl b):=by
 unfold ordF;rw [O3,if_neg (by decide +kernel),O3,if_neg (by decide +kernel),O3,if_neg (by decide +kernel),O3,if_neg (by decide +kernel),O3,if_pos rfl]
theorem agp(f b:Bool)(j ll ml md:Addr):(ordF f b j ll ml md).lookup ("jobs" : Str)=some (V.ref j):=by
 unfold ordF;rw [O3,if_neg (by decide +kernel),O3,if_neg (by decide +kernel),O3,if_neg (by decide +kernel),O3,if_pos rfl]
theorem nB(f b:Bool)(j ll ml md:Addr){m:Str}(h:m∉(["made", "mark_line", "letter_line", "jobs", "behind", "figures"]:List Str)):(ordF f b j ll ml md).lookup m=none:=by
 unfold ordF;have n:∀ u∈(["made", "mark_line", "letter_line", "jobs", "behind", "figures"]:List Str),¬ m=u:=fun u hu e=>h (by rw [e];exact hu)
 rw [O3,if_neg (n _ (by simp)),O3,if_neg (n _ (by simp)),O3,if_neg (n _ (by simp)),O3,if_neg (n _ (by simp)),O3,if_neg (n _ (by simp)),O3,if_neg (n _ (by simp))];rfl
theorem IsRules.but{x:Addr}{R:List Rl}(h:IsRules H a rs R)(s:SameBut x H H'){dx:Addr}{fs:List (Str×V)}(hx:H x=some (.ins C dx fs)):IsRules H' a rs R:=
 ⟨s _ _ (fun e=>by have:=h.top;rw [e,hx] at this;cases this) h.top,N5 h.row fun t z e=>s _ _ (fun q=>by rw [q,hx] at e;cases e) e⟩
theorem SameBut.trans{x:Addr}(a:SameBut x H H1)(b:SameBut x H1 H2):SameBut x H H2:=fun c o hc h=>b c o hc (a c o hc h)
theorem Same.but{x:Addr}(a:Same H H1):SameBut x H H1:=fun c o _ h=>a c o h
noncomputable def P9 (R:List Rl) (w:Str) (L:List Str):Prop:=U5 (edges (rowsW R w)) (toldL (rowsW R w)) L/\∀ p∈toldL (rowsW R w),p∈L
structure IsOrder(C:Addr)(H:Hp)(x:Addr)(g:Str->Str)(R:List Rl)(L M:List Str):Prop where
 ob:∃ dx j ll ml md,H x=some (.ins C dx (ordF (hasW R "figures") (hasW R "behind") j ll ml md))/\H j=some (.dK (C2 (keysP (C5 R)++V7 R) (jobG g)))/\H ll=some (.lst (L.map V.str))/\H ml=some (.lst (M.map V.str))
 l1:P9 R "row" L
 l2:P9 R "marks" M
noncomputable def amM (K:PySem.W.Frag):Sp:=fun vs H Q _=>∃ (a:Addr) (ts:List Addr) (R:List Rl) (w:Str) (rank:Str->Nat),vs=[.ref a,.str w]/\IsRules H a ts R/\R.length<=1000/\(rowsW R w).flatten.length<=100000/\(∀ e∈edges (rowsW R w),rank e.1<rank e.2)/\
 ∀ (l:Addr) (line:List Str) (H':Hp),H l=none->Same H H'->H' l=some (.lst (line.map V.str))->U5 (edges (rowsW R w)) (toldL (rowsW R w)) line->(∀ p∈toldL (rowsW R w),p∈line)->Q (.ref l) H'
noncomputable def cellF (ns:List Int) (k:Int):Int:=if k<(ns.length:Int) then ns.getD k.toNat 0 else 0
noncomputable def LA:List Nat:=SG.filter fun c=>!figO c
noncomputable def LB:List Nat:=LA++[48,49,50,51,52,53,54,55,56,57]
noncomputable def listF (d:Bool):List Nat:=if d=true then LB else LA
noncomputable def lenF (d:Bool):Int:=if d=true then 93 else 83
noncomputable def vZ (ns:List Int):Bool:=decide (cellF ns 1 / 12 % 2=0)
noncomputable def stepO:List Int:=[1,2,4,5,7,8,10,11,13,23,44,80]
noncomputable def stO (ns:List Int):Int:=(G2 stepO (cellF ns 1 % 12)).getD 0
noncomputable def kF (ns:List Int) (k:Int):Nat:=(G2 (listF (vZ ns)) ((cellF ns 0+k*stO ns) % lenF (vZ ns))).getD 33
theorem ara{l:List Nat}(nd:l.Nodup){i j:Int}(h0:0<=i)(h1:i<l.length)(h2:0<=j)(h3:j<l.length)(h:(G2 l i).getD 33=(G2 l j).getD 33):i=j:=by
 have li:i.toNat<l.length:=by lia
 have lj:j.toNat<l.length:=by lia
 have a1:G2 l i=some l[i.toNat]:=by
  have:=K9 (xs:=l) (j:=i.toNat) (v:=l[i.toNat]) (J7 li)
  rw [show ((i.toNat:Nat):Int)=i by lia] at this;exact this
 have a2:G2 l j=some l[j.toNat]:=by
  have:=K9 (xs:=l) (j:=j.toNat) (v:=l[j.toNat]) (J7 lj)
  rw [show ((j.toNat:Nat):Int)=j by lia] at this;exact this
 rw [a1,a2] at h
 have:=(dC.mp nd)
 rw [fP] at this
 rcases Nat.lt_trichotomy i.toNat j.toNat with z | z | z
 .exact absurd h (this _ _ li lj z)
 .lia
 .exact absurd h.symm (this _ _ lj li z)
theorem aiJ{m s t b k l:Int}(ht:s*t % m=1)(e:(b+k*s) % m=(b+l*s) % m)(h0:0<=k)(h1:k<m)(h2:0<=l)(h3:l<m):k=l:=by
 have d1:m ∣ (k-l)*s:=by
  have:=Int.dvd_of_emod_eq_zero (Int.emod_eq_emod_iff_emod_sub_eq_zero.mp e)
  rwa [show (b+k*s)-(b+l*s)=(k-l)*s by rw [Int.sub_mul];lia] at this
 have d3:m ∣ (k-l)*(s*t):=by rw [<- Int.mul_assoc];exact Int.dvd_mul_of_dvd_left d1
 have d4:m ∣ s*t-1:=⟨s*t / m,by have:=Int.emod_add_mul_ediv (s*t) m;lia⟩
 have d5:m ∣ (k-l)*(s*t-1):=Int.dvd_mul_of_dvd_right d4;have d6:=Int.dvd_sub d3 d5;rw [show (k-l)*(s*t)-(k-l)*(s*t-1)=k-l by rw [Int.mul_sub,Int.mul_one];lia] at d6;have d7:=Int.emod_eq_emod_iff_emod_sub_eq_zero.mpr (Int.emod_eq_zero_of_dvd d6)
 rwa [Int.emod_eq_of_lt h0 h1,Int.emod_eq_of_lt h2 h3] at d7
end L2
set_option maxRecDepth 100000
namespace L2
open PySem PySem.Spec PyProof.Rows
open AutoSeq1 (wpAny_loadPart' idx_int)
noncomputable abbrev bareL (ys:Array Value) (k:Nat):Obj:=⟨.type "list",none,.seq ys k,#[]⟩
noncomputable abbrev anyT (dd:Option Addr) (ys:Array Value) (k:Nat) (ss:Array (Option Value)):Obj:=⟨.type "tuple",dd,.seq ys k,ss⟩
theorem aey{l:Addr}{ys zs:Array Value}{k2:Nat}{dd:Option Addr}(short:¬ (!ys.isEmpty&&Builtin.List.listTooLong (ys.size+zs.size))=true)(h1:ys.size<=sizeLine)(h2:ys.size+zs.size<=sizeLine+1) :
  Meets (Builtin.«list.extend» ⟨[.ref l,.ref b],[]⟩) (fun _ R s=>s.heap.get? l=some (bareL ys k)/\s.heap.get? b=some (anyT dd zs k2 ss)/\R (.ok (.ret .none)) { s with heap:=s.heap.update l (Obj.mapSeq (·++zs)),toks:=s.toks }):=by
 refine .of_wp fun _ _ _ R s ⟨gl,gb,fin⟩=>?_
 rcases s with ⟨hp,gens,dr,tk,sys⟩
 have c1:=idx_int;have c2:=AutoSeq1.sub_tuple_tuple;have c3:=AutoSeq1.sub_list_list;have c4:=AutoSeq1.sub_tuple_list;have c5:=AutoSeq1.sub_list_tuple;have room:(ys++zs).size<=sizeLine+1:=Array.size_append ▸ h2
 wp_walk using (wpAny_updateSeq gl rfl (hz:=h1) (_hz':=room)),wpAny_loadPart' gl,wpAny_loadPart' gb
 exact ⟨_,rfl,fin⟩
section
variable {X:Cx}
noncomputable def ahY (K:PySem.W.Frag):V->List V->Hp->VK->Prop:=fun x vs H Q=>∃ l b xs zs,x=.ref l/\vs=[.ref b]/\H l=some (.lst xs)/\B1 K H b zs/\xs.length+zs.length<=sizeLine/\Q .non (A0 H l (.lst (xs++zs)))
theorem aiK:mQ X "list.extend" (ahY X.K):=by
 intro pins s Y H x vs v us Q I rx rv h;obtain ⟨l,b,xs,zs,rfl,rfl,hH,hB,hz,q⟩:=h
 cases rx
 obtain ⟨u,rfl,ru⟩:=rv.one
 cases ru
 obtain ⟨z,its,n,r,hl,e⟩:=I.lstM hH;obtain ⟨its2,r2,⟨⟨c,dct,dt,sl⟩,e2,hc,n2,hd⟩,f8⟩:=I.tuple hB
 replace hc:c=.type "tuple":=hc
 replace hd:dt=.seq its2.toArray n2:=hd
 subst hc hd;have q1:=r2.length;have hsz:its.toArray.size+its2.toArray.size<=sizeLine:=by rw [J8,J8];lia
 have v9:¬ (!its.toArray.isEmpty&&Builtin.List.listTooLong (its.toArray.size+its2.toArray.size))=true:=by
  rw [ahL hsz,Bool.and_false];exact L5
 refine call_meets F.slot_list_extend ⟨_,e,rfl⟩ F.entry_list_extend (F.args_list_extend_2 _ _)
  (aey (k:=n) (k2:=n2) (dd:=dct) (ss:=sl) v9 (by rw [J8];lia) (by lia)) ⟨e,e2,?_⟩
 refine ⟨.non,_,I.lset (its':=its++its2) hH e (by simp) (r.append r2) ?_,rfl,q⟩;rw [D7];lia
theorem aj8(hK:X.K=K:=by rfl):QMt X "list.extend" (ahY K):=by subst hK;exact ⟨fun pins s Y H x xs v us Q I rx rv h=>aiK pins s Y H x xs v us Q I rx rv h⟩
end
noncomputable def Itv (l : Addr) (n : Nat) : It :=
  ⟨fun i H => ∃ xs x, H l = some (.lst xs) /\ i<n /\ xs[n-1-i]? = some x,
   fun i H v H' => H' = H /\ ∀ xs, H l = some (.lst xs) -> xs[n-1-i]? = some v,
   fun i H => ∃ xs, H l = some (.lst xs) /\ n <= i⟩
theorem afE:bootBuiltins "reversed"=some (.type "reversed"):=by decide +kernel
section
variable {X:Cx}
noncomputable def iRev (ta:TA):TI:=fun Y H R=>ta Y H fun vs H1=>∃ (l:Addr) (xs:List V),vs=[.ref l]/\H1 l=some (.lst xs)/\R (Itv l xs.length) H1
end
theorem aor{R:It->Hp->Prop} : iRev ta Y H R=ta Y H fun vs H1=>∃ (l:Addr) (xs:List V),vs=[.ref l]/\H1 l=some (.lst xs)/\R (Itv l xs.length) H1:=rfl
noncomputable abbrev eF (l:Addr):Obj:={ cls:=.type "list_iterator",data:=.fields #[.ref l,.int 0 0] }
noncomputable abbrev kG (it:Addr) (i:Int):Obj:={ cls:=.type "enumerate",data:=.fields #[.none,.bool false,.ref it,rawInt i,.none,.none] }
noncomputable abbrev anyL (dd:Option Addr) (ys:Array Value) (k:Nat) (ss:Array (Option Value)):Obj:=⟨.type "list",dd,.seq ys k,ss⟩
set_option maxHeartbeats 4000000 in
theorem aeM{l:Addr}{ys:Array Value}{dd:Option Addr}{i:Int}{t:Tok}(fits:Builtin.SmallTypes.fitsIndex i=true) :
  Meets (Builtin.«enumerate.__new__» ⟨[.type "enumerate",.ref l],[("start",.int i t)]⟩) (fun _ R s=>s.heap.get? l=some (anyL dd ys k ss)/\
   R (.ok (.ret (.ref (s.heap.push (eF l)).objs.size))) { s with heap:=(s.heap.push (eF l)).push (kG s.heap.objs.size i) }):=by
 refine .of_wp fun _ _ _ R s ⟨gl,fin⟩=>?_
 rcases s with ⟨hp,gens,dr,tk,sys⟩
 have c1:=sub_enumerate;have isl:Heap.IsList (Shared.heap ⟨hp,gens,dr,tk,sys⟩) l ys:=⟨_,gl,rfl,k,rfl⟩
 wp_walk using wpAny_loadPart' gl
 refine wpAny_stack_any fun _=>wpAny_pure ?_
 split
 case h_1 c _ _ _ _ _=>
  generalize (c==Value.type "enumerate")=truth
  cases truth <;> (wp_walk using wpAny_loadPart' gl,wpAny_pyIter_list isl;exact ⟨_,rfl,fin⟩)
 case h_2=>(wp_walk using wpAny_loadPart' gl,wpAny_pyIter_list isl;exact ⟨_,rfl,fin⟩)
theorem aiL(a b:Value):checkTypeCall "enumerate" ⟨[a],[("start",b)]⟩=pure ():=by kernel_rfl
theorem aj9(a b:Value):checkBuiltinCall "enumerate.__new__" ⟨[.type "enumerate",a],[("start",b)]⟩=pure ():=by kernel_rfl
theorem aiM(a b c:Value):argsOk "object.__init__" ⟨[a,b],[("start",c)]⟩:=by
 unfold argsOk;rw [signature?_of (id:="object.__init__") (n:="__init__".toList.reverse) (o:="object".toList.reverse) (by kernel_rfl) F.owner_object]
 kernel_rfl
theorem aka{self b c:Value} : Meets (Builtin.«object.__init__» ⟨[self,b],[("start",c)]⟩) (fun _ R s=>s.TypeIs self "enumerate"/\R (.ok (.ret .none)) s):=by
 have c1:=F.called_enumerate.init.lookup;have c2:=F.called_enumerate.made;refine .of_wp fun _ _ _ R s ⟨isT,fin⟩=>?_
 repeat (any_goals (first | assumption | wp_step))
 exact ⟨_,rfl,fin⟩
section
variable {prog:Program} {w:World} {A:Around} {E:Value->Shared->Prop} {s:Shared}
theorem aez{l:Addr}{ys:Array Value}{i:Int}{t:Tok}{Q:Value->Shared->Prop}(isl:s.heap.IsList l ys)(fits:Builtin.SmallTypes.fitsIndex i=true)(fin:∀ h',IsEnum h' (s.heap.objs.size+1) s.heap.objs.size i .none->h'.IsListIter s.heap.objs.size l 0->(∀ b o,s.heap.get? b=some o->h'.get? b=some o)->Q (.ref (s.heap.objs.size+1)) { s with heap:=h' }) :
  wpAny (model prog w) A (call (.type "enumerate") [.ref l] [("start",.int i t)]) Q E s:=by
 obtain ⟨⟨c,dd,dt,ss⟩,gl,hc,k,hd⟩:=isl;obtain rfl:c=.type "list":=hc;obtain rfl:dt=.seq ys k:=hd;obtain ⟨hd0,tl,c1⟩:=F.called_enumerate.mro;have c2:=F.called_enumerate.made;have c3:=F.called_enumerate.sub;have c4:=F.called_enumerate.notType;have c5:=F.called_enumerate.canCreate;have c6:=F.called_enumerate.init.lookup;have c7:=aiL (.ref l) (.int i t);refine wpAny_call (codeAny_of_tree (show wpAny _ _ (callAny (.type "enumerate") _) _ _ _ from wpAny_pure ⟨Code.quiet_builtin _ (by decide +kernel),codeAny_builtin F.entry_type_call ?_⟩));rw [Around.under_plain (weight_type_call_type "enumerate" [.ref l] [("start",.int i t)]) (units_type_call_type "enumerate" [.ref l] [("start",.int i t)])]
 repeat (any_goals (first | assumption | wp_step))
 have z:(s.heap.push (eF l)).objs.size=s.heap.objs.size+1:=Heap.size_push ..;have made:IsEnum ((s.heap.push (eF l)).push (kG s.heap.objs.size i)) (s.heap.objs.size+1) s.heap.objs.size i .none:=by
  have g:=Heap.get?_push_size (s.heap.push (eF l)) (o:=kG s.heap.objs.size i) rfl;rw [z] at g;exact g
 have done:=fin _ made ⟨_,Heap.get?_push_of_some _ (Heap.get?_push_size _ rfl),rfl,rfl⟩ fun b o g=>Heap.get?_push_of_some _ (Heap.get?_push_of_some _ g)
 refine codeAny_mono (codeAny_call_builtin F.called_enumerate.plain F.entry_enumerate_new (wpAny_of_eq (aj9 _ _) (aeM (dd:=dd) (k:=k) (ss:=ss) fits prog w A.in1 (wants (fun v s2=>v=.ref (s.heap.objs.size+1)/\s2={ s with heap:=(s.heap.push (eF l)).push (kG s.heap.objs.size i) }) E) s ⟨gl,?_,?_⟩))) ?_
 .rw [z]
 .rfl
 .intro r s1 hr
  rcases r with e | fl
  .exact hr
  .cases fl with
   | ret v=>
    obtain ⟨rfl,rfl⟩:=hr;have isT:Shared.TypeIs { s with heap:=(s.heap.push (eF l)).push (kG s.heap.objs.size i) } (.ref (s.heap.objs.size+1)) "enumerate":=⟨_,made,rfl⟩
    have c8:=F.called_enumerate.init.bind (.ref (s.heap.objs.size+1))
    repeat (any_goals (first | assumption | wp_step))
    have ran:=aka (self:=.ref (s.heap.objs.size+1)) (b:=.ref l) (c:=.int i t) prog w A.in1 (wants (fun v s2=>v=.none/\s2={ s with heap:=(s.heap.push (eF l)).push (kG s.heap.objs.size i) }) E) _ ⟨isT,rfl,rfl⟩;refine codeAny_mono (codeAny_call_builtin F.called_enumerate.init.plain F.entry_object_init (F.called_enumerate.init.check _ _ _ _ _ _ _ _ isT (aiM _ _ _) ran)) fun r s2 hr=>?_
    rcases r with e | fl
    .exact hr
    .cases fl with
     | ret v=>
      obtain ⟨rfl,rfl⟩:=hr
      repeat (any_goals (first | assumption | wp_step))
     | next=>exact hr.elim
     | brk=>exact hr.elim
     | cont=>exact hr.elim
   | next=>exact hr.elim
   | brk=>exact hr.elim
   | cont=>exact hr.elim
end
theorem arb{w:World}(calm:A.handled=none){l:Addr}(apart:l≠it)(ys:Array Value) :
  Draws prog w A it [it,l] (ys.size+1) (fun i v=>1<=i/\ys[i-1]?=some v) (fun i h=>1<=i/\h.IsListIter it l (i-1)/\h.IsList l ys):=by
 have D:=Draws.list (prog:=prog) (w:=w) calm it l apart ys;refine ⟨fun i h st=>D.live (i-1) h st.2,fun i h h' st same=>⟨st.1,D.frame (i-1) h h' st.2 same⟩,fun i s Q E hi st fin=>?_,fun s Q E st fin=>D.done s Q E st.2 fin⟩;refine D.item (i-1) s Q E (by have:=st.1;lia) st.2 fun x h' tk px st' sb=>fin x h' tk ⟨st.1,px⟩ ⟨by lia,?_⟩ sb
 rw [show i+1-1=i-1+1 by have:=st.1;lia];exact st'
theorem arc{w : World}(calm : A.handled = none){l: Addr}{ys : Array Value}(none : ys[i]? = none) :
    Draws prog w A it [it, l] (i+1) (fun _ _ => True) (fun k h => k = i+1 /\ h.IsListIter it l i /\ h.IsList l ys) :=
  ⟨fun _ _ st => let ⟨o, ho, _⟩ := st.2.1; ⟨o, ho⟩, fun _ _ _ st same => ⟨st.1, st.2.1.at fun o g => same it (by simp) o g, st.2.2.at fun o g => same l (by simp) o g⟩,
   fun k s Q E hk st => absurd st.1 (by lia), fun s Q E st fin => wpAny_nextOf_list_end calm st.2.1 st.2.2 none fin⟩
noncomputable def Ite1 (l : Addr) : It :=
  ⟨fun i H => ∃ xs x, H l = some (.lst xs) /\ xs[i]? = some x,
   fun i H v H' => ∃ t xs x, H l = some (.lst xs) /\ xs[i]? = some x /\ H t = none /\ v = .ref t /\ H' = A0 H t (.tup [.int (i+1 : Nat), x]),
   fun i H => ∃ xs, H l = some (.lst xs) /\ xs.length <= i⟩
theorem aiN{P:Program}{w:World}{pos:Pos}(e it l:Addr)(G8:e≠it) :
  Turn P w K (.Tuple elts x1 pos) (Ite1 l) [e,it] e (fun i h=>(∃ old,IsEnum h e it ((i+1:Nat):Int) old)/\h.IsListIter it l i) where
 mem:=by simp
 obj:=fun i h ⟨⟨old,he⟩,hi⟩ c hc=>by
  have q:c=e\/c=it:=by simpa using hc
  rcases q with rfl | rfl
  .exact ⟨_,he,fun v q=>by cases q⟩
  .obtain ⟨o,e,c,d⟩:=hi;exact ⟨o,e,fun v z=>by rw [d] at z;cases z⟩
 keep:=fun i h h' ⟨⟨old,he⟩,hi⟩ k=>⟨⟨old,k e (by simp) _ he⟩,hi.at fun o q=>k it (by simp) o q⟩
 item:=by
  intro X hP hw hK hc i pins s Y H E I hf ⟨⟨old,he⟩,hi⟩ hg;subst hP hw hK;obtain ⟨xs,x,e1,hx⟩:=hg;obtain ⟨its1,W5,p1,_⟩:=I.list (D0.of (K:=X.K) e1);obtain ⟨u1,B5,r1⟩:=W5.get hx;have C4:i<its1.length:=(E9.mp B5).1;obtain ⟨ol,gl,cl,_⟩:=p1.isList;have nli:l≠it:=fun q=>by
   obtain ⟨oi,gi,ci,_⟩:=hi;rw [q,gi] at gl
   cases gl
   rw [ci] at cl;exact absurd cl (by decide)
  have nle:e≠l:=fun q=>by
   rw [<- q,he] at gl
   cases gl
   exact absurd (show Value.type "enumerate"=Value.type "list" from cl) (by decide)
  refine wpAny_pyNext_enum_itemD (i:=i+1) (arb (A:=X.A.in1) (show X.A.in1.handled=none from I.ok.hd hc) nli its1.toArray) he ⟨by lia,by simpa using hi,p1.isList⟩ (by simp;lia) G8 (by simp [G8,nle]) fun y h' tk py b1 b2 b3 b4 b5=>?_
  obtain rfl:u1=y:=by
   have:=py.2
   simp [B5] at this;exact this
  refine ⟨_,rfl,wpAny_letOwnedTupleGo_enum b1 fun h2' c1 c2=>?_⟩;have k8:e<s.heap.objs.size:=Heap.lt_size he;have up:∀ c o,c≠e->h'.get? c=some o->h2'.get? c=some o:=fun c o hc q=>(c2.2 c hc).trans q
  have hT:=up _ _ (Nat.ne_of_gt k8) b3;have nT:∀ c∈[e,it],c≠s.heap.objs.size:=fun c hc=>by
   have q:c=e\/c=it:=by simpa using hc
   refine L8 ?_
   rcases q with rfl | rfl
   .exact k8
   .obtain ⟨o,q,_⟩:=hi;exact Heap.lt_size q
  refine ⟨.ref s.heap.objs.size,A0 H s.heap.objs.size (.tup [.int (i+1:Nat),x]),I.turnNew (t':=tk+1) (ch:=[e,it]) hf (fun c u hc q=>?_) (C3 _) ⟨by show 2<=sizeLine;decide,[.int (i+1:Nat) tk,u1],.cons ⟨_,rfl⟩ (.cons r1 .nil),?_⟩,rfl,⟨_,xs,x,e1,hx,I.fresh,rfl,rfl⟩,
   ⟨⟨_,c1⟩,(show h'.IsListIter it l (i+1) by simpa using b2.2.1).at fun o q=>up _ o G8.symm q⟩,fun c hc=>by rw [A7 (nT c hc)];exact (hf c hc).1⟩
  .have q1:c≠e/\c≠it:=⟨fun q=>hc (by simp [q]),fun q=>hc (by simp [q])⟩
   exact up c u q1.1 (b5 c u q1.1 q1.2 q)
  .exact ⟨_,hT,rfl,_,rfl⟩
 done:=by
  intro X hP hw hK hc i pins s Y H E I hf ⟨⟨old,he⟩,hi⟩ hg;subst hP hw hK;obtain ⟨xs,e1,iJ⟩:=hg;obtain ⟨its1,W5,p1,_⟩:=I.list (D0.of (K:=X.K) e1);have q1:=W5.length;obtain ⟨f0,f1,f2,f3,f4,f5⟩:=hf it (by simp);exact wpAny_pyNext_enum_endD (arc (A:=X.A.in1) (show X.A.in1.handled=none from I.ok.hd hc) (ys:=its1.toArray) (i:=i) (by simp;lia)) he ⟨rfl,hi,p1.isList⟩ fun h' eb=>⟨rfl,I.turned (t':=s.toks) (fun b o hb q=>eb b o hb q) f0 f1 f3 f4 f5⟩
 self:=fun _ _ _ _ _ st h=>by
  obtain ⟨⟨old,he⟩,_⟩:=st;exact wpAny_pyIter_enum he h
theorem akb:bootBuiltins "enumerate"=some (.type "enumerate"):=by decide +kernel
section
variable {X:Cx}
noncomputable def wA (ta:TA):TI:=fun Y H R=>ta Y H fun vs H1=>∃ (l:Addr) (xs:List V),vs=[.ref l]/\H1 l=some (.lst xs)/\R (Ite1 l) H1
theorem al5{a:Expr}{p pos:Pos}(hg:Gl X "enumerate")(hm:X.mg "enumerate"=none)(ha:PA X [a] ta)(h1:L0 a=false:=by rfl) :
  PI X (.Tuple elts x1 tpos) (.Call (.Name "enumerate" p) [a] [⟨some "start",.Constant (.int 1) ck cpos,kpos⟩] pos) (wA ta):=by
 intro pins s Y H R I h;refine wpAny_Call_Name_kw (z8 I hg hm akb (PySem.W.callWith_of (P:=fun _=>True) ?_ (fun _ _=>⟨_,.inr (.inl rfl),PySem.W.Looks.of_pure rfl⟩) (PyProof.Rows.evalArgs_kw2 rfl (A9 (ha pos pins s Y H _ I h) fun us s1 ⟨vs,H1,I1,r1,q1⟩=>?_) (N6 h1))))
 .rw [N6 h1];rfl
 have kw:PK X [⟨some "start",.Constant (.int 1) ck cpos,kpos⟩] (tCons (tC (.int 1)) tNil):=anv amA aql;refine A9 (kw pos pins s1 Y H1 (fun zs H2=>zs=[.int 1]/\H2=H1) I1 ⟨rfl,rfl⟩) fun ws s2 ⟨zs,H2,I2,rz,e1,e2⟩=>⟨trivial,?_⟩
 subst e1 e2;obtain ⟨l,xs,rfl,e1,q⟩:=q1;obtain ⟨u1,rfl,iK⟩:=vals1 r1
 cases iK
 obtain ⟨u2,rfl,zI⟩:=vals1 rz;obtain ⟨t,rfl⟩:=zI;obtain ⟨its1,W5,p1,_⟩:=I2.list (D0.of (K:=X.K) e1);refine aez p1.isList (by decide) fun h' z1 z2 z4=>wpAny_pyIter_enum z1 ?_
 refine ⟨s2.heap.objs.size+1,[s2.heap.objs.size+1,s2.heap.objs.size],_,_,H2,rfl,I2.kept (t':=s2.toks) z4,aiN _ s2.heap.objs.size l (m8 (by lia)),⟨⟨_,z1⟩,z2⟩,fun b hb=>?_,q⟩;have Y8:s2.heap.objs.size<=b:=by
  have e:b=s2.heap.objs.size+1\/b=s2.heap.objs.size:=by simpa using hb
  rcases e with rfl | rfl
  .exact dM _ _
  .exact C3 _
 exact I2.fpOk Y8 (I2.hok.fresh Y8)
theorem al6{a:Expr}{p pos:Pos}(hm:X.mg "enumerate"=none)(ha:QA X [a] ta)(hg:Gl X "enumerate":=by rfl)(h1:L0 a=false:=by rfl) :
  QI X (.Tuple elts x1 tpos) (.Call (.Name "enumerate" p) [a] [⟨some "start",.Constant (.int 1) ck cpos,kpos⟩] pos) (wA ta):=⟨al5 hg hm ha.out h1⟩
end
theorem akd{R:It->Hp->Prop} : wA ta Y H R=ta Y H fun vs H1=>∃ (l:Addr) (xs:List V),vs=[.ref l]/\H1 l=some (.lst xs)/\R (Ite1 l) H1:=rfl
theorem forE1{l:Addr}(Pv:Nat->St->Hp->Prop)(h0:Pv 0 Y H)(hl:∀ i Y H,Pv i Y H->H l=some (.lst xs))(hs:∀ i x t Y H,xs[i]?=some x->Pv i Y H->H t=none->g (.ref t) Y (A0 H t (.tup [.int (i+1:Nat),x])) fun σ2 H2=>tb { D with nx:=Pv (i+1),ct:=Pv (i+1),bk:=D.nx } σ2 H2)(hd:∀ Y H,Pv xs.length Y H->D.nx Y H):ForIt (Ite1 l) g tb D Y H:=by
 refine ⟨fun i m Y H=>m=xs.length-i/\i<=xs.length/\Pv i Y H,⟨xs.length,by simp,F7 _,h0⟩,?_⟩;rintro i m Y H ⟨rfl,hi,p⟩;have e1:=hl i Y H p
 by_cases C4:i<xs.length
 .refine .inr ⟨⟨xs,xs[i],e1,by simp⟩,Pv (i+1),fun σ' H' p'=>⟨_,by lia,rfl,C4,p'⟩,fun v H' y=>?_⟩;obtain ⟨t,xs',x,f1,hx,ht,rfl,rfl⟩:=y;rw [e1] at f1;cases f1;exact hs i x t Y H hx p ht
 .have e:i=xs.length:=by lia
  subst e;exact .inl ⟨⟨xs,e1,by lia⟩,hd Y H p⟩
end L2
set_option maxRecDepth 100000
namespace L2
open PySem PySem.Spec PyProof.Rows
noncomputable def ake:V->List V->Hp->VK->Prop:=fun x vs H Q=>∃ (l:Addr) (zs:List Str) (z:Str),x=.ref l/\vs=[.str z]/\H l=some (.lst (zs.map V.str))/\z∈zs/\Q (.int (zs.idxOf z:Nat)) H
theorem akf : mQ X "list.index" ake:=by
 intro pins s Y H x vs v us Q I rx rv h;obtain ⟨l,zs,zz,rfl,rfl,hH,hm,q⟩:=h
 cases rx
 obtain ⟨u,rfl,ru⟩:=rv.one;obtain ⟨t,rfl⟩:=ru;obtain ⟨z,its,n,r,hl,e⟩:=I.lstM hH;have sa:=ad4 r;have hj:zs.idxOf zz<zs.length:=dE.mpr hm;rw [A6] at hl z;have V0:∀ (j:Nat) (hj:j<its.toArray.size),∃ y t',zs[j]?=some y/\its.toArray[j]=.str y t':=fun j lN=>by
  have hj2:j<zs.length:=by rw [hl];simpa using lN
  obtain ⟨t',ht⟩:=ae6 sa (j:=j) (z:=zs[j]) (by simp);refine ⟨zs[j],t',by simp,?_⟩
  have:=(E9.mp ht).2
  simpa using this
 have hsz:zs.idxOf zz<its.toArray.size:=by rw [J8,<- hl];exact hj
 rw [sizeLine_eq] at z;refine call_meets F.slot_list_index ⟨_,e,rfl⟩ F.entry_list_index (F.args_list_index_2 _ _)
  (MeetsSeq.list_index l its.toArray n (.str zz t) (isStrOf zz) (fun y hy=>eq_isStrOf zz t sa y (by simpa using hy)) (zs.idxOf zz) hsz (by lia) ?_ (fun m cQ C4=>?_)) ⟨e,?_⟩
 .obtain ⟨y,t',h1,h2⟩:=V0 _ hsz;rw [h2]
  have:y=zz:=by
   have:=fS hj
   rw [J7 hj,this] at h1;exact (Option.some.inj h1).symm
  subst this;simp [isStrOf]
 .obtain ⟨y,t',h1,h2⟩:=V0 _ cQ;rw [h2]
  have:y≠zz:=fun q=>by
   obtain ⟨h3,h4⟩:=E9.mp h1
   have:=List.not_of_lt_findIdx (show m<zs.findIdx (· == zz) from C4)
   rw [h4] at this;simp [q] at this
  simp [isStrOf,this]
 .exact ⟨.int (zs.idxOf zz:Nat),H,I.tok _,⟨_,rfl⟩,q⟩
theorem al7 : QMt X "list.index" ake:=⟨fun pins s Y H x xs v us Q I rx rv h=>akf pins s Y H x xs v us Q I rx rv h⟩
noncomputable def wB:V->List V->Hp->VK->Prop:=fun x vs H Q=>∃ (l:Addr) (zs:List Int) (z:Int),x=.ref l/\vs=[.int z]/\H l=some (.lst (zs.map V.int))/\z∈zs/\Q .non (A0 H l (.lst ((zs.erase z).map V.int)))
theorem qY:∀ {vs:List Value} {zs:List Int},IntsAre vs zs->∀ {j:Nat} {z:Int},zs[j]?=some z->∃ t,vs[j]?=some (.int z t)
 | _,_,.nil,_,_,h=>by simp at h
 | _,_,.cons _ _ _,0,_,h=>by simp at h;subst h;exact ⟨_,rfl⟩
 | _,_,.cons _ _ r,j+1,z,h=>by
  obtain ⟨t,q⟩:=qY r (j:=j) (z:=z) (by simpa using h);exact ⟨t,by simpa using q⟩
theorem aiO : mQ X "list.remove" wB:=by
 intro pins s Y H x vs v us Q I rx rv h;obtain ⟨l,zs,zz,rfl,rfl,hH,hm,q⟩:=h
 cases rx
 obtain ⟨u,rfl,ru⟩:=rv.one;obtain ⟨t,rfl⟩:=ru;obtain ⟨z,its,n,r,hl,e⟩:=I.lstM hH;have sa:=qA r;have hj:zs.idxOf zz<zs.length:=dE.mpr hm;rw [A6] at hl;have V0:∀ (j:Nat) (hj:j<its.toArray.size),∃ y t',zs[j]?=some y/\its.toArray[j]=.int y t':=fun j lN=>by
  have hj2:j<zs.length:=by rw [hl];simpa using lN
  obtain ⟨t',ht⟩:=qY sa (j:=j) (z:=zs[j]) (by simp);refine ⟨zs[j],t',by simp,?_⟩
  have:=(E9.mp ht).2
  simpa using this
 have hsz:zs.idxOf zz<its.toArray.size:=by rw [J8,<- hl];exact hj
 refine call_meets F.slot_list_remove ⟨_,e,rfl⟩ F.entry_list_remove (F.args_list_remove_2 _ _)
  (MeetsSeq.list_remove l its.toArray n (.int zz t) (isInt zz) (fun y hy=>eq_isInt zz t sa y (by simpa using hy)) (zs.idxOf zz) hsz ?_ (fun m cQ C4=>?_) (by rw [J8,<- hl];rw [A6] at z;exact z)) ⟨e,?_⟩
 .obtain ⟨y,t',h1,h2⟩:=V0 _ hsz;rw [h2]
  have:y=zz:=by
   have:=fS hj
   rw [J7 hj,this] at h1;exact (Option.some.inj h1).symm
  subst this;simp [isInt]
 .obtain ⟨y,t',h1,h2⟩:=V0 _ cQ;rw [h2]
  have:y≠zz:=fun q=>by
   obtain ⟨h3,h4⟩:=E9.mp h1
   have:=List.not_of_lt_findIdx (show m<zs.findIdx (· == zz) from C4)
   rw [h4] at this;simp [q] at this
  simp [isInt,this]
 .refine ⟨.non,_,I.lset (its':=its.eraseIdx (zs.idxOf zz)) hH e ?_ ?_ ?_,rfl,q⟩
  .show its.toArray.eraseIdxIfInBounds (zs.idxOf zz)=_;rw [List.eraseIdxIfInBounds_toArray]
  .rw [List.erase_eq_eraseIdx_of_idxOf (l:=zs) (a:=zz) (w:=rfl),agh];exact r.eraseIdx _
  .rw [A6,pS hm];rw [A6] at z;lia
theorem akg : QMt X "list.remove" wB:=⟨fun pins s Y H x xs v us Q I rx rv h=>aiO pins s Y H x xs v us Q I rx rv h⟩
theorem ard{l:Addr}{zs:List Int}{z:Int}(h:H l=some (.lst (zs.map V.int)))(hm:z∈zs)(q:Q .non (A0 H l (.lst ((zs.erase z).map V.int)))):wB (.ref l) [.int z] H Q:=⟨l,zs,z,rfl,rfl,h,hm,q⟩
noncomputable def rMinL:List V->Hp->VK->Prop:=fun xs H Q=>∃ (p:Addr) (ns:List Int),xs=[.ref p]/\H p=some (.lst (ns.map V.int))/\ns≠[]/\∀ M:Int,M∈ns->(∀ a∈ns,M<=a)->Q (.int M) H
theorem akh(hc:X.calm=true):CallR X (.builtin "min") rMinL:=by
 intro pins s Y H xs us Q I r h;obtain ⟨p,ns,rfl,hH,G8,q⟩:=h;obtain ⟨u,rfl,ru⟩:=vals1 r
 cases ru
 obtain ⟨z,its,n,rr,hl,e⟩:=I.lstM hH;have hi:=qA rr;have hL:s.heap.IsList p its.toArray:=⟨_,e,rfl,n,rfl⟩
 obtain ⟨ys,e2⟩:=hi.allInts.items;have eW:ns=ys.toList.map (·.1):=by rw [<- hi.numsOf,<- nums_intItems,<- e2]
 have hsz:0<ys.size:=by
  have h3:=List.length_pos_iff.mpr G8;rw [eW,A6,dP] at h3;exact h3
 rw [e2] at hL;refine min_intList (I.ok.hd hc) hL hsz fun v h' tk hv hk=>?_
 obtain ⟨t,rfl⟩:=intItems_at hv;obtain ⟨h1,h2⟩:=argBest_lt (numAt ys) (ys.size-1);refine ⟨.int _,H,I.kept hk,⟨t,rfl⟩,q _ ?_ fun a ha=>?_⟩
 .rw [eW,numAt_eq];exact getD_mem (by rw [A6,dP];lia)
 .rw [eW] at ha;obtain ⟨j,hj,rfl⟩:=mem_getD ha;rw [A6,dP] at hj;rw [<- numAt_eq];exact h2 j (by lia)
theorem are(hc:X.calm=calm:=by rfl):QCall X (.builtin "min") (rCalm calm rMinL):=⟨fun pins s Y H xs us Q I r h=>akh (hc.trans h.1) pins s Y H xs us Q I r h.2⟩
theorem arf : rMinL [.ref p] H Q=∃ ns:List Int,H p=some (.lst (ns.map V.int))/\ns≠[]/\∀ M:Int,M∈ns->(∀ a∈ns,M<=a)->Q (.int M) H:=
 propext ⟨fun ⟨_,ns,e,h⟩=>(by cases e;exact ⟨ns,h⟩),fun ⟨ns,h⟩=>⟨p,ns,rfl,h⟩⟩
noncomputable def kH (n:Nat) (fr:St) (Pv:Nat->List V->Hp->Prop) (i:Nat) (ys:List V) (σ2:St) (H2:Hp):Prop:=i<=n/\ys.length<=i/\(∃ v w,σ2=v::w::fr)/\Pv i ys H2
theorem kH.put{fr:St}{Pv:Nat->List V->Hp->Prop}{y:V}{o o2:Option V}(hi:i<n)(hy:ys.length<=i)(p:Pv (i+1) (ys++[y]) H):kH n fr Pv (i+1) (ys++[y]) (o::o2::fr) H:=
 ⟨hi,by rw [D7,Z0];lia,⟨_,_,rfl⟩,p⟩
theorem compE{l:Addr}(fr:St)(k6:compStart 2 ixs Y=none::none::fr)(Pv:Addr->Nat->List V->Hp->Prop)(h0:∀ D,H1 D=none->Pv D 0 [] (A0 H1 D (.lst [])))(hl:∀ D i ys H,H1 D=none->i<=xs.length->Pv D i ys H->H l=some (.lst xs))(hs:∀ D i x t ys H,H1 D=none->i<xs.length->xs[i]?=some x->Pv D i ys H->H D=some (.lst ys)->ys.length<=i->H t=none->c (some (.int i)::some x::fr) (A0 H t (.tup [.int i,x])) fun b H4=>
   if b=true then te (some (.int i)::some x::fr) H4 fun y H5=>H5 D=some (.lst ys)/\ys.length<sizeLine/\kH xs.length fr (Pv D) (i+1) (ys++[y]) (some (.int i)::some x::fr) (A0 H5 D (.lst (ys++[y])))
   else H4 D=some (.lst ys)/\kH xs.length fr (Pv D) (i+1) ys (some (.int i)::some x::fr) H4)(hd:∀ D ys H,H1 D=none->Pv D xs.length ys H->H D=some (.lst ys)->ys.length<=xs.length->Q (.ref D) H):dW (mY l) 2 ixs (gTup K 2 (gCons (gName 0) (gCons (gName 1) gNil))) c te Y Q H1:=by
 intro D hD;refine ⟨xs.length,kH xs.length fr (Pv D),⟨F7 _,F7 _,⟨none,none,k6⟩,h0 D hD⟩,?_⟩;rintro i ys σ2 H2 ⟨hi,hy,⟨v,w,rfl⟩,p⟩ hDy;have q:=hl D i ys H2 hD hi p
 by_cases C4:i<xs.length
 .refine .inr ⟨C4,⟨xs,xs[i],q,by simp [C4]⟩,fun x H' y=>?_⟩;obtain ⟨t,xs',x',f1,hx,ht,rfl,rfl⟩:=y;rw [q] at f1;cases f1;exact ⟨t,_,rfl,B1.of A3,rfl,_,_,rfl,_,_,rfl,rfl,hs D i x' t ys H2 hD C4 hx p hDy hy ht⟩
 .have e:i=xs.length:=by lia
  subst e;exact .inl ⟨⟨xs,q,C3 _⟩,hd D ys H2 hD p hDy hy⟩
end L2
set_option maxRecDepth 100000
namespace L2
open PySem PySem.Spec PyProof.Rows
section
variable {X:Cx} {o value:Expr} {to tv:TE} {pos tpos:Pos} {st:Stmt} {t:TS} {h₀:ExceptHandler} {hs:List ExceptHandler}
end
end L2
set_option maxRecDepth 100000
namespace L2
open PySem PySem.Spec PyProof.Rows
theorem nC{o i:Expr}{pos:Pos}(ho:QE X o to)(hi:QE X i ti)(ha:∀ v,assign (.Subscript o i pos) X.env v=(do
   let ov <- holding [v] (eval o X.env)
   let iv <- holding [v,ov] (eval i X.env)
   standAt pos
   holding [v,ov,iv] (setItem ov iv v)
   release [v,ov,iv] []):=by intro _;rfl):QG X (.Subscript o i pos) (gSub to ti rSetL):=⟨ao0 ho.out hi.out alk ha⟩
theorem arh{k:Int}{Q:Hp->Prop} : rSetL (.ref p) (.int k) v H Q=∃ xs j,H p=some (.lst xs)/\X3 xs.length k=some j/\Q (A0 H p (.lst (xs.set j v))):=
 propext ⟨fun ⟨_,xs,_,j,e1,e2,h⟩=>(by cases e1;cases e2;exact ⟨xs,j,h⟩),fun ⟨xs,j,h⟩=>⟨p,xs,k,j,rfl,rfl,h⟩⟩
end L2
set_option maxRecDepth 100000
namespace L2
open PySem PySem.Spec PyProof.Rows
noncomputable def FS (ts bad:List Str) (z:Str->Prop) (fr:List Int):Prop:=fr.Nodup/\∀ n:Int,n∈fr↔∃ (m:Nat) (q:Str),n=(m:Int)/\ts[m]?=some q/\q∉bad/\z q
theorem FS.nil(z:Str->Prop):FS [] [] z []:=⟨by simp,fun n=>by simp⟩
theorem FS.snoc{z:Str->Prop}(h:FS ts bad z fr)(hi:i=ts.length)(hb:q∉bad):(z q->FS (ts++[q]) bad z (fr++[(i:Int)]))/\(¬ z q->FS (ts++[q]) bad z fr):=by
 have E8:∀ (m:Nat) (x:Str),(ts++[q])[m]?=some x↔(ts[m]?=some x\/(m=i/\x=q)):=fun m x=>by
  rcases Nat.lt_trichotomy m ts.length with hm | hm | hm
  .rw [dD hm]
   constructor
   .exact .inl
   .rintro (h | ⟨h,_⟩)
    .exact h
    .lia
  .subst hm;rw [fO (C3 _),Nat.sub_self]
   have:ts[ts.length]?=none:=by simp
   rw [this];simp [hi,eq_comm]
  .have h1:ts[m]?=none:=by simp;lia
   have h2:(ts++[q])[m]?=none:=by simp;lia
   rw [h1,h2]
   simp
   lia
 have iD:(i:Int)∉fr:=fun hm=>by
  obtain ⟨m,x,e,h1,_⟩:=(h.2 _).mp hm
  have:=(E9.mp h1).1
  lia
 refine ⟨fun hz=>⟨?_,fun n=>?_⟩,fun hz=>⟨h.1,fun n=>?_⟩⟩
 .rw [Y2];refine ⟨h.1,by simp,fun x hx y hy e=>iD ?_⟩;rw [<- E4.mp hy,<- e];exact hx
 .rw [G0,h.2,E4]
  constructor
  .rintro (⟨m,x,e,h1,h2,h3⟩ | rfl)
   .exact ⟨m,x,e,(E8 m x).mpr (.inl h1),h2,h3⟩
   .exact ⟨i,q,rfl,(E8 i q).mpr (.inr ⟨rfl,rfl⟩),hb,hz⟩
  .rintro ⟨m,x,e,h1,h2,h3⟩
   rcases (E8 m x).mp h1 with h1 | ⟨rfl,rfl⟩
   .exact .inl ⟨m,x,e,h1,h2,h3⟩
   .exact .inr e
 .rw [h.2]
  constructor
  .rintro ⟨m,x,e,h1,h2,h3⟩;exact ⟨m,x,e,(E8 m x).mpr (.inl h1),h2,h3⟩
  .rintro ⟨m,x,e,h1,h2,h3⟩
   rcases (E8 m x).mp h1 with h1 | ⟨rfl,rfl⟩
   .exact ⟨m,x,e,h1,h2,h3⟩
   .exact absurd h3 hz
theorem ahZ(nd:ts.Nodup)(h1:ts[i]?=some q)(h2:ts[j]?=some q):i=j:=by
 obtain ⟨a1,b1⟩:=E9.mp h1;obtain ⟨a2,b2⟩:=E9.mp h2
 have:=dC.mp nd
 rw [fP] at this
 rcases Nat.lt_trichotomy i j with hl | hl | hl
 .exact absurd (b1.trans b2.symm) (this i j a1 a2 hl)
 .exact hl
 .exact absurd (b2.trans b1.symm) (this j i a2 a1 hl)
theorem FS.take{z:Str->Prop}(nd:ts.Nodup)(h:FS ts bad z fr){M:Nat}{p:Str}(hp:ts[M]?=some p):FS ts (bad++[p]) z (fr.erase (M:Int)):=by
 refine ⟨h.1.erase _,fun n=>?_⟩;rw [h.1.mem_erase_iff,h.2]
 constructor
 .rintro ⟨G8,m,x,e,h1,h2,h3⟩;refine ⟨m,x,e,h1,fun hm=>?_,h3⟩
  rcases G0.mp hm with hm | hm
  .exact h2 hm
  .rw [E4.mp hm] at h1;exact G8 (by rw [e,ahZ nd h1 hp])
 .rintro ⟨m,x,e,h1,h2,h3⟩;refine ⟨fun e2=>h2 ?_,m,x,e,h1,fun hm=>h2 (Q5 _ hm),h3⟩
  have:m=M:=by lia
  subst this;rw [hp] at h1;cases h1
  simp
theorem FS.turn{z z':Str->Prop}(nd:ts.Nodup)(h:FS ts bad z fr)(G8:∀ q,q≠y->(z' q↔z q))(hy:¬ z y)(hm:ts[m]?=some y)(hb:y∉bad):(z' y->FS ts bad z' (fr++[(m:Int)]))/\(¬ z' y->FS ts bad z' fr):=by
 have iD:(m:Int)∉fr:=fun h1=>by
  obtain ⟨k,x,e,h2,_,h3⟩:=(h.2 _).mp h1
  have:k=m:=by lia
  subst this;rw [hm] at h2;cases h2;exact hy h3
 have g0:∀ (k:Nat) (x:Str),ts[k]?=some x->x≠y\/(k=m/\x=y):=fun k x hk=>by
  by_cases e:x=y
  .subst e;exact .inr ⟨ahZ nd hk hm,rfl⟩
  .exact .inl e
 refine ⟨fun hz=>⟨?_,fun n=>?_⟩,fun hz=>⟨h.1,fun n=>?_⟩⟩
 .rw [Y2];refine ⟨h.1,by simp,fun x hx w hw e=>iD ?_⟩;rw [<- E4.mp hw,<- e];exact hx
 .rw [G0,h.2,E4]
  constructor
  .rintro (⟨k,x,e,h1,h2,h3⟩ | rfl)
   .rcases g0 k x h1 with c | ⟨_,rfl⟩
    .exact ⟨k,x,e,h1,h2,(G8 x c).mpr h3⟩
    .exact absurd h3 hy
   .exact ⟨m,y,rfl,hm,hb,hz⟩
  .rintro ⟨k,x,e,h1,h2,h3⟩
   rcases g0 k x h1 with c | ⟨rfl,rfl⟩
   .exact .inl ⟨k,x,e,h1,h2,(G8 x c).mp h3⟩
   .exact .inr e
 .rw [h.2]
  constructor
  .rintro ⟨k,x,e,h1,h2,h3⟩
   rcases g0 k x h1 with c | ⟨_,rfl⟩
   .exact ⟨k,x,e,h1,h2,(G8 x c).mpr h3⟩
   .exact absurd h3 hy
  .rintro ⟨k,x,e,h1,h2,h3⟩
   rcases g0 k x h1 with c | ⟨_,rfl⟩
   .exact ⟨k,x,e,h1,h2,(G8 x c).mp h3⟩
   .exact absurd h3 hz
theorem FS.congr{z z':Str->Prop}(h:FS ts bad z fr)(e:∀ q,z' q↔z q):FS ts bad z' fr:=⟨h.1,fun n=>by rw [h.2];exact ⟨fun ⟨m,x,a,b,c,d⟩=>⟨m,x,a,b,c,(e x).mpr d⟩,fun ⟨m,x,a,b,c,d⟩=>⟨m,x,a,b,c,(e x).mp d⟩⟩⟩
theorem ag8{E:List (Str×Str)}(h:FS ts line (fun q=>cnt E line q=0) fr){M:Int}(hM:M∈fr)(iM:∀ a∈fr,M<=a):∃ (m:Nat) (p:Str),M=(m:Int)/\ts[m]?=some p/\nextP E ts line=some p:=by
 obtain ⟨m,p,e,h1,h2,h3⟩:=(h.2 M).mp hM;refine ⟨m,p,e,h1,?_⟩;rw [ae7];obtain ⟨hm,rfl⟩:=E9.mp h1;have e1:ts=ts.take m++ts[m]::ts.drop (m+1):=by rw [<- fQ hm,p9]
 generalize hP:(fun p=>!decide (p∈line)&&decide (∀ e∈E,e.2=p->e.1∈line))=P;have hp:P ts[m]=true:=by
  rw [<- hP];simp only [Z5,mG,decide_eq_false_iff_not,decide_eq_true_eq];exact ⟨h2,cnt_zero.mp h3⟩
 have pD:(ts.take m).find? P=none:=by
  rw [y0];intro x hx hxP;obtain ⟨k,hk,rfl⟩:=g6.mp hx;rw [L4] at hk;rw [List.getElem_take,<- hP] at hxP;simp only [Z5,mG,decide_eq_false_iff_not,decide_eq_true_eq] at hxP
  have:=iM (k:Int) ((h.2 _).mpr ⟨k,ts[k],rfl,by simp,hxP.1,cnt_zero.mpr hxP.2⟩)
  lia
 conv=>lhs;rw [e1]
 rw [List.find?_append,pD,X0,hp];rfl
theorem al8{E:List (Str×Str)}(r:U5 E ts line)(h:q∈line):cnt E line q=0:=by
 obtain ⟨pre,post,rfl⟩:=List.append_of_mem h
 have:=(kD (r pre q post rfl)).2.2
 rw [cnt_zero] at this ⊢
 intro e he h2;exact Q5 _ (this e he h2)
theorem agq{f:Str->V} : ∀ {ts pre:List Str},(pre++ts).Nodup->X4 (C2 pre f) (C2 ts f)=C2 (pre++ts) f
 | [],pre,_=>by rw [M3];rfl
 | t::ts,pre,h=>by
  have ht:t∉pre:=fun hm=>(Y2.mp h).2.2 t hm t N3 rfl
  show X4 (putK (C2 pre f) (Sum.inr t) (f t)) (C2 ts f)=_;rw [eE _ ht,show C2 (pre++[t]) (fun x=>if x=t then f t else f x)=C2 (pre++[t]) f from U6 fun x _=>by
   by_cases e:x=t
   .rw [if_pos e,e]
   .rw [if_neg e]]
  rw [agq (pre:=pre++[t]) (by simpa using h)]
  simp
theorem afa:∀ {l m:List Int},l.Nodup->(∀ x∈l,x∈m)->l.length<=m.length
 | [],_,_,_=>F7 _
 | x::l,m,nd,h=>by
  obtain ⟨n1,n2⟩:=V1.mp nd;have hx:=h x N3
  have:=afa (l:=l) (m:=m.erase x) n2 fun y hy=>(List.mem_erase_of_ne (fun e=>n1 (by rw [<- e];exact hy))).mpr (h y (N9 _ hy))
  rw [pS hx] at this;have cP:=pT hx;rw [J9];lia
theorem ah0{f:Str->V} : ∀ {qs:List Addr} {ts:List Str},Paired (fun q t=>H q=some (.tup [.str t,f t])) qs ts->Paired (fun q (kx:B3×V)=>B1 K H q [kV kx.1,kx.2]) qs (C2 ts f)
 | _,_,.nil=>.nil
 | _,_,.cons h t=>.cons (.of h) (ah0 t)
theorem forRs(Pv:Nat->St->Hp->Prop)(h0:Pv 0 Y H)(hs:∀ (P':Nat->St->Hp->Prop) (B':St->Hp->Prop),(∀ i Y H,Pv i Y H->P' i Y H)->∀ i Y H,i<n->Pv i Y H->g (.int (lo+i)) Y H fun σ2 H2=>tb { D with nx:=P' (i+1),ct:=P' (i+1),bk:=B' } σ2 H2)(hd:∀ Y H,Pv n Y H->D.nx Y H):ForIt (m6 lo n) g tb D Y H:=forR Pv h0 (hs Pv _ fun _ _ _ h=>h) hd
theorem forLs(Pv:Nat->St->Hp->Prop)(h0:Pv 0 Y H)(hl:∀ i Y H,i<=xs.length->Pv i Y H->D0 K H a xs)(hs:∀ (P':Nat->St->Hp->Prop) (B':St->Hp->Prop),(∀ i Y H,Pv i Y H->P' i Y H)->∀ i x Y H,xs[i]?=some x->Pv i Y H->g x Y H fun σ2 H2=>tb { D with nx:=P' (i+1),ct:=P' (i+1),bk:=B' } σ2 H2)(hd:∀ Y H,Pv xs.length Y H->D.nx Y H):ForIt (z9 K a) g tb D Y H:=forL Pv h0 hl (hs Pv _ fun _ _ _ h=>h) hd
theorem midS{t u:TS}(M:St->Hp->Prop)(h:∀ M':St->Hp->Prop,(∀ Y H,M Y H->M' Y H)->t { D with nx:=M' } Y H)(h2:∀ σ' H',M σ' H'->u D σ' H'):tSeqM t u D Y H:=⟨M,h M fun _ _ h=>h,h2⟩
noncomputable def amN:Sp:=fun vs H Q _=>∃ (a:Addr) (rs:List Addr) (zss:List (List Str)),vs=[.ref a]/\IsRows H a rs zss/\zss.flatten.length<=100000/\
 ∀ l H',H l=none->Same H H'->H' l=some (.lst ((toldL zss).map V.str))->Q (.ref l) H'
noncomputable def kI:Sp:=fun vs H Q _=>∃ c,vs=[.str ⟨#[c]⟩]/\Q (.bl (figO c)) H
noncomputable def J5 (R:List Rl):List (Str×List Str):=R.filterMap fun z=>if z.1=("great" : Str) then z.2.head?.map fun y=>(y,z.2.drop 1) else none
noncomputable def E3 (R:List Rl):List Str:=G7 [] ((J5 R).map (·.1))
noncomputable def D6 (R:List Rl) (y:Str):List Str:=((J5 R).filter fun e=>decide (e.1=y)).flatMap (·.2)
theorem bW(A B:List Rl):J5 (A++B)=J5 A++J5 B:=by
 unfold J5;rw [List.filterMap_append]
theorem wC{R:List Rl}{z:Rl}(h:R[i]?=some z):J5 (R.take (i+1))=J5 (R.take i)++J5 [z]:=by
 rw [M0 h,bW]
theorem eG{z:Rl}(h:z.1≠("great" : Str)):J5 [z]=[]:=by
 unfold J5;rw [bI,if_neg h];rfl
theorem wD{fs:List Str} : J5 [(("great" : Str),y::fs)]=[(y,fs)]:=by
 unfold J5;rw [bI,if_pos rfl];rfl
theorem wE{A:List Rl}{fs:List Str}(x:Str):D6 (A++[(("great" : Str),y::fs)]) x=if x=y then D6 A x++fs else D6 A x:=by
 unfold D6;rw [bW,wD,bJ,Z1]
 by_cases h:x=y
 .subst h;simp
 .have:¬ (y=x):=fun e=>h e.symm
  simp [this,h]
theorem qZ{A:List Rl}{fs:List Str} : E3 (A++[(("great" : Str),y::fs)])=dd (E3 A) y:=by
 unfold E3 G7;rw [bW,wD,C9,y3];rfl
noncomputable def ah1 (K:PySem.W.Frag):Sp:=fun vs H Q _=>∃ (a:Addr) (ts:List Addr) (R:List Rl),vs=[.ref a]/\IsRules H a ts R/\(∀ z∈R,z.1=("great" : Str)->z.2≠[])/\R.length<=1000/\(∀ i y,(D6 (R.take i) y).length<=10000)/\
 ∀ d ad H',H d=none->Same H H'->H' d=some (.dK (C2 (E3 R) fun y=>.ref (ad y)))->DL H H' (E3 R) ad (D6 R)->Q (.ref d) H'
theorem ah2(xs:List V)(h:i<=j):cutV xs (some (i:Int)) (some (j:Int))=(xs.drop i).take (j-i):=by
 unfold cutV;rw [HT.sIx_nat,HT.sIx_nat]
 by_cases hi:i<=xs.length
 .rw [dN hi]
  by_cases hj:j<=xs.length
  .rw [dN hj]
  .rw [Nat.min_eq_right (by lia),o9 (by rw [y4];exact C3 _),o9 (by rw [y4];lia)]
 .rw [Nat.min_eq_right (by lia:xs.length<=i),mD (C3 _),mD (by lia),List.take_nil,List.take_nil]
structure Used(ks:List Str)(g:Str->V)(z:Rl):Prop where
 gr:z.1=("great" : Str)->∀ p∈z.2.take 1,p∈ks/\g p=.str "letter"
 a1:z.1=("as" : Str)->∀ p∈(z.2.drop 1).take 1,p∈ks/\g p=.str "letter"
 a2:z.1=("as" : Str)->∀ p∈z.2.drop 2,p∈ks/\(g p=.str "letter"\/g p=.str "mark")
noncomputable def amO (K:PySem.W.Frag):Sp:=fun vs H Q _=>∃ (t d:Addr) (z:Rl) (ks:List Str) (g:Str->V),vs=[.ref t,.ref d]/\H t=some (tupR z)/\H d=some (.dK (C2 ks g))/\Used ks g z/\z.2.length<=1000/\∀ p H',H p=none->Same H H'->H' p=some (.lst [])->Q (.ref p) H'
noncomputable def ah3 (K:PySem.W.Frag):Sp:=fun vs H Q _=>∃ (a d:Addr) (ts:List Addr) (R:List Rl) (ks:List Str) (g:Str->V),vs=[.ref a,.ref d]/\IsRules H a ts R/\H d=some (.dK (C2 ks g))/\(∀ z∈R,Used ks g z/\z.2.length<=1000)/\∀ H',Same H H'->Q .non H'
noncomputable abbrev Tr:=Int×Int×Int
noncomputable def tupT (s:Tr):HO:=.tup [.int s.1,.int s.2.1,.int s.2.2]
structure StepAt(H:Hp)(r:Addr)(ss:List Tr):Prop where
 ex:∃ ts:List Addr,H r=some (.tup (ts.map V.ref))/\Paired (fun t s=>H t=some (tupT s)) ts ss
theorem StepAt.same{ss:List Tr}(h:StepAt H r ss)(S:Same H H'):StepAt H' r ss:=
 let ⟨ts,h1,h2⟩:=h.ex
 ⟨ts,S _ _ h1,N5 h2 fun _ _ e=>S _ _ e⟩
theorem StepAt.put{d:Addr}{ss:List Tr}{o o':HO}(h:StepAt H r ss)(hd:H d=some o')(hn:∀ xs,o'≠.tup xs):StepAt (A0 H d o) r ss:=by
 obtain ⟨ts,h1,h2⟩:=h.ex;refine ⟨ts,?_,N5 h2 fun t s e=>?_⟩
 .rw [A7 (fun e=>by rw [e,hd] at h1;exact hn _ (Option.some.inj h1))];exact h1
 .rw [A7 (fun q=>by rw [q,hd] at e;exact hn _ (Option.some.inj e))];exact e
theorem StepAt.one{t:Addr}{s:Tr}(h1:H r=some (.tup [.ref t]))(h2:H t=some (tupT s)):StepAt H r [s]:=⟨[t],h1,.cons h2 .nil⟩
noncomputable def IsMade (H:Hp) (d:Addr) (ks:List Str) (F:Str->List Tr):Prop:=∃ ad:Str->Addr,H d=some (.dK (C2 ks fun y=>.ref (ad y)))/\∀ y∈ks,StepAt H (ad y) (F y)
theorem IsMade.same{d:Addr}{F:Str->List Tr}(h:IsMade H d ks F)(S:Same H H'):IsMade H' d ks F:=
 let ⟨ad,h1,h2⟩:=h
 ⟨ad,S _ _ h1,fun y hy=>(h2 y hy).same S⟩
theorem IsMade.put{d:Addr}{F:Str->List Tr}{ad:Str->Addr}(h1:H d=some (.dK (C2 ks fun y=>.ref (ad y))))(h2:∀ y∈ks,StepAt H (ad y) (F y)){l:Str}(hp:StepAt H p (F l)) :
  IsMade (A0 H d (.dK (putK (C2 ks fun y=>.ref (ad y)) (Sum.inr l) (.ref p)))) d (dd ks l) F:=by
 refine ⟨fun y=>if y=l then p else ad y,?_,fun y hy=>?_⟩
 .rw [A3];have e:∀ t,(if t=l then V.ref p else V.ref (ad t))=V.ref (if t=l then p else ad t):=fun t=>by
   by_cases h:t=l
   .rw [if_pos h,if_pos h]
   .rw [if_neg h,if_neg h]
  unfold dd
  by_cases hl:l∈ks
  .rw [if_pos hl,mX _ hl];exact congrArg (fun x=>some (HO.dK x)) (U6 fun t _=>e t)
  .rw [if_neg hl,eE _ hl];exact congrArg (fun x=>some (HO.dK x)) (U6 fun t _=>e t)
 .by_cases h:y=l
  .subst h;show StepAt _ (if y=y then p else ad y) _;rw [if_pos rfl];exact hp.put h1 (by intro xs e;cases e)
  .show StepAt _ (if y=l then p else ad y) _;rw [if_neg h];refine (h2 y ?_).put h1 (by intro xs e;cases e);unfold dd at hy
   by_cases hl:l∈ks
   .rw [if_pos hl] at hy;exact hy
   .rw [if_neg hl] at hy
    rcases G0.mp hy with q | q
    .exact q
    .exact absurd (E4.mp q) h
structure StI(H H2:Hp)(d:Addr)(P:List Str)(F:Str->List Tr):Prop where
 same:Same H H2
 made:IsMade H2 d (G7 [] P) F
theorem al9(P:List Str)(x:Str):G7 [] (P++[x])=dd (G7 [] P) x:=by
 unfold G7;rw [y3];rfl
theorem StI.putX{d:Addr}{P:List Str}{F:Str->List Tr}(nd:H d=none)(h:StI H H2 d P F)(hP:P.length<100000){l:Str}(hp:StepAt H2 p (F l)) :
  ∃ kvs o,H2 d=some (.dK kvs)/\DPut H2 d (V.str l) (V.ref p) (A0 H2 d o)/\StI H (A0 H2 d o) d (P++[l]) F:=by
 obtain ⟨ad,h1,h2⟩:=h.made;have hl:=mR P [];rw [Z2,Nat.zero_add] at hl;refine ⟨_,_,h1,bU (k:=Sum.inr l) h1 (by rw [j0];exact L1 (by lia)),h.same.put nd,?_⟩;rw [al9];exact IsMade.put h1 h2 hp
theorem StI.put{d:Addr}{P:List Str}{F:Str->List Tr}(nd:H d=none)(h:StI H H2 d P F)(hP:P.length<100000){l:Str}(hp:StepAt H2 p (F l)) :
  ∃ x,DPut H2 d (V.str l) (V.ref p) x/\StI H x d (P++[l]) F:=
 let ⟨_,_,_,h1,h2⟩:=h.putX nd hP hp
 ⟨_,h1,h2⟩
theorem StI.more{d:Addr}{P:List Str}{F:Str->List Tr}(h:StI H H2 d P F)(S:Same H2 H3):StI H H3 d P F:=⟨h.same.trans S,h.made.same S⟩
theorem StI.frz{d:Addr}{P:List Str}{F:Str->List Tr}{o:HO}(h:StI H H2 d P F)(hf:H2 f=some (.dK kvs))(n:H f=none)(nf:f≠d):StI H (A0 H2 f o) d P F:=
 let ⟨ad,h1,h2⟩:=h.made
 ⟨h.same.put n,ad,by rw [A7 nf.symm];exact h1,fun y hy=>(h2 y hy).put hf (by intro xs e;cases e)⟩
theorem StI.thaw{d:Addr}{P:List Str}{F:Str->List Tr}{q:Obj}{o o':HO}(h:StI H H2 d P F)(hf:H2 f=some (.frz q o'))(n:H f=none)(nf:f≠d):StI H (A0 H2 f o) d P F:=
 let ⟨ad,h1,h2⟩:=h.made
 ⟨h.same.put n,ad,by rw [A7 nf.symm];exact h1,fun y hy=>(h2 y hy).put hf (by intro xs e;cases e)⟩
structure FoI(H H2:Hp)(d f:Addr)(o:Obj)(ts:List Str)(af:Str->Addr)(G:Str->List Str)(P:List Str)(F:Str->List Tr):Prop where
 frz:H2 f=some (.frz o (.dK (C2 ts fun y=>.ref (af y))))
 rows:∀ y∈ts,H2 (af y)=some (.lst ((G y).map V.str))
 st:StI H H2 d P F
theorem FoI.more{d:Addr}{af:Str->Addr}{G:Str->List Str}{P:List Str}{F:Str->List Tr}(h:FoI H H2 d f o ts af G P F)(S:Same H2 H3):FoI H H3 d f o ts af G P F:=⟨S _ _ h.frz,fun y hy=>S _ _ (h.rows y hy),h.st.more S⟩
theorem FoI.put{d:Addr}{af:Str->Addr}{G:Str->List Str}{P:List Str}{F:Str->List Tr}(nd:H d=none)(h:FoI H H2 d f o ts af G P F)(hP:P.length<100000){l:Str}(hp:StepAt H2 p (F l)) :
  ∃ x,DPut H2 d (V.str l) (V.ref p) x/\FoI H x d f o ts af G (P++[l]) F:=by
 obtain ⟨kvs,o',h0,h1,h2⟩:=h.st.putX nd hP hp;refine ⟨_,h1,?_,fun y hy=>?_,h2⟩
 .rw [A7 (fun e=>by have:=h.frz;rw [e,h0] at this;cases this)];exact h.frz
 .rw [A7 (fun e=>by have:=h.rows y hy;rw [e,h0] at this;cases this)];exact h.rows y hy
theorem StI.putL{d:Addr}{P:List Str}{F:Str->List Tr}{o:HO}(h:StI H H2 d P F)(hf:H2 f=some (.lst xs))(n:H f=none):StI H (A0 H2 f o) d P F:=
 let ⟨ad,h1,h2⟩:=h.made
 ⟨h.same.put n,ad,by rw [A7 (fun e=>by rw [e,hf] at h1;cases h1)];exact h1,fun y hy=>(h2 y hy).put hf (by intro xs e;cases e)⟩
structure AsI(H H7 H2:Hp)(d:Addr)(P:List Str)(F:Str->List Tr)(ts:List Addr)(ss:List Tr):Prop where
 st:StI H H2 d P F
 pr:Paired (fun t s=>H2 t=some (tupT s)) ts ss
 sm:Same H7 H2
theorem AsI.putL{H7:Hp}{d:Addr}{P:List Str}{F:Str->List Tr}{ts:List Addr}{ss:List Tr}{o:HO}(h:AsI H H7 H2 d P F ts ss)(hf:H2 f=some (.lst xs))(n:H f=none)(n7:H7 f=none):AsI H H7 (A0 H2 f o) d P F ts ss:=
 ⟨h.st.putL hf n,N5 h.pr fun t s e=>by rw [A7 (fun q=>by rw [q,hf] at e;cases e)];exact e,h.sm.put n7⟩
noncomputable def asKs (R:List Rl):List Str:=R.filterMap fun z=>if z.1=("as" : Str) then z.2.head? else none
theorem agr{R:List Rl}{z:Rl}(h:R[i]?=some z):asKs (R.take (i+1))=asKs (R.take i)++asKs [z]:=by
 rw [M0 h];unfold asKs;rw [List.filterMap_append]
theorem aki{z:Rl}(h:z.1≠("as" : Str)):asKs [z]=[]:=by
 unfold asKs;rw [bI,if_neg h];rfl
theorem ah4{fs:List Str} : asKs [(("as" : Str),y::fs)]=[y]:=by
 unfold asKs;rw [bI,if_pos rfl];rfl
theorem ama(R:List Rl):(asKs R).length<=R.length:=List.length_filterMap_le _ _
structure Made(R:List Rl)(L M:List Str)(F:Str->List Tr):Prop where
 lt:∀ (i:Nat) y,L[i]?=some y->F y=[(2,(i:Int),0)]
 mr:∀ (i:Nat) y,M[i]?=some y->F y=[(0,(i:Int),0)]
 gl:∀ y∈E3 R,y∈L
 gr:∀ y∈E3 R,∀ (c:Nat) f,(D6 R y)[c]?=some f->F f=[(2,(L.idxOf y:Int),((c+1:Nat):Int))]
 ne:∀ z∈R,z.1=("as" : Str)\/z.1=("great" : Str)->z.2≠[]
 pt:∀ z∈R,z.1=("as" : Str)->∀ q∈z.2.drop 1,q∈L\/q∈M
 as:∀ z∈R,z.1=("as" : Str)->∀ p qs,z.2=p::qs->F p=qs.map fun q=>(F q).headD (0,0,0)
noncomputable def allKs (R:List Rl) (L M:List Str):List Str:=L++M++(E3 R).flatMap (D6 R)++asKs R
theorem Made.base{R:List Rl}{F:Str->List Tr}(m:Made R L M F)(h:q∈L\/q∈M):∃ s,F q=[s]:=by
 rcases h with h | h
 .obtain ⟨i,hi,e⟩:=g6.mp h;exact ⟨_,m.lt i q (by rw [J7 hi,e])⟩
 .obtain ⟨i,hi,e⟩:=g6.mp h;exact ⟨_,m.mr i q (by rw [J7 hi,e])⟩
theorem Made.letter{R:List Rl}{F:Str->List Tr}(m:Made R L M F)(h:q∈L):F q=[(2,(L.idxOf q:Int),0)]:=by
 have hi:=dE.mpr h;exact m.lt (L.idxOf q) q (by rw [J7 hi,fS])
noncomputable def ah5 (K:PySem.W.Frag):Sp:=fun vs H Q _=>∃ (a b c:Addr) (ts:List Addr) (R:List Rl) (L M:List Str) (F:Str->List Tr),vs=[.ref a,.ref b,.ref c]/\IsRules H a ts R/\Made R L M F/\H b=some (.lst (L.map V.str))/\H c=some (.lst (M.map V.str))/\(∀ z∈R,z.2.length<=1000)/\R.length<=1000/\(∀ i y,(D6 (R.take i) y).length<=10000)/\(allKs R L M).length<=50000/\
 ∀ d H',H d=none->Same H H'->IsMade H' d (G7 [] (allKs R L M)) F->Q (.ref d) H'
noncomputable def baseT (L M:List Str) (q:Str):Tr:=if q∈L then (2,(L.idxOf q:Int),0) else (0,(M.idxOf q:Int),0)
noncomputable def rA (L M:List Str) (R:List Rl):List (Str×List Tr):=R.filterMap fun z=>if z.1=("as" : Str) then z.2.head?.map fun p=>(p,(z.2.drop 1).map (baseT L M)) else none
noncomputable def putsL (R:List Rl) (L M:List Str):List (Str×List Tr):=
 (L.zipIdx.map fun e=>(e.1,[((2:Int),(e.2:Int),(0:Int))]))++(M.zipIdx.map fun e=>(e.1,[((0:Int),(e.2:Int),(0:Int))]))++((E3 R).flatMap fun y=>(D6 R y).zipIdx.map fun e=>(e.1,[((2:Int),(L.idxOf y:Int),((e.2+1:Nat):Int))]))++rA L M R
noncomputable def stepF (R:List Rl) (L M:List Str) (p:Str):List Tr:=((putsL R L M).lookup p).getD []
theorem akj{p:Str}{s:List Tr} : ∀ {l:List (Str×List Tr)},(l.map (·.1)).Nodup->(p,s)∈l->l.lookup p=some s
 | [],_,h=>by cases h
 | (y,t)::l,nd,h=>by
  rw [E6,V1] at nd;rw [List.lookup_cons]
  rcases K0.mp h with h | h
  .obtain ⟨rfl,rfl⟩:=Prod.mk.inj h
   simp
  .have:p≠y:=fun e=>nd.1 (D8.mpr ⟨_,h,e⟩)
   have e:(p==y)=false:=by simpa using this
   rw [e];exact akj nd.2 h
theorem ags(R:List Rl)(L M:List Str):(putsL R L M).map (·.1)=allKs R L M:=by
 have z:∀ (l:List Str) (f:Nat->List Tr),(l.zipIdx.map fun e=>(e.1,f e.2)).map (·.1)=l:=fun l f=>by
  rw [Q6];exact List.zipIdx_map_fst 0 l
 have a:(rA L M R).map (·.1)=asKs R:=by
  unfold rA asKs;rw [List.map_filterMap]
  congr 1
  funext z
  by_cases h:z.1=("as" : Str)
  .rw [if_pos h,if_pos h]
   cases z.2 <;> rfl
  .rw [if_neg h,if_neg h];rfl
 unfold putsL allKs;rw [C9,C9,C9,z L fun i=>[(2,(i:Int),0)],z M fun i=>[(0,(i:Int),0)],a,List.map_flatMap]
 congr 2
 congr 1
 funext y
 exact z (D6 R y) fun i=>[(2,(L.idxOf y:Int),((i+1:Nat):Int))]
theorem kJ{R:List Rl}(nd:(allKs R L M).Nodup){p:Str}{s:List Tr}(h:(p,s)∈putsL R L M):stepF R L M p=s:=by
 unfold stepF;rw [akj (by rw [ags];exact nd) h];rfl
theorem aos{R:List Rl}(nd:(allKs R L M).Nodup)(gl:∀ y∈E3 R,y∈L)(ne:∀ z∈R,z.1=("as" : Str)\/z.1=("great" : Str)->z.2≠[])(pt:∀ z∈R,z.1=("as" : Str)->∀ q∈z.2.drop 1,q∈L\/q∈M):Made R L M (stepF R L M):=by
 have m1:∀ (i:Nat) y,L[i]?=some y->(y,[((2:Int),(i:Int),(0:Int))])∈putsL R L M:=fun i y h=>by
  refine Q5 _ (Q5 _ (Q5 _ (D8.mpr ⟨(y,i),?_,rfl⟩)));rw [List.mem_zipIdx_iff_getElem?];exact h
 have m2:∀ (i:Nat) y,M[i]?=some y->(y,[((0:Int),(i:Int),(0:Int))])∈putsL R L M:=fun i y h=>by
  refine Q5 _ (Q5 _ (O5 _ (D8.mpr ⟨(y,i),?_,rfl⟩)));rw [List.mem_zipIdx_iff_getElem?];exact h
 have hb:∀ q,q∈L\/q∈M->stepF R L M q=[baseT L M q]:=fun q hq=>by
  unfold baseT
  by_cases h:q∈L
  .rw [if_pos h];have hi:=dE.mpr h;exact kJ nd (m1 (L.idxOf q) q (by rw [J7 hi,fS]))
  .rw [if_neg h];have hm:=hq.resolve_left h;have hi:=dE.mpr hm;exact kJ nd (m2 (M.idxOf q) q (by rw [J7 hi,fS]))
 refine ⟨fun i y h=>kJ nd (m1 i y h),fun i y h=>kJ nd (m2 i y h),gl,fun y hy c f h=>kJ nd ?_,ne,pt,fun z hz e p qs ez=>?_⟩
 .refine Q5 _ (O5 _ (W0.mpr ⟨y,hy,D8.mpr ⟨(f,c),?_,rfl⟩⟩));rw [List.mem_zipIdx_iff_getElem?];exact h
 .have:(p,qs.map (baseT L M))∈putsL R L M:=O5 _ (jF.mpr ⟨z,hz,by rw [if_pos e,ez];rfl⟩)
  rw [kJ nd this];refine jE fun q hq=>?_
  rw [hb q (pt z hz e q (by rw [ez];exact hq))];rfl
theorem aot{g:Str->Str}{PL:List (Str×Str)}(nc:NC fg g PL):PL.Pairwise fun a b=>a.1=b.1->b.2∈mZ:=by
 rw [fP];intro i j hi hj zL e;refine (nc j PL[j].1 PL[j].2 (by rw [J7 hj])).2.1 ?_;rw [<- e];refine D8.mpr ⟨PL[i],?_,rfl⟩;rw [mB];exact ⟨i,by lia,rfl⟩
theorem nE{g:Str->Str}{PL:List (Str×Str)}(nc:NC fg g PL){p j:Str}(h:(p,j)∈PL):g p=j:=by
 obtain ⟨i,hi,e⟩:=g6.mp h;exact (nc i p j (by rw [J7 hi,e])).1.symm
theorem akk{g:Str->Str}{PL:List (Str×Str)}(nc:NC fg g PL){j:Str}(hj:j∉mZ):((PL.filter fun e=>decide (e.2=j)).map (·.1)).Nodup:=by
 rw [dC,List.pairwise_map];refine List.Pairwise.imp_of_mem ?_ ((aot nc).filter _);intro a b _ hb h e
 have:=h e
 have zM:b.2=j:=by simpa using (W9.mp hb).2
 rw [zM] at this;exact hj this
theorem rB{w:Str}(h:gK w):(jobD w=("great" : Str)↔w="great")/\(jobD w=("as" : Str)↔w="as")/\(jobD w=("letter" : Str)↔w="row")/\(jobD w=("mark" : Str)↔w="marks")/\(jobD w=("over" : Str)↔w="over"):=by
 rcases h with rfl | rfl | rfl | rfl | rfl <;> decide +kernel
theorem agu{R:List Rl}{p j:Str} : (p,j)∈C5 R↔∃ z∈R,p∈O7 z/\jobD z.1=j:=by
 unfold C5;rw [W0]
 constructor
 .rintro ⟨z,hz,h⟩;obtain ⟨q,hq,e⟩:=D8.mp h;obtain ⟨rfl,rfl⟩:=Prod.mk.inj e;exact ⟨z,hz,hq,rfl⟩
 .rintro ⟨z,hz,hp,rfl⟩;exact ⟨z,hz,D8.mpr ⟨p,hp,rfl⟩⟩
theorem nF(z:Rl)(R:List Rl):C5 (z::R)=((O7 z).map fun p=>(p,jobD z.1))++C5 R:=by
 unfold C5;rw [m3]
theorem aI{z:Rl} : (z.1=("great" : Str)->O7 z=z.2.drop 1)/\(z.1=("as" : Str)->O7 z=z.2.take 1)/\(z.1=("row" : Str)\/z.1=("marks" : Str)\/z.1=("over" : Str)->O7 z=z.2):=by
 unfold O7;refine ⟨fun h=>by rw [if_pos h],fun h=>?_,fun h=>?_⟩
 .rw [if_neg (by rw [h];decide +kernel),if_pos h]
 .rw [if_neg,if_neg,if_pos h]
  .rcases h with h | h | h <;> rw [h] <;> decide +kernel
  .rcases h with h | h | h <;> rw [h] <;> decide +kernel
theorem nG:∀ R:List Rl,((C5 R).filter fun e=>decide (e.2=("great" : Str))).map (·.1)=(J5 R).flatMap (·.2)
 | []=>rfl
 | z::R=>by
  rw [nF,bJ,C9,nG R];have e:J5 (z::R)=J5 [z]++J5 R:=bW [z] R;rw [e,Z1]
  congr 1
  by_cases h:z.1=("great" : Str)
  .obtain ⟨w,ps⟩:=z;obtain rfl:w=("great" : Str):=h;rw [aI.1 rfl,List.filter_eq_self.mpr,Q6]
   .cases ps with
    | nil=>simp [J5]
    | cons y fs=>
     rw [wD];show List.map _ fs=_;simp [Function.comp_def]
   .intro a ha;obtain ⟨q,_,rfl⟩:=D8.mp ha;exact decide_eq_true (show jobD "great"=("great" : Str) by decide +kernel)
  .rw [eG h,mC.mpr]
   .rfl
   .intro a ha;obtain ⟨q,hq,rfl⟩:=D8.mp ha
    have:=(rB (nA hq)).1
    simp only [decide_eq_true_eq];exact fun e=>h (this.mp e)
theorem rC:∀ R:List Rl,((C5 R).filter fun e=>decide (e.2=("as" : Str))).map (·.1)=asKs R
 | []=>rfl
 | z::R=>by
  rw [nF,bJ,C9,rC R];have e:asKs (z::R)=asKs [z]++asKs R:=by unfold asKs;rw [<- List.filterMap_append];rfl
  rw [e]
  congr 1
  by_cases h:z.1=("as" : Str)
  .obtain ⟨w,ps⟩:=z;obtain rfl:w=("as" : Str):=h;rw [aI.2.1 rfl,List.filter_eq_self.mpr,Q6]
   .cases ps with
    | nil=>simp [asKs]
    | cons y fs=>
     rw [ah4];rfl
   .intro a ha;obtain ⟨q,_,rfl⟩:=D8.mp ha;exact decide_eq_true (show jobD "as"=("as" : Str) by decide +kernel)
  .rw [aki h,mC.mpr]
   .rfl
   .intro a ha;obtain ⟨q,hq,rfl⟩:=D8.mp ha
    have:=(rB (nA hq)).2.1
    simp only [decide_eq_true_eq];exact fun e=>h (this.mp e)
theorem agv{R:List Rl}{w p:Str} : p∈(rowsW R w).flatten↔∃ z∈R,z.1=w/\p∈z.2:=by
 unfold rowsW;rw [List.mem_flatten]
 constructor
 .rintro ⟨l,hl,hp⟩;obtain ⟨z,hz,rfl⟩:=D8.mp hl;obtain ⟨h1,h2⟩:=W9.mp hz;exact ⟨z,h1,by simpa using h2,hp⟩
 .rintro ⟨z,hz,e,hp⟩;exact ⟨z.2,D8.mpr ⟨z,W9.mpr ⟨hz,by simpa using e⟩,rfl⟩,hp⟩
theorem mem_letter{R:List Rl}{p:Str} : (p,("letter" : Str))∈C5 R↔p∈(rowsW R "row").flatten:=by
 rw [agu,agv]
 constructor
 .rintro ⟨z,hz,hp,e⟩
  have:=(rB (nA hp)).2.2.1.mp e
  exact ⟨z,hz,this,by rw [aI.2.2 (.inl this)] at hp;exact hp⟩
 .rintro ⟨z,hz,e,hp⟩;exact ⟨z,hz,by rw [aI.2.2 (.inl e)];exact hp,by rw [e];decide +kernel⟩
theorem mem_mark{R:List Rl}{p:Str} : (p,("mark" : Str))∈C5 R↔p∈(rowsW R "marks").flatten:=by
 rw [agu,agv]
 constructor
 .rintro ⟨z,hz,hp,e⟩
  have:=(rB (nA hp)).2.2.2.1.mp e
  exact ⟨z,hz,this,by rw [aI.2.2 (.inr (.inl this))] at hp;exact hp⟩
 .rintro ⟨z,hz,e,hp⟩;exact ⟨z,hz,by rw [aI.2.2 (.inr (.inl e))];exact hp,by rw [e];decide +kernel⟩
theorem wF{zss:List (List Str)}{p:Str} : p∈toldL zss↔p∈zss.flatten:=by
 unfold toldL;rw [qN,aG]
 simp
theorem eI{R:List Rl}{w:Str}(h:P9 R w L){p:Str} : p∈L↔p∈(rowsW R w).flatten:=by
 rw [<- wF];exact ⟨h.1.sub,h.2 p⟩
structure GoodR(g:Str->Str)(r1 r2:Str->Nat)(R:List Rl):Prop where
 len:R.length<=1000
 plen:(C5 R).length<=10000
 nc:NC (hasW R "figures") g (C5 R)
 nb:(" " : Str)∉(C5 R).map (·.1)
 zl:∀ z∈R,z.2.length<=1000
 ne:∀ z∈R,z.1=("as" : Str)\/z.1=("great" : Str)->z.2≠[]
 gl:∀ z∈R,z.1=("great" : Str)->∀ p∈z.2.take 1,(p,("letter" : Str))∈C5 R
 al:∀ z∈R,z.1=("as" : Str)->∀ p∈(z.2.drop 1).take 1,(p,("letter" : Str))∈C5 R
 am:∀ z∈R,z.1=("as" : Str)->∀ p∈z.2.drop 2,(p,("letter" : Str))∈C5 R\/(p,("mark" : Str))∈C5 R
 f1:(rowsW R "row").flatten.length<=10000
 f2:(rowsW R "marks").flatten.length<=10000
 a1:∀ e∈edges (rowsW R "row"),r1 e.1<r1 e.2
 a2:∀ e∈edges (rowsW R "marks"),r2 e.1<r2 e.2
theorem GoodR.job{g:Str->Str}{r1 r2:Str->Nat}{R:List Rl}(h:GoodR g r1 r2 R){p j:Str}(hp:(p,j)∈C5 R):p∈keysP (C5 R)++V7 R/\jobG g p=.str j:=by
 have hm:p∈(C5 R).map (·.1):=D8.mpr ⟨_,hp,rfl⟩;refine ⟨Q5 _ ((qX _ _).mpr hm),?_⟩;unfold jobG;rw [if_neg (fun e=>h.nb (by rw [<- e];exact hm)),nE h.nc hp]
theorem GoodR.used{g:Str->Str}{r1 r2:Str->Nat}{R:List Rl}(h:GoodR g r1 r2 R){z:Rl}(hz:z∈R):Used (keysP (C5 R)++V7 R) (jobG g) z:=
 ⟨fun e p hp=>h.job (h.gl z hz e p hp),fun e p hp=>h.job (h.al z hz e p hp),fun e p hp=>(h.am z hz e p hp).elim (fun q=>⟨(h.job q).1,.inl (h.job q).2⟩) fun q=>⟨(h.job q).1,.inr (h.job q).2⟩⟩
theorem forms_mem{R:List Rl}{f:Str} : f∈D6 R y↔∃ e∈J5 R,e.1=y/\f∈e.2:=by
 unfold D6;rw [W0]
 constructor
 .rintro ⟨e,he,hf⟩;obtain ⟨h1,h2⟩:=W9.mp he;exact ⟨e,h1,by simpa using h2,hf⟩
 .rintro ⟨e,he,h,hf⟩;exact ⟨e,W9.mpr ⟨he,by simpa using h⟩,hf⟩
theorem mem_formKs{R:List Rl} : y∈E3 R↔∃ e∈J5 R,e.1=y:=by
 unfold E3;rw [aG,D8]
 simp
theorem amP{g:Str->Str}{r1 r2:Str->Nat}{R:List Rl}(h:GoodR g r1 r2 R)(hL:P9 R "row" L)(hM:P9 R "marks" M):(allKs R L M).Nodup:=by
 have Z:((J5 R).flatMap (·.2)).Nodup:=by rw [<- nG];exact akk h.nc (by decide +kernel)
 have jl:∀ p∈L,g p="letter":=fun p hp=>nE h.nc (mem_letter.mpr ((eI hL).mp hp))
 have jm:∀ p∈M,g p="mark":=fun p hp=>nE h.nc (mem_mark.mpr ((eI hM).mp hp))
 have jf:∀ p∈(E3 R).flatMap (D6 R),g p="great":=fun p hp=>by
  obtain ⟨y,_,hp⟩:=W0.mp hp;obtain ⟨e,he,_,hf⟩:=forms_mem.mp hp
  have:p∈(J5 R).flatMap (·.2):=W0.mpr ⟨e,he,hf⟩
  rw [<- nG] at this;obtain ⟨⟨q,j⟩,hq,rfl⟩:=D8.mp this;obtain ⟨h1,h2⟩:=W9.mp hq;have h2:j=("great" : Str):=by simpa using h2
  subst h2;exact nE h.nc h1
 have ja:∀ p∈asKs R,g p="as":=fun p hp=>by
  rw [<- rC] at hp;obtain ⟨⟨q,j⟩,hq,rfl⟩:=D8.mp hp;obtain ⟨h1,h2⟩:=W9.mp hq;have h2:j=("as" : Str):=by simpa using h2
  subst h2;exact nE h.nc h1
 have nf:((E3 R).flatMap (D6 R)).Nodup:=by
  rw [dC,List.pairwise_flatMap] at Z ⊢
  obtain ⟨z1,z2⟩:=Z;refine ⟨fun y _=>?_,?_⟩
  .unfold D6;rw [List.pairwise_flatMap];exact ⟨fun e he=>z1 e (W9.mp he).1,z2.filter _⟩
  .have nk:(E3 R).Nodup:=by unfold E3;exact vS (by simp)
   refine List.Pairwise.imp ?_ (dC.mp nk);intro y y' hyy f hf f' hf' e;subst e;obtain ⟨e1,h1,r1,f1⟩:=forms_mem.mp hf;obtain ⟨e2,h2,r2,f2⟩:=forms_mem.mp hf';obtain ⟨i,hi,q1⟩:=g6.mp h1;obtain ⟨j,hj,q2⟩:=g6.mp h2;rw [fP] at z2
   rcases Nat.lt_trichotomy i j with c | c | c
   .exact z2 i j hi hj c f (by rw [q1];exact f1) f (by rw [q2];exact f2) rfl
   .subst c;exact hyy (by rw [<- r1,<- r2,<- q1,<- q2])
   .exact z2 j i hj hi c f (by rw [q2];exact f2) f (by rw [q1];exact f1) rfl
 have na:(asKs R).Nodup:=by rw [<- rC];exact akk h.nc (by decide +kernel)
 have n1:("letter" : Str)≠"mark"/\("letter" : Str)≠"great"/\("letter" : Str)≠"as"/\("mark" : Str)≠"great"/\("mark" : Str)≠"as"/\("great" : Str)≠"as":=by decide +kernel
 unfold allKs;rw [Y2,Y2,Y2];refine ⟨⟨⟨hL.1.nodup,hM.1.nodup,fun a ha b hb e=>?_⟩,nf,fun a ha b hb e=>?_⟩,na,fun a ha b hb e=>?_⟩
 .subst e;exact n1.1 ((jl a ha).symm.trans (jm a hb))
 .subst e
  rcases G0.mp ha with ha | ha
  .exact n1.2.1 ((jl a ha).symm.trans (jf a hb))
  .exact n1.2.2.2.1 ((jm a ha).symm.trans (jf a hb))
 .subst e
  rcases G0.mp ha with ha | ha
  .rcases G0.mp ha with ha | ha
   .exact n1.2.2.1 ((jl a ha).symm.trans (ja a hb))
   .exact n1.2.2.2.2.1 ((jm a ha).symm.trans (ja a hb))
  .exact n1.2.2.2.2.2 ((jf a ha).symm.trans (ja a hb))
theorem nH{g:Str->Str}{r1 r2:Str->Nat}{R:List Rl}(h:GoodR g r1 r2 R)(hL:P9 R "row" L)(hM:P9 R "marks" M):Made R L M (stepF R L M):=by
 refine aos (amP h hL hM) (fun y hy=>?_) h.ne fun z hz e q hq=>?_
 .obtain ⟨e,he,rfl⟩:=mem_formKs.mp hy;unfold J5 at he;obtain ⟨z,hz,hh⟩:=jF.mp he
  by_cases hg:z.1=("great" : Str)
  .rw [if_pos hg] at hh;obtain ⟨w,ps⟩:=z
   cases ps with
   | nil=>cases hh
   | cons y fs=>
    have hh:=Option.some.inj hh;rw [<- hh];exact (eI hL).mpr (mem_letter.mp (h.gl _ hz hg y (by simp)))
  .rw [if_neg hg] at hh;cases hh
 .rw [<- p9 1 (z.2.drop 1)] at hq
  rcases G0.mp hq with hq | hq
  .exact .inl ((eI hL).mpr (mem_letter.mp (h.al z hz e q hq)))
  .rw [List.drop_drop] at hq
   rcases h.am z hz e q hq with h1 | h1
   .exact .inl ((eI hL).mpr (mem_letter.mp h1))
   .exact .inr ((eI hM).mpr (mem_mark.mp h1))
theorem aou{g:Str->Str}{r1 r2:Str->Nat}{R:List Rl}(h:GoodR g r1 r2 R)(hL:P9 R "row" L)(hM:P9 R "marks" M):(allKs R L M).length<=10000:=by
 refine N4 ?_ h.plen
 have:=List.Nodup.length_le_of_subset (l₂:=(C5 R).map (·.1)) (amP h hL hM) fun p hp=>by
  unfold allKs at hp
  rcases G0.mp hp with hp | hp
  .rcases G0.mp hp with hp | hp
   .rcases G0.mp hp with hp | hp
    .exact D8.mpr ⟨_,mem_letter.mpr ((eI hL).mp hp),rfl⟩
    .exact D8.mpr ⟨_,mem_mark.mpr ((eI hM).mp hp),rfl⟩
   .obtain ⟨y,_,hp⟩:=W0.mp hp;obtain ⟨e,he,_,hf⟩:=forms_mem.mp hp
    have:p∈(J5 R).flatMap (·.2):=W0.mpr ⟨e,he,hf⟩
    rw [<- nG] at this;obtain ⟨q,hq,rfl⟩:=D8.mp this;exact D8.mpr ⟨q,(W9.mp hq).1,rfl⟩
  .rw [<- rC] at hp;obtain ⟨q,hq,rfl⟩:=D8.mp hp;exact D8.mpr ⟨q,(W9.mp hq).1,rfl⟩
 rw [A6] at this;exact this
theorem akl{g:Str->Str}{r1 r2:Str->Nat}{R:List Rl}(h:GoodR g r1 r2 R)(i:Nat)(y:Str):(D6 (R.take i) y).length<=10000:=by
 refine N4 ?_ h.plen;have h1:(D6 (R.take i) y).length<=((J5 (R.take i)).flatMap (·.2)).length:=by
  unfold D6;generalize J5 (R.take i)=E
  induction E with
  | nil=>exact C3 _
  | cons e E ih=>
   rw [List.filter_cons]
   split
   .rw [m3,m3,D7,D7];lia
   .rw [m3,D7];lia
 have h2:((J5 (R.take i)).flatMap (·.2)).length<=(C5 (R.take i)).length:=by
  rw [<- nG,A6];exact List.length_filter_le _ _
 obtain ⟨more,e⟩:=ago R i;rw [e,D7];lia
theorem IsMade.mod{d:Addr}{F:Str->List Tr}{o o':HO}(h:IsMade H d ks F)(ha:H a=some o')(hn:∀ xs,o'≠.tup xs)(nd:d≠a):IsMade (A0 H a o) d ks F:=
 let ⟨ad,h1,h2⟩:=h
 ⟨ad,by rw [A7 nd];exact h1,fun y hy=>(h2 y hy).put ha hn⟩
structure IsOrd(C:Addr)(H:Hp)(x j ll ml md:Addr)(g:Str->Str)(R:List Rl)(L M:List Str):Prop where
 ob:∃ dx,H x=some (.ins C dx (ordF (hasW R "figures") (hasW R "behind") j ll ml md))
 jobs:H j=some (.dK (C2 (keysP (C5 R)++V7 R) (jobG g)))
 lets:H ll=some (.lst (L.map V.str))
 mrks:H ml=some (.lst (M.map V.str))
 made:IsMade H md (G7 [] (allKs R L M)) (stepF R L M)
 l1:P9 R "row" L
 l2:P9 R "marks" M
theorem IsOrd.same{x j:Addr}{g:Str->Str}{R:List Rl}(h:IsOrd C H x j ll ml md g R L M)(s:Same H H'):IsOrd C H' x j ll ml md g R L M:=
 ⟨let ⟨dx,e⟩:=h.ob;⟨dx,s _ _ e⟩,s _ _ h.jobs,s _ _ h.lets,s _ _ h.mrks,h.made.same s,h.l1,h.l2⟩
noncomputable def rD (C:Addr):Sp:=fun vs H Q _=>∃ (x dx a:Addr) (ts:List Addr) (R:List Rl) (g:Str->Str) (r1 r2:Str->Nat),vs=[.ref x,.ref a]/\H x=some (.ins C dx [])/\IsRules H a ts R/\GoodR g r1 r2 R/\
 ∀ j ll ml md L M H',H j=none->H ll=none->H ml=none->H md=none->SameBut x H H'->IsOrd C H' x j ll ml md g R L M->Q .non H'
noncomputable def wG (C:Addr):Sp:=fun vs H Q _=>∃ (x j ll ml md:Addr) (p:Str) (g:Str->Str) (R:List Rl) (L M:List Str),vs=[.ref x,.str p]/\IsOrd C H x j ll ml md g R L M/\Q (if p∈keysP (C5 R)++V7 R then jobG g p else .non) H
end L2
set_option maxRecDepth 100000
namespace L2
open PySem PySem.Spec PyProof.Rows
structure RulesAt(H0 H:Hp)(a:Addr)(ts:List Addr)(R:List Rl):Prop where
 rows:IsRules H a ts R
 nd:(a::ts).Nodup
 new:∀ r∈a::ts,H0 r=none
 same:Same H0 H
theorem aiP{E:List (Str×Str)}(r:U5 E ts line){e:Str×Str}(he:e∈E)(h2:e.2∈line):line.idxOf e.1<line.idxOf e.2:=by
 obtain ⟨pre,post,el⟩:=List.append_of_mem h2;obtain ⟨h3,h4,h5⟩:=kD (r pre e.2 post el);have h6:=cnt_zero.mp h5 e he rfl;rw [el,List.idxOf_append,if_pos h6,List.idxOf_append,if_neg h4]
 have:=dE.mpr h6
 lia
theorem akn{E:List (Str×Str)}(nd:ps.Nodup)(tnd:ts.Nodup)(r:U5 E ts line)(cov:∀ p∈ts,p∈line)(hm:∀ p,p∈ts↔p∈ps)(hE:∀ e∈V6 ps,e∈E):line=ps:=by
 have hl:line.length=ps.length:=by
  rw [qU tnd r cov];exact ((List.perm_ext_iff_of_nodup tnd nd).mpr fun a=>hm a).length_eq
 have E8:∀ p∈ps,p∈line:=fun p hp=>cov p ((hm p).mpr hp)
 have C4:∀ i (h:i<ps.length),line.idxOf ps[i]<ps.length:=fun i h=>by
  rw [<- hl];exact dE.mpr (E8 _ (jJ h))
 have step:∀ i (h:i+1<ps.length),line.idxOf ps[i]<line.idxOf ps[i+1]:=fun i h=>by
  have he:(ps[i],ps[i+1])∈V6 ps:=by
   have:=agk (zs:=ps) (j:=i) (x:=ps[i]) (y:=ps[i+1]) (J7 (by lia)) (by rw [List.getElem?_tail];exact J7 h)
   exact K8 this
  exact aiP r (hE _ he) (E8 _ (jJ h))
 have up:∀ i (h:i<ps.length),i<=line.idxOf ps[i]:=by
  intro i
  induction i with
  | zero=>intro h;exact F7 _
  | succ i ih=>
   intro h
   have:=ih (by lia)
   have:=step i h
   lia
 have down:∀ d i (h:i<ps.length),ps.length-1-i=d->line.idxOf ps[i]<=i:=by
  intro d
  induction d with
  | zero=>
   intro i h e
   have:=C4 i h
   lia
  | succ d ih=>
   intro i h e;have h1:=ih (i+1) (by lia) (by lia);have h2:=step i (by lia);lia
 refine List.ext_getElem hl fun i h1 h2=>?_
 have e:line.idxOf ps[i]=i:=Nat.le_antisymm (down _ i h2 rfl) (up i h2)
 have:=fS (x:=ps[i]) (xs:=line) (by rw [e];exact h1)
 simp only [e] at this;exact this
noncomputable def wH (ns:List Int) (k:Int) (p:Str):Prop:=∃ rest:List Nat,p.cps.toList=kF ns k::rest/\rest.length<=1/\∀ c∈rest,∃ m:Int,c=kF ns m
noncomputable def PcS (ns:List Int) (S:Int->Prop) (p:Str):Prop:=∃ k,S k/\wH ns k p
structure Dis(ns:List Int)(S:Int->Prop)(ps:List Str):Prop where
 nd:ps.Nodup
 pc:∀ p∈ps,PcS ns S p
 uq:∀ p∈ps,∀ q∈ps,∀ k:Int,20<=k->k<83->wH ns k p->wH ns k q->p=q
noncomputable def LetS (k:Int):Prop:=0<=k/\k<16
structure LetW(ns:List Int)(n:Int)(ps:List Str):Prop where
 n0:2<=n
 n1:n<=16
 all:∀ k:Int,0<=k->k<n->one (kF ns k)∈ps
 each:∀ p∈ps,∃ k:Int,0<=k/\k<n/\(p=one (kF ns k)\/∃ m:Int,0<=m/\m<n/\p=one (kF ns k)++one (kF ns m))
noncomputable def OthZ (ls ms:List Str) (z:Rl):Prop:=(z.1=("great" : Str)/\∃ l fs,z.2=l::fs/\l∈ls/\1<=fs.length/\fs.length<=2)\/(z.1=("as" : Str)/\∃ p q qs,z.2=p::q::qs/\q∈ls/\(∀ r∈qs,r∈ls\/r∈ms)/\qs.length<=2)\/(z.1=("over" : Str)/\z.2.length<=2)
noncomputable def GS (i:Nat) (k:Int):Prop:=(30<=k/\k<30+(i:Int))\/(34<=k/\k<34+(i:Int))
noncomputable def AS (i:Nat) (k:Int):Prop:=GS 3 k\/(40<=k/\k<40+(i:Int))
noncomputable def OS (k:Int):Prop:=AS 3 k\/(50<=k/\k<52)
structure AsR(ls ms:List Str)(H0 H:Hp)(t:Addr)(p:Str)(qs:List Str)(j:Nat):Prop where
 same:Same H0 H
 tup:H t=some (tupR ("as",p::qs))
 new:H0 t=none
 len:qs.length=j
 ok:∀ i q,qs[i]?=some q->q∈ls\/(0<i/\q∈ms)
noncomputable def MarkS (k:Int):Prop:=20<=k/\k<25
noncomputable def flagW (w:Str):Prop:=w=("figures" : Str)\/w=("behind" : Str)\/w=("blanks" : Str)
theorem flagW.no{w:Str}(h:flagW w):w≠"row"/\w≠"marks"/\w≠"great"/\w≠"as"/\w≠"over":=by
 rcases h with rfl | rfl | rfl <;> decide +kernel
theorem aiQ{w:Str}(h:flagW w):O7 (w,[])=[]:=by
 obtain ⟨n1,n2,n3,n4,n5⟩:=h.no;unfold O7;rw [if_neg n3,if_neg n4]
 split <;> rfl
structure RulP(ns:List Int)(ls ms:List Str)(b:Bool)(n:Nat)(R:List Rl):Prop where
 dis:Dis ns (fun k=>LetS k\/OS k\/(b=true/\MarkS k)) ((C5 R).map (·.1))
 row:rowsW R "row"=[ls]
 mrk:rowsW R "marks"=if b=true then [ms] else []
 each:∀ z∈R,z=(("row" : Str),ls)\/(z=(("marks" : Str),ms)/\b=true)\/OthZ ls ms z\/(z.2=[]/\flagW z.1)
 len:R.length<=n
 fig:hasW R "figures"=true->vZ ns=false
 oi:∀ z∈R,OthZ ls ms z->∀ p∈O7 z,PcS ns OS p
noncomputable def nI (R:List Rl) (p:Str):Str:=((C5 R).lookup p).getD ""
theorem agw(nd:ps.Nodup){e:Str×Str}(he:e∈V6 ps):ps.idxOf e.1<ps.idxOf e.2:=by
 unfold V6 at he;obtain ⟨i,hi,e1⟩:=g6.mp he;rw [List.getElem_zip] at e1;have aZ:i+1<ps.length:=by rw [List.length_zip,List.length_tail] at hi;lia
 have lO:i<ps.tail.length:=by rw [List.length_tail];lia
 have e3:ps.tail[i]'lO=ps[i+1]:=List.getElem_tail lO;have f1:ps[i]=e.1:=congrArg Prod.fst e1;have f2:ps[i+1]=e.2:=e3.symm.trans (congrArg Prod.snd e1);have a1:ps.idxOf ps[i]=i:=List.Nodup.idxOf_getElem nd i (by lia);have a2:ps.idxOf ps[i+1]=i+1:=List.Nodup.idxOf_getElem nd (i+1) aZ;rw [<- f1,<- f2,a1,a2];lia
structure RulG(ns:List Int)(ls ms:List Str)(R:List Rl):Prop where
 p:∃ b,RulP ns ls ms b 12 R/\(b=false->ms=[])
 l0:2<=ls.length
 l1:ls.length<=19
 ld:Dis ns LetS ls
 lw:∃ n,LetW ns n ls
 m1:ms.length<=4
 md:Dis ns MarkS ms
noncomputable def spLaw (K:PySem.W.Frag):Sp:=fun vs H Q _=>∃ (a:Addr) (ns:List Int),vs=[.ref a]/\D0 K H a (ns.map V.int)/\ns.length<=63/\∀ H',Q (.bl true) H'
end L2
set_option maxRecDepth 100000
namespace L2
open PySem PySem.Spec PyProof.Rows
noncomputable def rIntU:List V->Hp->VK->Prop
 | [.bl b],H,Q=>Q (.int (if b then 1 else 0)) H
 | [.str x],H,Q=>PySem.NumText.AllDigits x.cps.toList/\1<=x.length/\x.length<=640/\Q (.int ((mI x.cps.toList:Nat):Int)) H
 | _,_,_=>False
theorem amQ : QCall X (.type "int") rIntU:=⟨by
 intro pins s Y H xs us Q I r h
 match xs,h with
 | [.bl b],h=>exact ajo pins s Y H _ us Q I r (.inr ⟨b,rfl,h⟩)
 | [.str x],h=>
  obtain ⟨h1,h2,h3,q⟩:=h;obtain ⟨u,rfl,r1⟩:=vals1 r;obtain ⟨t,rfl⟩:=r1;have G8:x.cps.toList≠[]:=fun e=>by
   have:x.cps.toList.length=x.length:=by simp [Str.length]
   rw [e] at this;simp at this;lia
  exact PySem.W.KIN.call_text (PySem.intText_digits h1 G8 (by lia)) h3 ⟨V.int ((mI x.cps.toList:Nat):Int),H,I.tok _,⟨_,rfl⟩,q⟩⟩
theorem ari{b:Bool} : rIntU [.bl b] H Q=Q (.int (if b then 1 else 0)) H:=rfl
theorem arj{x:Str} : rIntU [.str x] H Q=(PySem.NumText.AllDigits x.cps.toList/\1<=x.length/\x.length<=640/\Q (.int ((mI x.cps.toList:Nat):Int)) H):=rfl
noncomputable def rInD (K:PySem.W.Frag) (x y:V) (H:Hp) (Q:VK):Prop:=∃ (d:PyData) (ds:List PyData),Dn K H x d/\Dn K H y (.list ds)/\min (y9 ds) d.depth<=60/\Q (.bl (ds.any fun e=>W2 e d)) H
theorem ark{y:V} : rInD K x y H Q=∃ (d:PyData) (ds:List PyData),Dn K H x d/\Dn K H y (.list ds)/\min (y9 ds) d.depth<=60/\Q (.bl (ds.any fun e=>W2 e d)) H:=rfl
end L2
set_option maxRecDepth 100000
namespace L2
open PySem PySem.Spec PyProof.Rows
open PySem.Builtin PySem.Builtin.Str PySem.StrLaws
noncomputable def rTupA (K:PySem.W.Frag):R2:=fun x y H Q=>∃ a b xs ys,x=.ref a/\y=.ref b/\B1 K H a xs/\B1 K H b ys/\ys≠[]/\xs.length+ys.length<=sizeLine/\∀ p H',Same H H'->B1 K H' p (xs++ys)->(H' p=some (.tup (xs++ys))\/xs=[]/\p=b)->Q (.ref p) H'
theorem arl : rTupA K (.ref a) (.ref b) H Q=∃ xs ys,B1 K H a xs/\B1 K H b ys/\ys≠[]/\xs.length+ys.length<=sizeLine/\∀ p H',Same H H'->B1 K H' p (xs++ys)->(H' p=some (.tup (xs++ys))\/xs=[]/\p=b)->Q (.ref p) H':=
 propext ⟨fun ⟨_,_,xs,ys,e1,e2,h⟩=>(by cases e1;cases e2;exact ⟨xs,ys,h⟩),fun ⟨xs,ys,h⟩=>⟨a,b,xs,ys,rfl,rfl,h⟩⟩
end L2
set_option maxRecDepth 100000
namespace L2
open PySem PySem.Spec PyProof.Rows
theorem arm{d:Value}(h:(us++[d]).length=3):∃ u1 u2,us=[u1,u2]:=by
 match us,h with
 | [a,b],_=>exact ⟨a,b,rfl⟩
 | [],h=>simp at h
 | [_],h=>simp at h
 | _::_::_::r,h=>simp at h
theorem kK(g:List Str)(z:Str):(valV (kvOf g) (Sum.inr z)).isSome=decide (z∈g):=by
 rw [<- vF];unfold valV;rw [jN,List.isSome_find?]
theorem wI{y rest:List Nat}(h:z.cps.toList=pre++(y++rest)):cutS z (some (pre.length:Int)) (some ((pre.length:Int)+(y.length:Int)))=⟨y.toArray⟩:=by
 have hl:z.length=pre.length+(y.length+rest.length):=by
  have:=congrArg Z3 h
  simp [Str.length] at this ⊢
  lia
 apply Str.ext'
 apply Array.toList_inj.mp
 rw [agc,h];have e1:HT.sIx z.length 0 (some (pre.length:Int))=pre.length:=by rw [HT.sIx_nat];lia
 have e2:HT.sIx z.length z.length (some ((pre.length:Int)+(y.length:Int)))=pre.length+y.length:=by
  rw [show (pre.length:Int)+(y.length:Int)=((pre.length+y.length:Nat):Int) by lia,HT.sIx_nat];lia
 rw [e1,e2,List.drop_left,show pre.length+y.length-pre.length=y.length by lia,List.take_left]
theorem agx{c:Nat}(h:z.cps.toList=pre++[c]):cutS z (some (pre.length:Int)) (some ((pre.length:Int)+2))=one c:=by
 have hl:z.length=pre.length+1:=by
  have:=congrArg Z3 h
  simp [Str.length] at this ⊢
  lia
 apply Str.ext'
 apply Array.toList_inj.mp
 rw [agc,h];have e1:HT.sIx z.length 0 (some (pre.length:Int))=pre.length:=by rw [HT.sIx_nat];lia
 have e2:HT.sIx z.length z.length (some ((pre.length:Int)+2))=pre.length+1:=by
  rw [show (pre.length:Int)+2=((pre.length+2:Nat):Int) by lia,HT.sIx_nat];lia
 rw [e1,e2,List.drop_left,show pre.length+1-pre.length=1 by lia];rfl
theorem ako{r:List Nat}{c:Nat} : G2 (pre++c::r) (pre.length:Int)=some c:=K9 (by rw [fO (C3 _),Nat.sub_self];rfl)
theorem afc:∀ (zs acc:List Str),X4 (kvOf acc) (kvOf zs)=kvOf (G7 acc zs)
 | [],acc=>rfl
 | z::zs,acc=>by
  show X4 (putK (kvOf acc) (Sum.inr z) (.bl true)) (kvOf zs)=kvOf (G7 (dd acc z) zs);rw [aga,afc zs]
noncomputable def akp:Sp:=fun vs H Q _=>∃ (z:Str) (pre rest:List Nat),vs=[.str z,.int pre.length]/\z.length<=1000/\z.cps.toList=pre++rest/\Q (.str ⟨(rest.takeWhile figO).toArray⟩) H
theorem amb(h:(us++[]).length=3):∃ u1 u2 u3,us=[u1,u2,u3]:=by
 match us,h with
 | [a,b,c],_=>exact ⟨a,b,c,rfl⟩
 | [],h=>simp at h
 | [_],h=>simp at h
 | [_,_],h=>simp at h
 | _::_::_::_::r,h=>simp at h
theorem lenL(z:Str):z.cps.toList.length=z.length:=by simp [Str.length]
noncomputable def partG (g:List Str):List Nat->Option Str
 | []=>none
 | [c]=>if one c∈g then some (one c) else none
 | c::d::_=>if two c d∈g then some (two c d) else if one c∈g then some (one c) else none
theorem kL(g:List Str)(c:Nat):partG g [c]=if one c∈g then some (one c) else none:=rfl
theorem kM(g:List Str)(c d:Nat)(r:List Nat):partG g (c::d::r)=if two c d∈g then some (two c d) else if one c∈g then some (one c) else none:=rfl
noncomputable def partF (w:Bool) (g:List Str):List Nat->Option Str
 | []=>none
 | c::r=>if (w&&figO c)=true then some ⟨((c::r).takeWhile figO).toArray⟩ else partG g (c::r)
theorem kN(w:Bool)(g:List Str)(c:Nat)(r:List Nat):partF w g (c::r)=if (w&&figO c)=true then some ⟨((c::r).takeWhile figO).toArray⟩ else partG g (c::r):=rfl
theorem afd{g:List Str} : ∀ {l:List Nat},partG g l=some y->∃ rest,l=y.cps.toList++rest/\1<=y.length
 | [],h=>by cases h
 | [c],h=>by
  rw [kL] at h
  by_cases hc:one c∈g
  .rw [if_pos hc] at h;cases h;exact ⟨[],rfl,by show 1<=1;decide⟩
  .rw [if_neg hc] at h;cases h
 | c::d::r,h=>by
  rw [kM] at h
  by_cases h2:two c d∈g
  .rw [if_pos h2] at h;cases h;exact ⟨r,rfl,by show 1<=2;decide⟩
  .rw [if_neg h2] at h
   by_cases hc:one c∈g
   .rw [if_pos hc] at h;cases h;exact ⟨d::r,rfl,by show 1<=1;decide⟩
   .rw [if_neg hc] at h;cases h
theorem aha{g:List Str}(h:∀ x,x∈g↔x∈g'):∀ l,partG g l=partG g' l
 | []=>rfl
 | [c]=>by
  rw [kL,kL]
  by_cases hc:one c∈g
  .rw [if_pos hc,if_pos ((h _).mp hc)]
  .rw [if_neg hc,if_neg (fun z=>hc ((h _).mpr z))]
 | c::d::r=>by
  rw [kM,kM]
  by_cases h2:two c d∈g
  .rw [if_pos h2,if_pos ((h _).mp h2)]
  .rw [if_neg h2,if_neg (fun z=>h2 ((h _).mpr z))]
   by_cases hc:one c∈g
   .rw [if_pos hc,if_pos ((h _).mp hc)]
   .rw [if_neg hc,if_neg (fun z=>hc ((h _).mpr z))]
theorem ahb{w:Bool}{g:List Str}(h:∀ x,x∈g↔x∈g')(l:List Nat):partF w g l=partF w g' l:=by
 cases l with
 | nil=>rfl
 | cons c r=>rw [kN,kN,aha h]
theorem afe{w:Bool}{g:List Str}{l:List Nat}(h:partF w g l=some y):∃ rest,l=y.cps.toList++rest/\1<=y.length:=by
 cases l with
 | nil=>cases h
 | cons c r=>
  rw [kN] at h
  by_cases hw:(w&&figO c)=true
  .rw [if_pos hw] at h;cases h;rw [Z5] at hw;refine ⟨(c::r).dropWhile figO,(List.takeWhile_append_dropWhile).symm,?_⟩;show 1<=((c::r).takeWhile figO).length;rw [List.takeWhile_cons_of_pos hw.2]
   simp
  .rw [if_neg hw] at h;exact afd h
noncomputable def cutFn (w:Bool) (g:List Str):Nat->List Nat->Nat×List Str
 | 0,_=>(0,[])
 | n+1,l=>match partF w g l with
  | none=>(0,[])
  | some y=>((cutFn w g n (l.drop y.length)).1+y.length,y::(cutFn w g n (l.drop y.length)).2)
noncomputable def cutF (w:Bool) (g:List Str) (l:List Nat):Nat×List Str:=cutFn w g l.length l
theorem aff(w:Bool)(g:List Str):∀ (n m:Nat) (l:List Nat),l.length<=n->l.length<=m->cutFn w g n l=cutFn w g m l
 | 0,0,_,_,_=>rfl
 | 0,m+1,l,h,_=>by
  have:l=[]:=dF.mp (by lia)
  subst this;rfl
 | n+1,0,l,_,h=>by
  have:l=[]:=dF.mp (by lia)
  subst this;rfl
 | n+1,m+1,l,h1,h2=>by
  cases e:partF w g l with
  | none=>show (match partF w g l with | none=>_ | some y=>_)=(match partF w g l with | none=>_ | some y=>_);rw [e]
  | some y=>
   obtain ⟨rest,e1,e2⟩:=afe e;have hd:(l.drop y.length).length=l.length-y.length:=y4
   have:=aff w g n m (l.drop y.length) (by lia) (by lia)
   show (match partF w g l with | none=>_ | some y=>_)=(match partF w g l with | none=>_ | some y=>_);rw [e]
   dsimp only
   rw [this]
theorem nJ{w:Bool}{g:List Str}{l:List Nat}(h:partF w g l=none):cutF w g l=(0,[]):=by
 unfold cutF;cases hl:l.length with
 | zero=>rfl
 | succ n=>
  show (match partF w g l with | none=>_ | some y=>_)=_;rw [h]
theorem nK(w:Bool)(g:List Str):cutF w g []=(0,[]):=rfl
theorem kO{w:Bool}{g:List Str}{l:List Nat}(h:partF w g l=some y):∃ rest,l=y.cps.toList++rest/\cutF w g l=((cutF w g rest).1+y.length,y::(cutF w g rest).2)/\1<=y.length:=by
 obtain ⟨rest,e1,e2⟩:=afe h;refine ⟨rest,e1,?_,e2⟩;have el:l.length=y.length+rest.length:=by rw [e1,D7,lenL]
 have ed:l.drop y.length=rest:=by rw [e1,<- lenL,List.drop_left]
 unfold cutF;cases hl:l.length with
 | zero=>lia
 | succ k=>
  show (match partF w g l with | none=>_ | some y=>_)=_;rw [h]
  dsimp only
  rw [ed,aff w g k rest.length rest (by lia) (C3 _)]
theorem aiR{w:Bool}{g:List Str}(h:∀ x,x∈g↔x∈g')(l:List Nat):cutF w g l=cutF w g' l:=by
 have:∀ n l,cutFn w g n l=cutFn w g' n l:=by
  intro n
  induction n with
  | zero=>intro l;rfl
  | succ n ih=>
   intro l;show (match partF w g l with | none=>_ | some y=>_)=(match partF w g' l with | none=>_ | some y=>_);rw [ahb h]
   cases partF w g' l with
   | none=>rfl
   | some y=>dsimp only;rw [ih]
 exact this _ _
theorem wJ{w:Bool}{g:List Str} : ∀ (n:Nat) (l:List Nat),l.length<=n->(cutF w g l).1<=l.length/\(cutF w g l).2.length<=l.length/\∀ y∈(cutF w g l).2,∀ c∈y.cps.toList,c∈l
 | 0,l,h=>by
  have:l=[]:=dF.mp (by lia)
  subst this;rw [nK];exact ⟨C3 _,C3 _,by simp⟩
 | n+1,l,h=>by
  cases e:partF w g l with
  | none=>rw [nJ e];exact ⟨F7 _,F7 _,by simp⟩
  | some y=>
   obtain ⟨rest,e1,e2,e3⟩:=kO e;have hl:l.length=y.length+rest.length:=by rw [e1,D7,lenL]
   obtain ⟨a,b,c⟩:=wJ (w:=w) (g:=g) n rest (by lia);rw [e2];refine ⟨by dsimp only;lia,by dsimp only;rw [J9];lia,fun z hz x hx=>?_⟩;rw [e1]
   rcases K0.mp hz with r | r
   .rw [r] at hx;exact G0.mpr (.inl hx)
   .exact G0.mpr (.inr (c z r x hx))
noncomputable def aJ (w:Bool) (g:List Str) (z:Str):Prop:=(cutF w g z.cps.toList).1=z.length
noncomputable def akq:Sp:=fun vs H Q _=>∃ (d:Addr) (z:Str) (g:List Str) (pre:List Nat) (c:Nat) (r:List Nat) (w:Bool) (y:Str),vs=[.ref d,.str z,.int pre.length,.bl w]/\H d=some (.dK (kvOf g))/\z.length<=1000/\z.cps.toList=pre++c::r/\partF w g (c::r)=some y/\Q (.str y) H
noncomputable def rE (K:PySem.W.Frag):Sp:=fun vs H Q _=>∃ (a:Addr) (z:Str) (ks:List Str) (w:Bool),vs=[.ref a,.str z,.bl w]/\D0 K H a (ks.map V.str)/\ks.length<=1000/\z.length<=1000/\aJ w ks z/\
 ∀ l H',H l=none->Same H H'->H' l=some (.lst ((cutF w ks z.cps.toList).2.map V.str))->Q (.ref l) H'
noncomputable abbrev G5:=Int×Int×List Int×Int
noncomputable def addM (U:List G5) (p:Int):List G5:=match U.getLast? with
 | none=>[(0,0,[p],0)]
 | some u=>U.dropLast++[(u.1,u.2.1,u.2.2.1++[p],u.2.2.2)]
noncomputable def addS (U:List G5) (s:Tr):List G5:=if s.1=0 then addM U s.2.1 else U++[(s.1,s.2.1,[],s.2.2)]
noncomputable def UnAt (H:Hp) (e:Addr×Addr) (u:G5):Prop:=H e.1=some (.tup [.int u.1,.int u.2.1,.ref e.2,.int u.2.2.2])/\H e.2=some (.lst (u.2.2.1.map V.int))
structure UnI(H0 H:Hp)(l:Addr)(es:List (Addr×Addr))(U:List G5):Prop where
 top:H l=some (.lst (es.map fun e=>V.ref e.1))
 row:Paired (UnAt H) es U
 nd:(l::es.map (·.2)).Nodup
 new:∀ a∈l::es.map (·.2),H0 a=none
 same:Same H0 H
theorem UnI.more{l:Addr}{es:List (Addr×Addr)}{U:List G5}(h:UnI H0 H l es U)(S:Same H H'):UnI H0 H' l es U:=⟨S _ _ h.top,N5 h.row fun _ _ e=>⟨S _ _ e.1,S _ _ e.2⟩,h.nd,h.new,h.same.trans S⟩
theorem UnI.live{l:Addr}{es:List (Addr×Addr)}{U:List G5}(h:UnI H0 H l es U)(ha:a∈es.map (·.2)):∃ xs,H a=some (.lst xs):=by
 obtain ⟨e,he,rfl⟩:=D8.mp ha;obtain ⟨i,hi,q⟩:=g6.mp he;obtain ⟨u,_,hu⟩:=Paired.at h.row (i:=i) (a:=e) (by rw [J7 hi,q]);exact ⟨_,hu.2⟩
theorem UnI.push{l m t:Addr}{es:List (Addr×Addr)}{U:List G5}(h:UnI H0 H l es U)(nm:H m=none){k w c:Int}(nt:A0 H m (.lst []) t=none) :
  UnI H0 (A0 (A0 (A0 H m (.lst [])) t (.tup [.int k,.int w,.ref m,.int c])) l (.lst ((es.map fun e=>V.ref e.1)++[V.ref t]))) l (es++[(t,m)]) (U++[(k,w,[],c)]):=by
 have nlm:l≠m:=fun e=>by have:=h.top;rw [e,nm] at this;cases this
 have nmt:m≠t:=fun e=>by rw [<- e,A3] at nt;cases nt
 have S:Same H (A0 (A0 H m (.lst [])) t (.tup [.int k,.int w,.ref m,.int c])):=(Same.new nm).trans (Same.new nt);have hl:=S _ _ h.top;have nlt:l≠t:=fun e=>by rw [<- e,(Same.new nm) _ _ h.top] at nt;cases nt
 have sV:=V1.mp h.nd;refine ⟨by rw [A3,C9];rfl,Paired.snoc (qO h.row fun e he u hu=>⟨?_,?_⟩) ⟨?_,?_⟩,?_,fun a ha=>?_,(h.same.trans S).put (h.new l N3)⟩
 .rw [A7 (fun q=>by have:=S _ _ hu.1;rw [q,hl] at this;cases this)];exact S _ _ hu.1
 .rw [A7 (fun q=>sV.1 (by rw [<- q];exact D8.mpr ⟨e,he,rfl⟩))];exact S _ _ hu.2
 .rw [A7 nlt.symm,A3]
 .rw [A7 nlm.symm,A7 nmt,A3];rfl
 .rw [C9];exact uU h.nd fun q=>by
   rcases K0.mp q with q | q
   .exact nlm q.symm
   .obtain ⟨xs,hx⟩:=h.live q;rw [nm] at hx;cases hx
 .rw [C9] at ha
  rcases K0.mp ha with q | q
  .rw [q];exact h.new l N3
  .rcases G0.mp q with q | q
   .exact h.new a (N9 _ q)
   .rw [E4.mp q];exact h.same.free nm
theorem UnI.mark{l:Addr}{es:List (Addr×Addr)}{e:Addr×Addr}{U:List G5}{u:G5}(h:UnI H0 H l (es++[e]) (U++[u]))(p:Int) :
  UnI H0 (A0 H e.2 (.lst (u.2.2.1.map V.int++[V.int p]))) l (es++[e]) (U++[(u.1,u.2.1,u.2.2.1++[p],u.2.2.2)]):=by
 obtain ⟨hr,he⟩:=vH h.row;have sV:=h.nd;have nl:l≠e.2:=fun q=>(V1.mp sV).1 (by rw [q];simp)
 have nn:∀ x∈es,x.2≠e.2:=fun x hx q=>by
  have:=(V1.mp sV).2
  rw [C9,Y2] at this;exact this.2.2 x.2 (D8.mpr ⟨x,hx,rfl⟩) e.2 (by simp) q
 have nt:∀ {x:Addr×Addr} {v:G5},UnAt H x v->x.1≠e.2:=fun {x v} hx q=>by
  have:=hx.1;rw [q,he.2] at this;cases this
 refine ⟨by rw [A7 nl];exact h.top,Paired.snoc (qO hr fun x hx v hv=>⟨?_,?_⟩) ⟨?_,?_⟩,h.nd,h.new,h.same.put (h.new _ (N9 _ (by simp)))⟩
 .rw [A7 (nt hv)];exact hv.1
 .rw [A7 (nn x hx)];exact hv.2
 .rw [A7 (nt he)];exact he.1
 .rw [A3,C9];rfl
noncomputable def IsUn (H:Hp) (l:Addr) (U:List G5):Prop:=∃ es:List (Addr×Addr),H l=some (.lst (es.map fun e=>V.ref e.1))/\Paired (fun e (u:G5)=>H e.1=some (.tup [.int u.1,.int u.2.1,.ref e.2,.int u.2.2.2])/\H e.2=some (.tup (u.2.2.1.map V.int))) es U
noncomputable def G1 (R:List Rl):List Str:=keysP (C5 R)++V7 R
noncomputable def Q0 (S:Str->List Tr) (ps:List Str):List G5:=(ps.flatMap S).foldl addS []
noncomputable def wK (C:Addr):Sp:=fun vs H Q _=>∃ (x j ll ml md:Addr) (g:Str->Str) (R:List Rl) (L M:List Str),vs=[.ref x]/\IsOrd C H x j ll ml md g R L M/\∀ l,H l=none->Q (.ref l) (A0 H l (.lst ((G1 R).map V.str)))
noncomputable def nM (C:Addr):Sp:=fun vs H Q _=>∃ (x j ll ml md:Addr) (p:Str) (g:Str->Str) (R:List Rl) (L M:List Str),vs=[.ref x,.str p]/\IsOrd C H x j ll ml md g R L M/\∀ r H',Same H H'->StepAt H' r (stepF R L M p)->Q (.ref r) H'
noncomputable def ah8 (C:Addr):Sp:=fun vs H Q _=>∃ (x j ll ml md:Addr) (z:Str) (g:Str->Str) (R:List Rl) (L M:List Str),vs=[.ref x,.str z]/\IsOrd C H x j ll ml md g R L M/\(G1 R).length<=1000/\z.length<=1000/\aJ (hasW R "figures") (G1 R) z/\
 ∀ l H',H l=none->Same H H'->H' l=some (.lst ((cutF (hasW R "figures") (G1 R) z.cps.toList).2.map V.str))->Q (.ref l) H'
theorem aiS{R:List Rl}{p:Str}(h:p∉allKs R L M):stepF R L M p=[]:=by
 unfold stepF
 have:(putsL R L M).lookup p=none:=by
  rw [List.lookup_eq_none_iff];intro e he
  have:e.1∈allKs R L M:=by rw [<- ags];exact D8.mpr ⟨e,he,rfl⟩
  have ne:p≠e.1:=fun q=>h (by rw [q];exact this)
  simpa using ne
 rw [this];rfl
noncomputable def stepY (R:List Rl) (L M:List Str) (y:Str):List Tr:=if (hasW R "figures" && figO (y.cps.toList.headD 0))=true then [(1,((mI y.cps.toList:Nat):Int),0)] else stepF R L M y
theorem ah9{R:List Rl}(h:hasW R "figures"=false)(L M:List Str):stepY R L M=stepF R L M:=by
 funext y
 unfold stepY;rw [h,Bool.false_and,if_neg L5]
noncomputable def FigR (y:Str):Prop:=figO (y.cps.toList.headD 0)=true->PySem.NumText.AllDigits y.cps.toList
noncomputable def agy (C:Addr):Sp:=fun vs H Q _=>∃ (x j ll ml md:Addr) (c:Nat) (r:List Nat) (y:Str) (g:Str->Str) (R:List Rl) (L M:List Str),vs=[.ref x,.str y]/\y.cps.toList=c::r/\y.length<=640/\IsOrd C H x j ll ml md g R L M/\(hasW R "figures"=true->FigR y)/\∀ r H',Same H H'->StepAt H' r (stepY R L M y)->Q (.ref r) H'
noncomputable def agz (K:PySem.W.Frag):Sp:=fun vs H Q _=>∃ (l:Addr) (p:Int) (H0:Hp) (es:List (Addr×Addr)) (U:List G5),vs=[.ref l,.int p]/\UnI H0 H l es U/\U.length<=10000/\(∀ u∈U,u.2.2.1.length<=10000)/\∀ es' H',UnI H0 H' l es' (addM U p)->Q .non H'
noncomputable def agA (C:Addr):Sp:=fun vs H Q _=>∃ (x l j ll ml md:Addr) (c:Nat) (r:List Nat) (y:Str) (g:Str->Str) (R:List Rl) (L M:List Str) (H0:Hp) (es:List (Addr×Addr)) (U:List G5),vs=[.ref x,.ref l,.str y]/\y.cps.toList=c::r/\y.length<=640/\IsOrd C H0 x j ll ml md g R L M/\(hasW R "figures"=true->FigR y)/\UnI H0 H l es U/\(stepY R L M y).length<=1000/\U.length<=9000/\(∀ u∈U,u.2.2.1.length<=9000)/\
 ∀ es' H',UnI H0 H' l es' ((stepY R L M y).foldl addS U)->Q .non H'
theorem amc{U:List G5}{p:Int} : (addM U p).length<=U.length+1:=by
 unfold addM;cases e:U.getLast? with
 | none=>simp
 | some u=>simp only [D7,List.length_dropLast,Z0];lia
theorem aiT{U:List G5}{p:Int}(h:∀ u∈U,u.2.2.1.length<=n):∀ u∈addM U p,u.2.2.1.length<=n+1:=by
 unfold addM;cases e:U.getLast? with
 | none=>intro u hu;rw [E4.mp hu];simp
 | some v=>
  intro u hu
  rcases G0.mp hu with q | q
  .have:=h u ((List.dropLast_sublist U).subset q);lia
  .rw [E4.mp q]
   have:=h v (List.mem_of_getLast? e)
   simp only [D7,Z0];lia
theorem amd{U:List G5}{s:Tr} : (addS U s).length<=U.length+1:=by
 unfold addS
 split
 .exact amc
 .simp
theorem aiU{U:List G5}{s:Tr}(h:∀ u∈U,u.2.2.1.length<=n):∀ u∈addS U s,u.2.2.1.length<=n+1:=by
 unfold addS
 split
 .exact aiT h
 .intro u hu
  rcases G0.mp hu with q | q
  .have:=h u q;lia
  .rw [E4.mp q];exact F7 _
theorem wL:∀ (ss:List Tr) (U:List G5),(ss.foldl addS U).length<=U.length+ss.length
 | [],U=>C3 _
 | s::ss,U=>by
  rw [jK,J9];have h1:=wL ss (addS U s);have h2:=amd (U:=U) (s:=s);lia
theorem wM:∀ (ss:List Tr) (U:List G5) (n:Nat),(∀ u∈U,u.2.2.1.length<=n)->∀ u∈ss.foldl addS U,u.2.2.1.length<=n+ss.length
 | [],U,n,h=>h
 | s::ss,U,n,h=>by
  intro u hu
  have:=wM ss (addS U s) (n+1) (aiU h) u hu
  rw [J9];lia
theorem akr(f b:Bool)(j ll ml md:Addr):(ordF f b j ll ml md).lookup ("made" : Str)=some (V.ref md):=by
 unfold ordF;rw [O3,if_pos rfl]
noncomputable def cutH (H:Hp) (as:List Addr):Hp:=fun a=>if a∈as then none else H a
theorem agB(H:Hp)(as:List Addr):Same (cutH H as) H:=fun a o h=>by
 unfold cutH at h
 by_cases q:a∈as
 .rw [if_pos q] at h;cases h
 .rw [if_neg q] at h;exact h
theorem UnI.base{l:Addr}{es:List (Addr×Addr)}{U:List G5}(S:Same H0 H1)(h:UnI H1 H l es U):UnI H0 H l es U:=⟨h.top,h.row,h.nd,fun a ha=>S.free (h.new a ha),S.trans h.same⟩
theorem UnI.cut{l:Addr}{es:List (Addr×Addr)}{U:List G5}(h:UnI H0 H l es U):∃ H1,Same H0 H1/\UnI H1 H l es U/\∀ a xs,H a=some (.tup xs)->H1 a=some (.tup xs):=by
 refine ⟨cutH H (l::es.map (fun e=>e.2)),fun a o ha=>?_,⟨h.top,h.row,h.nd,fun a ha=>by unfold cutH;exact if_pos ha,agB _ _⟩,fun a xs ha=>?_⟩
 .unfold cutH;rw [if_neg (fun q=>by rw [h.new a q] at ha;cases ha)];exact h.same _ _ ha
 .unfold cutH;rw [if_neg fun q=>?_]
  .exact ha
  .rcases K0.mp q with q | q
   .rw [q,h.top] at ha;cases ha
   .obtain ⟨ys,hy⟩:=h.live q;rw [hy] at ha;cases ha
theorem aiV{α β:Type}{F:α->β->Prop}{m:List β}(h:Paired F [] m):m=[]:=by cases h;rfl
theorem wN{α:Type}{l:List α}(h:l≠[]):∃ l' x,l=l'++[x]:=⟨l.dropLast,l.getLast h,(List.dropLast_concat_getLast h).symm⟩
noncomputable def aks (C:Addr):Sp:=fun vs H Q _=>∃ (x j ll ml md:Addr) (z:Str) (g:Str->Str) (R:List Rl) (L M:List Str),vs=[.ref x,.str z]/\IsOrd C H x j ll ml md g R L M/\(G1 R).length<=1000/\z.length<=500/\aJ (hasW R "figures") (G1 R) z/\(∀ y,(stepY R L M y).length<=15)/\
 ∀ l H',H l=none->Same H H'->IsUn H' l (Q0 (stepY R L M) (cutF (hasW R "figures") (G1 R) z.cps.toList).2)->Q (.ref l) H'
noncomputable def wO (n:Nat) (fr:St) (Pv:Nat->List V->Hp->Prop) (i:Nat) (ys:List V) (σ2:St) (H2:Hp):Prop:=i<=n/\ys.length<=i/\(∃ v0 v1 v2 v3,σ2=v0::v1::v2::v3::fr)/\Pv i ys H2
theorem arn(fr:St)(k6:compStart 4 ixs Y=none::none::none::none::fr)(Pv:Addr->Nat->List V->Hp->Prop)(h0:∀ D,H1 D=none->Pv D 0 [] (A0 H1 D (.lst [])))(hl:∀ D i ys H,H1 D=none->i<=xs.length->Pv D i ys H->D0 K H a xs)(hs:∀ D i x ys H,H1 D=none->i<xs.length->xs[i]?=some x->Pv D i ys H->H D=some (.lst ys)->ys.length<=i->∃ t v0 v1 v2 v3,x=.ref t/\B1 K H t [v0,v1,v2,v3]/\c (some v0::some v1::some v2::some v3::fr) H fun b H4=>
   if b=true then te (some v0::some v1::some v2::some v3::fr) H4 fun y H5=>H5 D=some (.lst ys)/\ys.length<sizeLine/\wO xs.length fr (Pv D) (i+1) (ys++[y]) (some v0::some v1::some v2::some v3::fr) (A0 H5 D (.lst (ys++[y])))
   else H4 D=some (.lst ys)/\wO xs.length fr (Pv D) (i+1) ys (some v0::some v1::some v2::some v3::fr) H4)(hd:∀ D ys H,H1 D=none->Pv D xs.length ys H->H D=some (.lst ys)->ys.length<=xs.length->Q (.ref D) H):dW (z9 K a) 4 ixs (gTup K 4 (gCons (gName 0) (gCons (gName 1) (gCons (gName 2) (gCons (gName 3) gNil))))) c te Y Q H1:=by
 intro D hD;refine ⟨xs.length,wO xs.length fr (Pv D),⟨F7 _,F7 _,⟨none,none,none,none,k6⟩,h0 D hD⟩,?_⟩;rintro i ys σ2 H2 ⟨hi,hy,⟨w0,w1,w2,w3,rfl⟩,p⟩ hDy;have q:=hl D i ys H2 hD hi p
 by_cases C4:i<xs.length
 .refine .inr ⟨C4,⟨xs,xs[i],q,by simp [C4]⟩,fun x H' y=>?_⟩;obtain ⟨e,y⟩:=y;subst e;obtain ⟨t,v0,v1,v2,v3,rfl,ht,z⟩:=hs D i x ys _ hD C4 (y xs q) p hDy hy;exact ⟨t,_,rfl,ht,rfl,_,_,rfl,_,_,rfl,_,_,rfl,_,_,rfl,rfl,z⟩
 .have e:i=xs.length:=by lia
  subst e;exact .inl ⟨⟨xs,q,C3 _⟩,hd D ys H2 hD p hDy hy⟩
theorem akt{w:Bool}{g:List Str} : ∀ (n:Nat) (l:List Nat),l.length<=n->∀ y∈(cutF w g l).2,1<=y.length
 | 0,l,h,y,hy=>by
  have:l=[]:=dF.mp (by lia)
  subst this;rw [nK] at hy;cases hy
 | n+1,l,h,y,hy=>by
  cases e:partF w g l with
  | none=>rw [nJ e] at hy;cases hy
  | some x=>
   obtain ⟨rest,e1,e2,e3⟩:=kO e;rw [e2] at hy
   rcases K0.mp hy with q | q
   .rw [q];exact e3
   .refine akt n rest ?_ y q
    have:=congrArg Z3 e1
    rw [D7,lenL] at this;lia
theorem ahd{S:Str->List Tr}(h:ps[i]?=some y):Q0 S (ps.take (i+1))=(S y).foldl addS (Q0 S (ps.take i)):=by
 unfold Q0;rw [M0 h,Z1,y3,m3,List.flatMap_nil,M3]
theorem wP{S:Str->List Tr}(hs:∀ y,(S y).length<=15):∀ (ps:List Str),(Q0 S ps).length<=15*ps.length/\∀ u∈Q0 S ps,u.2.2.1.length<=15*ps.length:=fun ps=>by
 have h0:(ps.flatMap S).length<=15*ps.length:=by
  induction ps with
  | nil=>exact C3 _
  | cons p ps ih=>
   rw [m3,D7,J9]
   have:=hs p
   lia
 have h1:=wL (ps.flatMap S) [];have h2:=wM (ps.flatMap S) [] 0 (by simp);unfold Q0;rw [Z2] at h1;exact ⟨by lia,fun u hu=>by have:=h2 u hu;lia⟩
theorem agC{w:Bool}{g:List Str} : ∀ (n:Nat) (l:List Nat),l.length<=n->∀ y∈(cutF w g l).2,y.length<=l.length
 | 0,l,h,y,hy=>by
  have:l=[]:=dF.mp (by lia)
  subst this;rw [nK] at hy;cases hy
 | n+1,l,h,y,hy=>by
  cases e:partF w g l with
  | none=>rw [nJ e] at hy;cases hy
  | some x=>
   obtain ⟨rest,e1,e2,e3⟩:=kO e;rw [e2] at hy;have hl:=congrArg Z3 e1;rw [D7,lenL] at hl
   rcases K0.mp hy with q | q
   .rw [q];lia
   .have:=agC n rest (by lia) y q
    lia
theorem amR{p:Nat->Bool}{d:Nat} : ∀ {l:List Nat},d∈l.takeWhile p->p d=true
 | [],h=>by cases h
 | c::r,h=>by
  rw [List.takeWhile_cons] at h
  by_cases hc:p c=true
  .rw [if_pos hc] at h
   rcases K0.mp h with q | q
   .rw [q];exact hc
   .exact amR q
  .rw [if_neg hc] at h;cases h
theorem aku{w:Bool}{g:List Str}{l:List Nat}(h:partF w g l=some y):w=true->FigR y:=by
 intro hw hf
 cases l with
 | nil=>cases h
 | cons c r=>
  rw [kN,hw,Bool.true_and] at h
  by_cases hc:figO c=true
  .rw [if_pos hc] at h;obtain rfl:=Option.some.inj h;intro d hd;have hd:d∈(c::r).takeWhile figO:=by simpa using hd
   have:=amR hd
   unfold figO at this;rw [Z5,decide_eq_true_eq,decide_eq_true_eq] at this;exact this
  .exfalso
   rw [if_neg hc] at h;obtain ⟨rest,e,hl⟩:=afd h
   have:y.cps.toList.headD 0=c:=by
    cases hy:y.cps.toList with
    | nil=>rw [<- lenL,hy] at hl;simp at hl
    | cons d t=>rw [hy] at e;exact (List.cons.inj e).1.symm
   rw [this] at hf;exact hc hf
theorem aia{w:Bool}{g:List Str} : ∀ (n:Nat) (l:List Nat),l.length<=n->∀ y∈(cutF w g l).2,w=true->FigR y
 | 0,l,h,y,hy=>by
  have:l=[]:=dF.mp (by lia)
  subst this;rw [nK] at hy;cases hy
 | n+1,l,h,y,hy=>by
  cases e:partF w g l with
  | none=>rw [nJ e] at hy;cases hy
  | some x=>
   obtain ⟨rest,e1,e2,e3⟩:=kO e;rw [e2] at hy;have hl:=congrArg Z3 e1;rw [D7,lenL] at hl
   rcases K0.mp hy with q | q
   .rw [q];exact aku e
   .exact aia n rest (by lia) y q
end L2
variable {R R':List L2.Rl}
set_option maxRecDepth 100000
namespace L2
open PySem PySem.Spec PyProof.Rows
structure StepL(H:Hp)(r:Addr)(ss:List Tr):Prop where
 ex:∃ ts:List Addr,H r=some (.lst (ts.map V.ref))/\Paired (fun t s=>H t=some (tupT s)) ts ss
noncomputable def IsMk (H:Hp) (d:Addr) (ks:List Str) (F:Str->List Tr):Prop:=∃ ad:Str->Addr,H d=some (.dK (C2 ks fun y=>.ref (ad y)))/\∀ y∈ks,StepL H (ad y) (F y)
structure MkI(H H2:Hp)(d:Addr)(P:List Str)(F:Str->List Tr):Prop where
 same:Same H H2
 made:IsMk H2 d (G7 [] P) F
theorem Z6{t:Addr}(hT:B1 K H t xs)(q:∀ p H',Same H H'->B1 K H' p (xs.take 2)->Q (.ref p) H'):rSlR K t none (some 2) H Q:=by
 by_cases h:xs.length<=2
 .refine rSlR.w hT ⟨rfl,?_⟩ (q t H (dU H) (by rw [o9 h];exact hT));rw [show ((2:Int))=((2:Nat):Int) from rfl,HT.sIx_nat];lia
 .refine rSlR.t hT (fun e=>?_) fun p np=>q p _ (Same.new np) (.of ?_)
  .have:=e.2
   rw [show ((2:Int))=((2:Nat):Int) from rfl,HT.sIx_nat] at this;lia
  .rw [A3,show cutV xs none (some 2)=_ from bV xs 2]
noncomputable def UnT (H:Hp) (e:Addr×Addr) (u:G5):Prop:=H e.1=some (.tup [.int u.1,.int u.2.1,.ref e.2,.int u.2.2.2])/\H e.2=some (.tup (u.2.2.1.map V.int))
structure UnJ(H0 H:Hp)(l:Addr)(es:List (Addr×Addr))(U:List G5):Prop where
 same:Same H0 H
 new:H0 l=none
 top:H l=some (.lst (es.map fun e=>V.ref e.1))
 row:Paired (UnT H) es U
end L2
set_option maxRecDepth 100000
namespace L2
open PySem PySem.Spec PyProof.Rows
noncomputable def tRev (K:PySem.W.Frag) (te:TE) (tk:TO):TE:=fun Y H Q=>te Y H fun x H1=>tk Y H1 fun k H2=>k=some (-1)/\∃ a xs,x=.ref a/\D0 K H2 a xs/\∀ p,H2 p=none->Q (.ref p) (A0 H2 p (.lst xs.reverse))
theorem uam(r:Vals xs us):Vals xs.reverse us.reverse:=by
 induction r with
 | nil=>exact .nil
 | cons h t ih=>
  rw [jG,jG];exact ih.append (.cons h .nil)
theorem aov{tk:TO} : tRev K te tk Y H Q=te Y H fun x H1=>tk Y H1 fun k H2=>k=some (-1)/\∃ a xs,x=.ref a/\D0 K H2 a xs/\∀ p,H2 p=none->Q (.ref p) (A0 H2 p (.lst xs.reverse)):=rfl
end L2
set_option maxRecDepth 100000
namespace PySem
section
variable {prog:Program} {w:World} {A:Around} {E:Value->Shared->Prop} {s:Shared}
theorem aiW:typeLookup (.type "list_reverseiterator") "__len__"=pure none:=by rw [typeLookup_type,builtinLookup_eq_fast];kernel_rfl
theorem ame:typeLookup (.type "list_reverseiterator") "__length_hint__"=pure (some (.builtin "list_reverseiterator.__length_hint__")):=by rw [typeLookup_type,builtinLookup_eq_fast];kernel_rfl
theorem amf{Q:Bool->Shared->Prop}(hT:s.TypeIs (.ref r) "list_reverseiterator")(h:Q false s):wpAny (model prog w) A (Builtin.List.listLengthHint (.ref r)) Q E s:=by
 unfold Builtin.List.listLengthHint;refine wpAny_bind (wpAny_specialOf hT aiW ?_);show wpAny _ A (specialOf (Value.ref r) (Str.ofString "__length_hint__") >>= _) _ _ _;refine wpAny_bind (wpAny_specialOf hT ame ?_);generalize hid:("list_reverseiterator.__length_hint__" : String)=id0
 wp_delta
 rw [show splitId id0=some ("list_reverseiterator", "__length_hint__") from by subst hid;decide +kernel];subst hid;refine wpAny_bind (wpAny_isInstance (T:="list_reverseiterator") (b:=true) hT (by rw [isSubtype_type];kernel_rfl) ?_);refine wpAny_ite_split (fun Y0=>absurd Y0 (by decide)) (fun _=>?_);refine wpAny_ite_split (fun _=>?_) (fun Y0=>absurd (by decide +kernel) Y0);refine wpAny_ite_split (fun Y0=>absurd Y0 (by decide +kernel)) (fun _=>?_);exact wpAny_pure h
theorem aiX{R:Result->Shared->Prop}{l:Addr}(hh:A.handled=none)(lP:s.heap.IsRevIter r l ((items.size:Int)-1))(hl:s.heap.IsList l items)(G8:l≠r)(hsz:items.size<=sizeLine)(S:Addr)(res:Value)(zd:Nat)(hSr:S≠r)(hSl:S≠l)(hS:s.heap.get? S=some { cls:=.type "list",data:=.seq #[] zd })(hR:∀ h' tk acc' c',(∀ b o,b≠S->b≠r->s.heap.get? b=some o->h'.get? b=some o)->h'.get? S=some { cls:=.type "list",dict:=none,data:=.seq acc' c',slots:=#[] }->
   ItemsOf (fun i v=>items[items.size-1-i]?=some v) acc' items.size->R (.ok (.ret res)) { s with heap:=h',toks:=tk }) :
  wpAny (model prog w) A.in1 (Builtin.List.listExtendWith (.ref S) (.ref r) res)
   (fun fin s'=>match fin with | .done f=>R (.ok f) s' | .again c'=>c'.quiet=true/\codeAny (model prog w) A c' R s') (fun e s'=>R (.error e) s') s:=by
 have W:=(Walks.listRev (prog:=prog) (w:=w) (A:=A.in1) hh r l G8 items).toS;have hT:=lP.typeIs;unfold Builtin.List.listExtendWith;refine wpAny_bind (wpAny_typeOf hT ?_);have h1:Builtin.List.listSameRef (.ref S) (.ref r)=false:=by simp [Builtin.List.listSameRef,hSr]
 have h2:(Value.type "list_reverseiterator" == Value.type "list")=false:=by decide
 have h3:(Value.type "list_reverseiterator" == Value.type "tuple")=false:=by decide
 simp only [h1,h2,h3,Bool.or_false,mF,if_false];refine wpAny_bind (wpAny_pyIter_revIter lP ?_);refine wpAny_bind (wpAny_holding (amf hT ?_));refine wpAny_ite_split (fun Y0=>absurd Y0 (by decide +kernel)) (fun _=>?_);refine wpAny_pure ⟨plainId_quiet F.plain_extend_loop _,?_⟩;refine codeAny_extend_loopS W hsz S (by simp [hSr,hSl]) res items.size 0 _ #[] zd rfl (F7 _) ⟨F7 _,by simpa using lP,hl⟩ hS (ItemsOf.nil _) fun s' acc' c' hm hS' T0=>?_
 rw [Moved.eq_with hm];refine hR s'.heap s'.toks acc' c' (fun b o hb zM e=>hm.heap b o (fun iN=>?_) e) hS' T0
 rcases K0.mp iN with e' | iN
 .exact hb e'
 .exact zM (E4.mp iN)
theorem amg{Q:Value->Shared->Prop}{l:Addr}(hh:A.handled=none)(lP:s.heap.IsRevIter r l ((items.size:Int)-1))(hl:s.heap.IsList l items)(G8:l≠r)(hsz:items.size<=sizeLine)(hQ:∀ h' tk acc' c',(∀ b o,b≠r->s.heap.get? b=some o->h'.get? b=some o)->
   h'.get? s.heap.objs.size=some { cls:=.type "list",dict:=none,data:=.seq acc' c',slots:=#[] }->ItemsOf (fun i v=>items[items.size-1-i]?=some v) acc' items.size->Q (.ref s.heap.objs.size) { s with heap:=h',toks:=tk }) :
  wpAny (model prog w) A (call (.type "list") [.ref r]) Q E s:=by
 refine callType_codes (Q₁:=fun obj zu=>obj=.ref s.heap.objs.size/\zu={ s with heap:=s.heap.push { cls:=.type "list",data:=.seq #[] } }) F.called_list (F.typeCall_list_1 _) F.entry_list_init
  (code_list_new _ ⟨rfl,rfl⟩) fun obj zu zr=>?_
 obtain ⟨rfl,rfl⟩:=zr;have hS:(s.heap.push { cls:=.type "list",data:=.seq #[] }).get? s.heap.objs.size=some { cls:=.type "list",data:=.seq #[] }:=Heap.get?_push_size _ rfl;obtain ⟨o1,e1,_⟩:=id lP;obtain ⟨o2,e2,_⟩:=id hl;have n1:s.heap.objs.size≠r:=fun e=>Z4 _ (e ▸ Heap.lt_size e1)
 have n2:s.heap.objs.size≠l:=fun e=>Z4 _ (e ▸ Heap.lt_size e2)
 refine ⟨⟨_,hS,rfl⟩,F.args_list_init_2 _ _,?_⟩;show wpAny _ _ (do let old <- Builtin.List.listItems (.ref s.heap.objs.size);Builtin.List.listUpdate (.ref s.heap.objs.size) (fun _=>#[]);letGo old.toList.reverse;Builtin.List.listExtendWith (.ref s.heap.objs.size) (.ref r) .none) _ _ _;refine wpAny_bind ?_;unfold Builtin.List.listItems;refine wpAny_bind (wpAny_seqItems hS rfl (wpAny_pure ?_));show wpAny _ _ (updateSeq s.heap.objs.size (fun _=>#[]) >>= fun _=>letGo (#[]:Array Value).toList.reverse >>= fun _=>Builtin.List.listExtendWith (.ref s.heap.objs.size) (.ref r) .none) _ _ _;refine wpAny_bind (wpAny_updateSeq hS rfl ?_);have zc:=Heap.get?_update_self (Obj.mapSeq (fun _=>(#[]:Array Value))) hS rfl;have oth:∀ b o,b≠s.heap.objs.size->s.heap.get? b=some o->((s.heap.push { cls:=.type "list",data:=.seq #[] }).update s.heap.objs.size (Obj.mapSeq (fun _=>(#[]:Array Value)))).get? b=some o:=
  fun b o hb e=>(Heap.get?_update_other _ _ (Ne.symm hb)).trans (Heap.get?_push_of_some _ e)
 refine wpAny_bind (wpAny_letGo ?_);refine aiX (A:=A.in1) hh (lP.at fun o e=>oth r o n1.symm e) (hl.at fun o e=>oth l o n2.symm e) G8 hsz _ .none _ n1 n2 zc fun h' tk acc' c' hk hS' T0=>?_
 exact ⟨rfl,hQ h' tk acc' c' (fun b o hb e=>hk b o (L8 (Heap.lt_size e)) hb (oth b o (L8 (Heap.lt_size e)) e)) hS' T0⟩
end
end PySem
namespace L2
open PySem PySem.Spec PyProof.Rows
noncomputable def tLRev (ta:TA):TE:=fun Y H Q=>ta Y H fun vs H1=>∃ (l:Addr) (xs:List V),vs=[.ref l]/\H1 l=some (.lst xs)/\∀ p,H1 p=none->Q (.ref p) (A0 H1 p (.lst xs.reverse))
theorem aow{a:Expr}{p pos:Pos}(hc:X.calm=true)(hg:Gl X "reversed")(hm:X.mg "reversed"=none)(cR:Gl X "list")(fA:X.mg "list"=none)(ha:PA X [a] ta)(h1:L0 a=false:=by rfl) :
  PE X (.Call (.Name "list" p1) [.Call (.Name "reversed" p) [a] [] pos] [] pos1) (tLRev ta):=by
 intro pins s Y H Q I h;refine Call_ (z8 I cR fA jY (PyProof.Rows.callWith_type1 ?_ rfl rfl));show wpAny _ _ (spliced ((false,eval (.Call (.Name "reversed" p) [a] [] pos) X.env)::backTo pos1 (starEach [] X.env))) _ _ s;refine Calls.spliced_cons (Call_ (z8 I hg hm afE (PyProof.Rows.callWith_type1 (A9 (ha pos pins s Y H _ I h) fun us s1 ⟨vs,H1,I1,r1,q1⟩=>?_) (N6 h1) rfl)));obtain ⟨l,xs,rfl,e1,q⟩:=q1;obtain ⟨u1,rfl,iK⟩:=vals1 r1
 cases iK
 obtain ⟨its1,W5,p1,hz⟩:=I1.list (D0.of (K:=X.K) e1);have q1:=W5.length;refine call_reversed_list p1.isList ?_;refine Calls.spliced_nil ?_;have C4:l<s1.heap.objs.size:=by obtain ⟨o,e,_⟩:=p1.isList;exact Heap.lt_size e
 have z1:(s1.heap.push (revObj l ((its1.toArray.size:Int)-1))).IsRevIter s1.heap.objs.size l ((its1.toArray.size:Int)-1):=⟨_,Heap.get?_push_size _ rfl,rfl,rfl⟩
 refine amg (I1.ok.hd hc) z1 (p1.isList.at fun o e=>Heap.get?_push_of_some _ e) (L8 C4) (by rw [J8];lia) fun h' tk acc' c' hk hS' T0=>?_
 have ea:acc'.toList=its1.reverse:=by
  refine List.ext_getElem? fun j=>?_
  by_cases hj:j<its1.length
  .have lN:j<acc'.size:=by rw [T0.1,J8];exact hj
   have hv:=T0.2 j acc'[j] (Array.getElem?_eq_getElem lN);rw [List.getElem?_reverse hj,Array.getElem?_toList,Array.getElem?_eq_getElem lN,<- hv,List.getElem?_toArray,J8]
  .rw [List.getElem?_eq_none (by rw [dP,T0.1,J8];lia),List.getElem?_eq_none (by rw [List.length_reverse];lia)]
 refine ⟨.ref _,_,I1.laid (o:=.lst xs.reverse) (t':=tk) (fun b o e=>hk b o (L8 (Heap.lt_size e)) (Heap.get?_push_of_some _ e)) (by show s1.heap.objs.size<=(s1.heap.push _).objs.size;rw [Heap.size_push];lia) ⟨by rw [List.length_reverse];exact hz,acc'.toList,c',ea ▸ uam W5,by simpa using hS'⟩,rfl,q _ (I1.hok.fresh (by show s1.heap.objs.size<=(s1.heap.push _).objs.size;rw [Heap.size_push];lia))⟩
theorem aox{a:Expr}{p pos:Pos}(hm:X.mg "reversed"=none)(fA:X.mg "list"=none)(ha:QA X [a] ta)(hc:X.calm=true:=by rfl)(hg:Gl X "reversed":=by rfl)(cR:Gl X "list":=by rfl)(h1:L0 a=false:=by rfl) :
  QE X (.Call (.Name "list" p1) [.Call (.Name "reversed" p) [a] [] pos] [] pos1) (tLRev ta):=⟨aow hc hg hm cR fA ha.out h1⟩
theorem aoy : tLRev ta Y H Q=ta Y H fun vs H1=>∃ (l:Addr) (xs:List V),vs=[.ref l]/\H1 l=some (.lst xs)/\∀ p,H1 p=none->Q (.ref p) (A0 H1 p (.lst xs.reverse)):=rfl
end L2
set_option maxRecDepth 100000
namespace L2
open PySem PySem.Spec PyProof.Rows
noncomputable def aK (U:List G5):Nat:=(U.map fun u=>u.2.2.1.length).sum
theorem ahe(U:List G5)(s:Tr):aK (addS U s)<=aK U+1:=by
 unfold addS
 by_cases h:s.1=0
 .rw [if_pos h]
  by_cases hU:U=[]
  .subst hU;unfold addM aK
   simp
  .obtain ⟨U',u,rfl⟩:=wN hU;unfold addM;rw [List.getLast?_append,List.getLast?_singleton];simp [aK];lia
 .rw [if_neg h];simp [aK]
theorem aeD:∀ (ss:List Tr) (U:List G5),aK (ss.foldl addS U)<=aK U+ss.length
 | [],U=>C3 _
 | s::ss,U=>by
  rw [jK,J9];have h1:=aeD ss (addS U s);have h2:=ahe U s;lia
theorem agD{S:Str->List Tr}(hs:∀ y,(S y).length<=15)(ps:List Str):aK (Q0 S ps)<=15*ps.length:=by
 have h0:(ps.flatMap S).length<=15*ps.length:=by
  induction ps with
  | nil=>exact C3 _
  | cons p ps ih=>
   rw [m3,D7,J9]
   have:=hs p
   lia
 have h1:=aeD (ps.flatMap S) [];unfold Q0;have h2:aK []=0:=rfl;lia
theorem wQ{α β:Type}{F:α->β->Prop} : ∀ {as:List α} {bs:List β},Paired F as bs->Paired F as.reverse bs.reverse
 | _,_,.nil=>.nil
 | _,_,.cons h t=>by
  rw [jG,jG];exact Paired.snoc (wQ t) h
theorem ahf{S:Str->List Tr}(hs:∀ y,(S y).length<=15){w:Bool}(hy:y.length<=500) :
  (Q0 S (cutF w ks y.cps.toList).2).length<=10000/\(∀ u∈Q0 S (cutF w ks y.cps.toList).2,u.2.2.1.length<=10000)/\aK (Q0 S (cutF w ks y.cps.toList).2)<=100000:=by
 have h1:=wP hs (cutF w ks y.cps.toList).2;have h2:=(wJ (w:=w) (g:=ks) _ y.cps.toList (C3 _)).2.1;have h3:=agD hs (cutF w ks y.cps.toList).2;rw [lenL] at h2;exact ⟨by lia,fun u hu=>by have:=h1.2 u hu;lia,by lia⟩
end L2
set_option maxRecDepth 100000
namespace PySem.SeqAt
open AutoSeq1 (wpAny_loadPart')
open MeetsSeq MeetsSeq2 MeetsSeq3 SeqRoads2
noncomputable def RcLt (A:Around) (s:Shared) (y x:Value) (b:Bool):Prop:=
 ∀ (prog:Program) (w:World) (E:Value->Shared->Prop) (Q:Value->Shared->Prop),Q (.bool b) s->wpAny (model prog w) A (richCompare .Lt y x) Q E s
theorem akv{α:Type}[DecidableEq α][LT α][DecidableLT α](P3:∀ a:α,¬ a<a){xs ys:List α}(h1:i<xs.length)(h2:i<ys.length) :
  decide (xs.drop i<ys.drop i)=if decide (xs[i]=ys[i])=true then decide (xs.drop (i+1)<ys.drop (i+1)) else decide (xs[i]<ys[i]):=by
 rw [fQ h1,fQ h2]
 by_cases e:xs[i]=ys[i]
 .rw [if_pos (decide_eq_true e)];refine decide_eq_decide.mpr ?_;rw [fR,e];exact ⟨fun h=>h.elim (fun h=>absurd h (P3 _)) (fun h=>h.2),fun h=>.inr ⟨rfl,h⟩⟩
 .rw [if_neg (by simpa using e)];refine decide_eq_decide.mpr ?_;rw [fR];exact ⟨fun h=>h.elim id fun h=>absurd h.1 e,.inl⟩
theorem amS{α:Type}[LT α][DecidableEq α][DecidableLT α]{ys:List α}{m':Nat}(hx:m=m')(hy:n=ys.length)(hi:i=m):decide ([]<ys.drop i)=decide (m<n):=by
 refine decide_eq_decide.mpr ?_;cases e:ys.drop i with
 | nil=>
  have:=List.drop_eq_nil_iff.mp e
  exact ⟨fun h=>absurd h (List.not_lt_nil _),fun h=>by lia⟩
 | cons a r=>
  have:i<ys.length:=by
   rcases Nat.lt_or_ge i ys.length with h | h
   .exact h
   .rw [mE h] at e;cases e
  exact ⟨fun _=>by lia,fun _=>List.nil_lt_cons _ _⟩
theorem akw{α:Type}[DecidableEq α][LT α][DecidableLT α](P3:∀ a:α,¬ a<a)(l b:Addr)(items items2:Array Value)(n n2:Nat)(dd j9:Option Addr)(sl Z6:Array (Option Value))(xs ys:List α)(hx:items.size=xs.length)(hy:items2.size=ys.length)(k:Nat) :
  ∀ i:Nat,items.size-i=k->i<=items.size->i<=items2.size->Meets (Builtin.«list.__eq__.loop» ⟨[.ref l,.ref b,rawInt i,rawInt 0],[]⟩)
   (fun A R s=>s.heap.get? l=some { cls:=.type "list",dict:=dd,data:=.seq items n,slots:=sl }/\s.heap.get? b=some { cls:=.type "list",dict:=j9,data:=.seq items2 n2,slots:=Z6 }/\
    (∀ j (h1:j<items.size) (h2:j<items2.size) (g1:j<xs.length) (g2:j<ys.length),EqAt A.in1 s items[j] items2[j] (decide (xs[j]=ys[j]))/\RcLt A.in1 s items[j] items2[j] (decide (xs[j]<ys[j])))/\
    R (.ok (.ret (.bool (decide (xs.drop i<ys.drop i))))) s):=by
 induction k with
 | zero=>
  intro i hk l1 l2 prog w A R s h;obtain ⟨hp,g,d,tk,os⟩:=s;obtain ⟨hl,hb,he,h⟩:=h
  wp_walk using wpAny_loadPart' hl,wpAny_loadPart' hb
  have cO:items[((i:Nat):Int).toNat]?=none:=by simp;lia
  rw [cO]
  wp_walk using wpAny_loadPart' hl,wpAny_loadPart' hb
  show R (.ok (.ret (.bool (decide (items.size<items2.size))))) _;have e:decide (xs.drop i<ys.drop i)=decide (items.size<items2.size):=by
   rw [mE (as:=xs) (by lia)];exact amS hx hy (by lia)
  rw [e] at h;exact h
 | succ k ih=>
  intro i hk l1 l2 prog w A R s h;obtain ⟨hp,g,d,tk,os⟩:=s;obtain ⟨hl,hb,he,h⟩:=h
  wp_walk using wpAny_loadPart' hl,wpAny_loadPart' hb
  have C4:i<items.size:=by lia
  have cO:items[((i:Nat):Int).toNat]?=some items[i]:=by simp [C4]
  by_cases pE:i<items2.size
  .have aZ:items2[((i:Nat):Int).toNat]?=some items2[i]:=by simp [pE]
   have hc:((i:Int)+1)=((i+1:Nat):Int):=by push_cast;rfl
   rw [cO,aZ];obtain ⟨h1,h2⟩:=he i C4 pE (by lia) (by lia);rw [akv P3 (by lia) (by lia)] at h;refine wpAny_bind (h1 prog w _ _ ?_);cases Y8:decide (xs[i]'(by lia)=ys[i]'(by lia)) with
   | true=>
    rw [Y8,if_pos rfl] at h
    wp_walk
    rw [hc];exact ⟨plainId_quiet plain_eq_loop _,codeAny_builtin entry_eq_loop (by
     rw [Around.under_plainId plain_eq_loop _];exact ih (i+1) (by lia) (by lia) (by lia) prog w A R _ ⟨hl,hb,he,h⟩)⟩
   | false=>
    rw [Y8,if_neg (by decide)] at h
    wp_walk using wpAny_loadPart' hl,wpAny_loadPart' hb
    rw [cO,aZ];refine wpAny_bind (h2 prog w _ _ ?_)
    wp_walk
    exact h
  .have aZ:items2[((i:Nat):Int).toNat]?=none:=by simp;lia
   rw [cO,aZ]
   wp_walk using wpAny_loadPart' hl,wpAny_loadPart' hb
   show R (.ok (.ret (.bool (decide (items.size<items2.size))))) _;have e:decide (xs.drop i<ys.drop i)=decide (items.size<items2.size):=by
    rw [mE (as:=ys) (by lia)];refine decide_eq_decide.mpr ?_;exact ⟨fun h=>absurd h (List.not_lt_nil _),fun h=>by lia⟩
   rw [e] at h;exact h
theorem akx{α:Type}[DecidableEq α][LT α][DecidableLT α](P3:∀ a:α,¬ a<a)(l b:Addr)(items items2:Array Value)(n n2:Nat)(dd j9:Option Addr)(sl Z6:Array (Option Value))(xs ys:List α)(hx:items.size=xs.length)(hy:items2.size=ys.length) :
  Meets (Builtin.«list.__lt__» ⟨[.ref l,.ref b],[]⟩)
   (fun A R s=>s.heap.get? l=some { cls:=.type "list",dict:=dd,data:=.seq items n,slots:=sl }/\s.heap.get? b=some { cls:=.type "list",dict:=j9,data:=.seq items2 n2,slots:=Z6 }/\
    (∀ j (h1:j<items.size) (h2:j<items2.size) (g1:j<xs.length) (g2:j<ys.length),EqAt A.in1 s items[j] items2[j] (decide (xs[j]=ys[j]))/\RcLt A.in1 s items[j] items2[j] (decide (xs[j]<ys[j])))/\
    R (.ok (.ret (.bool (decide (xs<ys))))) s):=by
 intro prog w A R s h;obtain ⟨hp,g,d,tk,os⟩:=s;obtain ⟨hl,hb,he,h⟩:=h;have f3:=AutoSeq1.sub_list_list
 wp_walk using wpAny_loadPart' hl,wpAny_loadPart' hb
 exact ⟨plainId_quiet plain_eq_loop _,codeAny_builtin entry_eq_loop (by
  rw [Around.under_plainId plain_eq_loop _];exact akw P3 l b items items2 n n2 dd j9 sl Z6 xs ys hx hy _ 0 rfl (F7 _) (F7 _) prog w A R _ ⟨hl,hb,he,h⟩)⟩
theorem aiY{α:Type}[DecidableEq α][LT α][DecidableLT α](P3:∀ a:α,¬ a<a)(l b:Addr)(items items2:Array Value)(n n2:Nat)(dd j9:Option Addr)(sl Z6:Array (Option Value))(xs ys:List α)(hx:items.size=xs.length)(hy:items2.size=ys.length) :
  Meets (Builtin.«tuple.__lt__» ⟨[.ref l,.ref b],[]⟩)
   (fun A R s=>s.heap.get? l=some { cls:=.type "tuple",dict:=dd,data:=.seq items n,slots:=sl }/\s.heap.get? b=some { cls:=.type "tuple",dict:=j9,data:=.seq items2 n2,slots:=Z6 }/\
    (∀ j (h1:j<items.size) (h2:j<items2.size) (g1:j<xs.length) (g2:j<ys.length),EqAt A.in1 s items[j] items2[j] (decide (xs[j]=ys[j]))/\RcLt A.in1 s items[j] items2[j] (decide (xs[j]<ys[j])))/\
    R (.ok (.ret (.bool (decide (xs<ys))))) s):=
 .of_wp fun prog w A R s h=>by
  obtain ⟨hp,g,d,tk,os⟩:=s;obtain ⟨hl,hb,he,h⟩:=h;have f2:=AutoSeq1.sub_tuple_tuple;have hZ:(items.toList.zip items2.toList).length=min items.size items2.size:=by simp
  wp_walk using wpAny_loadPart' hl,wpAny_loadPart' hb,wpAny_forIn_list _ (fun rest b s'=>b.1=none/\s'=⟨hp,g,d,tk,os⟩/\∃ i,rest=(items.toList.zip items2.toList).drop i/\i<=min items.size items2.size/\
   R (.ok (.ret (.bool (decide (xs.drop i<ys.drop i))))) ⟨hp,g,d,tk,os⟩) _
  case turn=>
   rintro ⟨y,x⟩ rest b s' ⟨Y8,rfl,i,hz,hi,hR⟩;have C4:i<(items.toList.zip items2.toList).length:=by
    rcases Nat.lt_or_ge i (items.toList.zip items2.toList).length with h' | h'
    .exact h'
    .rw [mD h'] at hz;cases hz
   have hm:i<min items.size items2.size:=hZ ▸ C4;have h1:i<items.size:=V2 hm (Nat.min_le_left _ _);have h2:i<items2.size:=V2 hm (Nat.min_le_right _ _);rw [fQ C4] at hz
   injection hz with hyx f9
   have w8:y=items[i]:=by have:=congrArg Prod.fst hyx;simpa using this
   have hx':x=items2[i]:=by have:=congrArg Prod.snd hyx;simpa using this
   subst w8 hx';rw [akv P3 (by lia) (by lia)] at hR;obtain ⟨q1,q2⟩:=he i h1 h2 (by lia) (by lia);refine wpAny_bind (q1 prog w _ _ ?_);cases w8:decide (xs[i]'(by lia)=ys[i]'(by lia)) with
   | true=>
    rw [w8,if_pos rfl] at hR
    wp_walk
    exact ⟨rfl,rfl,i+1,f9,hm,hR⟩
   | false=>
    rw [w8,if_neg (by decide)] at hR;refine wpAny_ite_split (fun _=>?_) (fun Y0=>absurd rfl Y0);refine wpAny_bind (wpAny_rule ?_);refine wpAny_bind (q2 prog w _ _ ?_)
    wp_walk
    exact ⟨_,rfl,hR⟩
  case fin=>
   rintro ⟨b1,b2⟩ s' ⟨Y8,rfl,i,hz,hi,hR⟩;simp only at Y8;subst Y8;have zN:min items.size items2.size<=i:=by
    rcases Nat.lt_or_ge i (items.toList.zip items2.toList).length with h' | h'
    .rw [fQ h'] at hz;cases hz
    .exact hZ ▸ h'
   have e:decide (xs.drop i<ys.drop i)=decide (items.size<items2.size):=by
    by_cases hc:items.size<=i
    .rw [mE (as:=xs) (by lia)];exact amS hx hy (by lia)
    .rw [mE (as:=ys) (by lia)];refine decide_eq_decide.mpr ?_;exact ⟨fun h=>absurd h (List.not_lt_nil _),fun h=>by lia⟩
   rw [e] at hR
   wp_walk
   exact ⟨_,rfl,by simpa [Builtin.Tuple.tupleCompareSizes] using hR⟩
  case h=>
   exact ⟨rfl,rfl,0,rfl,F7 _,h⟩
section
variable {A:Around} {s:Shared}
theorem RcLt.lists{α:Type}[DecidableEq α][LT α][DecidableLT α](P3:∀ a:α,¬ a<a){l:Addr}{xs ys:List α}(hl:s.heap.IsList l items)(hb:s.heap.IsList b items2)(hx:items.size=xs.length)(hy:items2.size=ys.length)(hu:A.units<cLine)(he:∀ j (h1:j<items.size) (h2:j<items2.size) (g1:j<xs.length) (g2:j<ys.length),EqAt A.in1 s items[j] items2[j] (decide (xs[j]=ys[j]))/\RcLt A.in1 s items[j] items2[j] (decide (xs[j]<ys[j]))):RcLt A s (.ref l) (.ref b) (decide (xs<ys)):=fun prog w E Q h=>by
 obtain ⟨⟨cls,dd,data,sl⟩,ho,hc,n,hd⟩:=id hl;obtain ⟨⟨cls2,j9,data2,Z6⟩,aW,Q3,n2,U9⟩:=id hb;simp only at hc hd Q3 U9;subst hc hd Q3 U9;exact richCompare_meets_room (op:=.Lt) ⟨_,ho,rfl⟩ ⟨_,aW,rfl⟩ F.slot_list_lt F.entry_list_lt (F.args_list_lt_2 _ _) (akx P3 l b items items2 n n2 dd j9 sl Z6 xs ys hx hy)
  ⟨ho,aW,he,show Value.bool (decide (xs<ys))≠Value.notImplemented/\Q (.bool (decide (xs<ys))) s from ⟨(fun x=>nomatch x),h⟩⟩ hu
theorem RcLt.tuples{α:Type}[DecidableEq α][LT α][DecidableLT α](P3:∀ a:α,¬ a<a){l:Addr}{xs ys:List α}(hl:s.heap.IsTuple l items)(hb:s.heap.IsTuple b items2)(hx:items.size=xs.length)(hy:items2.size=ys.length)(hu:A.units<cLine)(he:∀ j (h1:j<items.size) (h2:j<items2.size) (g1:j<xs.length) (g2:j<ys.length),EqAt A.in1 s items[j] items2[j] (decide (xs[j]=ys[j]))/\RcLt A.in1 s items[j] items2[j] (decide (xs[j]<ys[j]))):RcLt A s (.ref l) (.ref b) (decide (xs<ys)):=fun prog w E Q h=>by
 obtain ⟨⟨cls,dd,data,sl⟩,ho,hc,n,hd⟩:=id hl;obtain ⟨⟨cls2,j9,data2,Z6⟩,aW,Q3,n2,U9⟩:=id hb;simp only at hc hd Q3 U9;subst hc hd Q3 U9;exact richCompare_meets_room (op:=.Lt) ⟨_,ho,rfl⟩ ⟨_,aW,rfl⟩ F.slot_tuple_lt F.entry_tuple_lt (F.args_tuple_lt_2 _ _) (aiY P3 l b items items2 n n2 dd j9 sl Z6 xs ys hx hy)
  ⟨ho,aW,he,show Value.bool (decide (xs<ys))≠Value.notImplemented/\Q (.bool (decide (xs<ys))) s from ⟨(fun x=>nomatch x),h⟩⟩ hu
theorem RcLt.int_int(a:Int)(t:Tok)(b:Int)(u:Tok):RcLt A s (.int a t) (.int b u) (decide (a<b)):=fun prog w E Q h=>PySem.P.lt_int h
end
end PySem.SeqAt
namespace L2
open PySem PySem.Spec PyProof.Rows
theorem wR{xs ys:List Int}(r1:Vals (xs.map V.int) its)(r2:Vals (ys.map V.int) its2) :
  ∀ j (h1:j<its.toArray.size) (h2:j<its2.toArray.size) (g1:j<xs.length) (g2:j<ys.length),SeqAt.EqAt A s its.toArray[j] its2.toArray[j] (decide (xs[j]=ys[j]))/\SeqAt.RcLt A s its.toArray[j] its2.toArray[j] (decide (xs[j]<ys[j])):=by
 intro j h1 h2 g1 g2;obtain ⟨t,e1⟩:=qY (qA r1) (j:=j) (z:=xs[j]) (by simp);obtain ⟨u,e2⟩:=qY (qA r2) (j:=j) (z:=ys[j]) (by simp);have q1:its.toArray[j]=.int xs[j] t:=by have:=(E9.mp e1).2;simpa using this
 have q2:its2.toArray[j]=.int ys[j] u:=by have:=(E9.mp e2).2;simpa using this
 rw [q1,q2];refine ⟨?_,SeqAt.RcLt.int_int _ _ _ _⟩
 have:=SeqAt.EqAt.int_int (A:=A) (s:=s) xs[j] t ys[j] u
 rwa [show (xs[j]==ys[j])=decide (xs[j]=ys[j]) by rw [Bool.beq_eq_decide_eq]] at this
noncomputable def rLtR (K:PySem.W.Frag) (a b:Addr) (H:Hp) (Q:VK):Prop:=
 (∃ xs ys:List Int,D0 K H a (xs.map V.int)/\D0 K H b (ys.map V.int)/\Q (.bl (decide (xs<ys))) H)\/
 (∃ xs ys:List Int,B1 K H a (xs.map V.int)/\B1 K H b (ys.map V.int)/\Q (.bl (decide (xs<ys))) H)\/
 ∃ (as bs:List Addr) (xs ys:List (List Int)),D0 K H a (as.map V.ref)/\D0 K H b (bs.map V.ref)/\Paired (fun c x=>B1 K H c (x.map V.int)) as xs/\Paired (fun c x=>B1 K H c (x.map V.int)) bs ys/\Q (.bl (decide (xs<ys))) H
noncomputable def rLtK (K:PySem.W.Frag):V->V->Hp->VK->Prop
 | .int i,.int j,H,Q=>Q (.bl (decide (i<j))) H
 | .str i,.str j,H,Q=>Q (.bl (decide (i.cps.toList<j.cps.toList))) H
 | .ref a,.ref b,H,Q=>rLtR K a b H Q
 | _,_,_,_=>False
theorem q_ltK(hu:X.A.units+64<cLine)(hK:X.K=K:=by rfl):QOp X (compareOp .Lt) (rLtK K):=⟨by
 subst hK;intro pins s Y H x y v u Q I rx ry h;have u0:X.A.units<cLine:=by lia
 have u1:X.A.in1.units<cLine:=by rw [show X.A.in1.units=X.A.units+1 from rfl];lia
 have u2:X.A.in1.in1.units<cLine:=by rw [show X.A.in1.in1.units=X.A.units+2 from rfl];lia
 cases x <;> cases y <;> try exact h.elim
 .exact op_lt pins s Y H _ _ v u Q I rx ry ⟨_,_,rfl,rfl,h⟩
 .exact afU pins s Y H _ _ v u Q I rx ry ⟨_,_,rfl,rfl,h⟩
 cases rx
 cases ry
 rcases h with ⟨xs,ys,h1,h2,q⟩ | ⟨xs,ys,h1,h2,q⟩ | ⟨as,bs,xs,ys,h1,h2,p1,p2,q⟩
 .obtain ⟨its,r1,l1,_⟩:=I.list h1;obtain ⟨its2,r2,l2,_⟩:=I.list h2;have e1:=r1.length;have e2:=r2.length;rw [A6] at e1 e2;exact SeqAt.RcLt.lists fX l1.isList l2.isList (by simpa using e1.symm) (by simpa using e2.symm) u0 (wR r1 r2) _ _ _ _ ⟨.bl _,H,I,rfl,q⟩
 .obtain ⟨its,r1,l1,_⟩:=I.tuple h1;obtain ⟨its2,r2,l2,_⟩:=I.tuple h2;have e1:=r1.length;have e2:=r2.length;rw [A6] at e1 e2;exact SeqAt.RcLt.tuples fX l1 l2 (by simpa using e1.symm) (by simpa using e2.symm) u0 (wR r1 r2) _ _ _ _ ⟨.bl _,H,I,rfl,q⟩
 .obtain ⟨its,r1,l1,_⟩:=I.list h1;obtain ⟨its2,r2,l2,_⟩:=I.list h2;have e1:=r1.length;have e2:=r2.length;rw [A6] at e1 e2;have f1:=Paired.length p1;have f2:=Paired.length p2;refine SeqAt.RcLt.lists (xs:=xs) (ys:=ys) (fun a=>List.lt_irrefl a) l1.isList l2.isList (by simp;lia) (by simp;lia) u0 (fun j h1 h2 g1 g2=>?_) _ _ _ _ ⟨.bl _,H,I,rfl,q⟩;have j1:j<as.length:=by lia
  have j2:j<bs.length:=by lia
  obtain ⟨v1,w1,z1⟩:=Vals.get (i:=j) (x:=.ref as[j]) r1 (by simp [j1]);obtain ⟨v2,w2,z2⟩:=Vals.get (i:=j) (x:=.ref bs[j]) r2 (by simp [j2]);have q1:its.toArray[j]=v1:=by have:=(E9.mp w1).2;simpa using this
  have q2:its2.toArray[j]=v2:=by have:=(E9.mp w2).2;simpa using this
  rw [q1,q2];obtain ⟨x1,y1,t1⟩:=Paired.at p1 (i:=j) (a:=as[j]) (by simp [j1]);obtain ⟨x2,y2,t2⟩:=Paired.at p2 (i:=j) (a:=bs[j]) (by simp [j2]);have o1:xs[j]=x1:=(E9.mp y1).2;have o2:ys[j]=x2:=(E9.mp y2).2;rw [o1,o2]
  constructor
  .obtain ⟨c1,us1,d1⟩:=(Dn.tup t1 jW).reads I rfl z1;obtain ⟨c2,us2,d2⟩:=(Dn.tup t2 jW).reads I rfl z2
   have:=SeqAt.eqAt_reads _ _ X.A.in1 s v1 v2 _ _ d1 d2 c1 c2 (by
    have hd:∀ zs:List Int,(PyData.tuple (zs.map bO)).depth=1:=fun zs=>by rw [bM,qM]
    have ui:X.A.in1.units=X.A.units+1:=rfl;rw [hd,hd];lia)
   rwa [W2,qI] at this
  .cases z1
   cases z2
   obtain ⟨i1,s1,m1,_⟩:=I.tuple t1;obtain ⟨i2,s2,m2,_⟩:=I.tuple t2;have k1:=s1.length;have k2:=s2.length;rw [A6] at k1 k2;exact SeqAt.RcLt.tuples fX m1 m2 (by simpa using k1.symm) (by simpa using k2.symm) u1 (wR s1 s2)⟩
section
variable {K:PySem.W.Frag} {H:Hp} {Q:VK}
theorem aro{i j:Int} : rLtK K (.int i) (.int j) H Q=Q (.bl (decide (i<j))) H:=rfl
theorem arp{i j:Str} : rLtK K (.str i) (.str j) H Q=Q (.bl (decide (i.cps.toList<j.cps.toList))) H:=rfl
theorem arq : rLtK K (.ref a) (.ref b) H Q=rLtR K a b H Q:=rfl
end
end L2
set_option maxRecDepth 100000
namespace L2
open PySem PySem.Spec PyProof.Rows
open PySem.Builtin
noncomputable abbrev KX:=List B3×Addr×V
noncomputable abbrev XR:List KX->List (List B3×Addr×Value)->Prop:=Paired fun p q=>p.1=q.1/\p.2.1=q.2.1/\RelV p.2.2 q.2.2
noncomputable def dxIs (P:Program) (w:World) (a:Addr) (kvs:List KX) (h:Heap):Prop:=
 kvs.length<=sizeLine/\(a==sysModules)=false/\∃ xs:List (List B3×Addr×Value),XR kvs xs/\∃ o es ep,h.get? a=some o/\o.ExactDict/\o.data=.dict es ep/\es.toList=xs.map (entryOfKey (tupleKind (M6 P w)))/\(xs.map (·.1)).Nodup
noncomputable def dX (P:Program) (w:World) (a:Addr) (kvs:List KX):HO:=.ext (dxIs P w a kvs)
noncomputable def KeysX (K:PySem.W.Frag) (H:Hp) (kvs:List KX):Prop:=∀ p∈kvs,B1 K H p.2.1 (p.1.map kV)
noncomputable def lookX (kvs:List KX) (k:List B3):Option V:=(kvs.find? fun p=>decide (p.1=k)).map (·.2.2)
theorem XR.val:∀ {kvs:List KX} {xs:List (List B3×Addr×Value)},XR kvs xs->∀ k,RelO (lookX kvs k) ((atKey xs k).map (·.2))
 | _,_,.nil,k=>True.intro
 | p::ps,q::qs,.cons ⟨h1,h2,h3⟩ t,k=>by
  by_cases e:p.1=k
  .have a:lookX (p::ps) k=some p.2.2:=by simp [lookX,X0,e]
   have b:atKey (q::qs) k=some q.2:=by simp [atKey,X0,h1.symm.trans e]
   rw [a,b];exact h3
  .have e':¬ q.1=k:=fun z=>e (h1.trans z)
   have a:lookX (p::ps) k=lookX ps k:=by simp [lookX,X0,e]
   have b:atKey (q::qs) k=atKey qs k:=by simp [atKey,X0,e']
   rw [a,b];exact XR.val t k
theorem dx_ok{P:Program}{w:World}{kvs:List KX}(x:dxIs P w a kvs h):ObjOk P w H h a (dX P w a kvs):=by
 refine ⟨x,?_,fun h1 h2 y k=>?_⟩
 .obtain ⟨_,_,_,_,o,_,_,e,_⟩:=x;exact ⟨o,e⟩
 .obtain ⟨z,d,xs,r,o,es,ep,e,c⟩:=y;exact ⟨z,d,xs,r,o,es,ep,k _ e,c⟩
section
variable {X:Cx} {pins:List (Addr×Obj)} {Y:St} {H:Hp} {s:Shared} {a b:Addr} {kvs:List KX} {k:List B3}
theorem Inv.keyS(I:Inv X pins Y H s)(e:B1 X.K H b (k.map kV)):(tupleKind (M6 X.prog X.w)).is s.heap k b:=by
 obtain ⟨its,r,⟨o,h1,h2,n,h3⟩,_⟩:=I.tuple e;exact ⟨o,its.toArray,n,h1,h2,h3,by simpa using uN r⟩
theorem Inv.dx(I:Inv X pins Y H s)(e:H a=some (dX X.prog X.w a kvs))(hk:KeysX X.K H kvs):kvs.length<=sizeLine/\(a==sysModules)=false/\∃ xs,XR kvs xs/\s.heap.DictOfH (tupleKind (M6 X.prog X.w)) a xs:=by
 obtain ⟨⟨z,d,xs,r,o,es,ep,h1,h2,h3,h4,h5⟩,_⟩:=(show ObjOk X.prog X.w H s.heap a (dX X.prog X.w a kvs) from I.hok a _ e)
 refine ⟨z,d,xs,r,o,es,ep,h1,h2,h3,h4,fun x hx=>?_,h5⟩;obtain ⟨i,hi⟩:=List.mem_iff_getElem?.mp hx;have hl:=Paired.length r;have k9:i<kvs.length:=by rw [hl];exact (E9.mp hi).1
 obtain ⟨q,hq,e1,e2,_⟩:=Paired.at r (i:=i) (a:=kvs[i]) (J7 k9);rw [hi] at hq;cases hq
 have:=hk kvs[i] (jJ k9)
 rw [<- e1,<- e2];exact I.keyS this
end
noncomputable def amT (P:Program) (w:World) (K:PySem.W.Frag) (td ty:TE):TE:=fun Y H Q=>td Y H fun x H1=>ty Y H1 fun y H2=>∃ a kvs b k v,x=.ref a/\H2 a=some (dX P w a kvs)/\KeysX K H2 kvs/\y=.ref b/\B1 K H2 b (k.map kV)/\lookX kvs k=some v/\Q v H2
noncomputable def rNotX (P:Program) (w:World) (K:PySem.W.Frag):R2:=fun y x H Q=>∃ a kvs b k,x=.ref a/\H a=some (dX P w a kvs)/\KeysX K H kvs/\y=.ref b/\B1 K H b (k.map kV)/\Q (.bl (!(lookX kvs k).isSome)) H
noncomputable def amU (P:Program) (w:World) (K:PySem.W.Frag) (td ty tv:TE):TS:=fun D Y H=>tv Y H fun v H1=>td Y H1 fun x H2=>ty Y H2 fun y H3=>∃ a kvs b k,x=.ref a/\H3 a=some (dX P w a kvs)/\KeysX K H3 kvs/\y=.ref b/\B1 K H3 b (k.map kV)/\lookX kvs k=none/\kvs.length<sizeLine/\D.nx Y (A0 H3 a (dX P w a (kvs++[(k,b,v)])))
noncomputable def amV (P:Program) (w:World) (K:PySem.W.Frag) (tk tv:TE):TE:=fun Y H Q=>∀ p,H p=none->tk Y (A0 H p (dX P w p [])) fun x H1=>tv Y H1 fun y H2=>H2 p=some (dX P w p [])/\∃ b k,x=.ref b/\B1 K H2 b (k.map kV)/\Q (.ref p) (A0 H2 p (dX P w p [(k,b,y)]))
section
variable {X:Cx} {o i value:Expr} {to ti tv:TE} {pos pos':Pos} {P:Program} {w:World} {K:PySem.W.Frag}
theorem amh(hu:X.A.units+1<cLine)(ho:QE X o to)(hi:QE X i ti)(hP:X.prog=P:=by rfl)(hw:X.w=w:=by rfl)(hK:X.K=K:=by rfl)(hs:NoSl i:=by exact fun _ _=>rfl):QE X (.Subscript o i pos) (amT P w K to ti):=⟨by
 subst hP hw hK;intro pins s Y H Q I h;refine uP PySem.F.slot_dict_getitem.lookup hs (A9 (ho.out pins s Y H _ I h) fun u s1 ⟨x,H1,I1,rx,q1⟩=>A9 (hi.out pins s1 Y H1 _ I1 q1) fun iv s2 ⟨y,H2,I2,ry,a,kvs,b,k,v,ex,e,hk,ey,eb,l,q2⟩=>?_);subst ex ey;obtain rfl:u=Value.ref a:=rx
 cases (show iv=Value.ref b from ry)
 obtain ⟨z,hd,xs,rel,dd⟩:=I2.dx e hk;obtain ⟨w',hw,rw'⟩:=mN (v:=v) (o:=(atKey xs k).map (·.2)) (by rw [<- l];exact rel.val k);obtain ⟨p,hp,aY⟩:=Option.map_eq_some_iff.mp hw;refine ⟨dd.typeIs,wpAny_getItem_heap (tupleKind_room_in1 hu) (I2.keyS eb) dd hp ?_⟩;rw [aY];exact ⟨v,H2,I2.tok _,rw',q2⟩⟩
theorem arr(hu:X.A.units+1<cLine)(hP:X.prog=P:=by rfl)(hw:X.w=w:=by rfl)(hK:X.K=K:=by rfl):QOp X (compareOp .NotIn) (rNotX P w K):=⟨by
 subst hP hw hK;intro pins s Y H x y v u Q I rx ry h;obtain ⟨a,kvs,b,k,rfl,e,hk,rfl,eb,q⟩:=h;obtain rfl:u=Value.ref a:=ry
 cases (show v=Value.ref b from rx)
 obtain ⟨z,hd,xs,rel,dd⟩:=I.dx e hk;refine wpAny_notIn_heap (tupleKind_room_in1 hu) (I.keyS eb) hd dd ?_;have e2:=(rel.val k).isSome_eq;rw [jN] at e2;rw [<- e2];exact ⟨.bl _,H,I.tok _,rfl,q⟩⟩
theorem amW{kvs:List KX}{k:List B3}{r:Value}{xs:List (List B3×Addr×Value)}(I:Inv X pins Y H s)(e:H a=some (dX X.prog X.w a kvs))(hd:(a==sysModules)=false)(rel:XR kvs xs)(l:lookX kvs k=none)(hl:kvs.length<sizeLine)(rv:RelV v r)(dd:h'.DictOfH (tupleKind (M6 X.prog X.w)) a (storedH xs k b r))(hs:Heap.SameBut a s.heap h'):Inv X pins Y (A0 H a (dX X.prog X.w a (kvs++[(k,b,v)]))) { s with heap:=h',toks:=t' }:=by
 have hn:atKey xs k=none:=by
  have e2:=(rel.val k).isSome_eq;rw [jN,l] at e2;exact Option.not_isSome_iff_eq_none.mp (by rw [<- e2];simp)
 rw [storedH_new hn] at dd;obtain ⟨q,es,ep,hq,h2,h3,h4,_,h5⟩:=dd;refine qF I (by rw [e];exact True.intro) hs ⟨q,hq⟩ (dx_ok ⟨by rw [D7];exact hl,hd,_,Paired.snoc rel ⟨rfl,rfl,rv⟩,q,es,ep,hq,h2,h3,h4,h5⟩)
theorem ami(hu:X.A.units+1<cLine)(ho:QE X o to)(hi:QE X i ti)(hv:QE X value tv)(hP:X.prog=P:=by rfl)(hw:X.w=w:=by rfl)(hK:X.K=K:=by rfl)(hs:swapsWith value (some (.Subscript o i pos')) pos.line X.env=pure false:=by rfl):QS X (.Assign [.Subscript o i pos'] value pos) (amU P w K to ti tv):=⟨by
 subst hP hw hK;intro pins s Y H D I h;refine wpAny_Assign_Subscript (A9 (hv.out pins s Y H _ I h) fun r s1 ⟨v,H1,I1,rv,q1⟩=>A9 (ho.out pins s1 Y H1 _ I1 q1) fun u s2 ⟨x,H2,I2,rx,q2⟩=>A9 (hi.out pins s2 Y H2 _ I2 q2) fun iv s3 ⟨y,H3,I3,ry,a,kvs,b,k,ex,e,hk,ey,eb,l,hl,q3⟩=>?_) hs;subst ex ey;obtain rfl:u=Value.ref a:=rx
 cases (show iv=Value.ref b from ry)
 obtain ⟨z,hd,xs,rel,dd⟩:=I3.dx e hk;refine wpAny_setItem_heap (hsz:=by rw [<- Paired.length rel];exact z) (tupleKind_room_in1 hu) (I3.keyS eb) dd fun h' dd' hs=>⟨Y,_,amW I3 e hd rel l hl rv dd' hs,q3⟩⟩
theorem amj(hu:X.A.units+1<cLine)(hk:QE X o to)(hv:QE X value tv)(hP:X.prog=P:=by rfl)(hw:X.w=w:=by rfl)(hK:X.K=K:=by rfl):QE X (.Dict [some o] [value] pos) (amV P w K to tv):=⟨by
 subst hP hw hK;intro pins s Y H Q I q;have hn:=I.hok.fresh (C3 s.heap.objs.size);have I1:=I.laid (a:=s.heap.objs.size) (o:=dX X.prog X.w s.heap.objs.size []) (h':=s.heap.push { cls:=.type "dict",data:=.dict #[] }) (t':=s.toks) (fun _ _ q=>Heap.get?_push_of_some _ q) (C3 _) (dx_ok ⟨F7 _,beq_eq_false_iff_ne.mpr (Ne.symm (L8 I.big)),[],.nil,_,#[],0,Heap.get?_push_size _ rfl,⟨rfl,rfl,rfl⟩,rfl,rfl,List.nodup_nil⟩);refine wpAny_Dict_any rfl rfl (by simp) (by show 1<=15;decide) (pairTrees_cons_walk (A9 (hk.out pins _ Y _ _ I1 (q _ hn)) fun u s1 ⟨x,H1,I1,rx,q1⟩=>A9 (hv.out pins s1 Y H1 _ I1 q1) fun r s2 ⟨y,H2,I2,ry,e,b,k,ex,eb,q2⟩=>pairTrees_nil_walk ?_));subst ex
 cases (show u=Value.ref b from rx)
 obtain ⟨z,hd,xs,rel,dd⟩:=I2.dx e (fun _ h=>nomatch h);unfold storeAll;rw [List.forIn_cons];refine wpAny_bind (wpAny_bind (wpAny_dictSet_heap (hsz:=by rw [<- Paired.length rel];exact z) (knd:=tupleKind (M6 X.prog X.w)) (show X.A.units<cLine by lia) (I2.keyS eb) dd fun h' dd' hs=>wpAny_pure ?_))
 dsimp only
 rw [List.forIn_nil];exact wpAny_pure ⟨.ref s.heap.objs.size,_,amW (kvs:=[]) I2 e hd rel rfl (by decide) ry dd' hs,rfl,q2⟩⟩
end
theorem amk{P:Program}{w:World} : amT P w K td ty Y H Q=td Y H fun x H1=>ty Y H1 fun y H2=>∃ a kvs b k v,x=.ref a/\H2 a=some (dX P w a kvs)/\KeysX K H2 kvs/\y=.ref b/\B1 K H2 b (k.map kV)/\lookX kvs k=some v/\Q v H2:=rfl
theorem aml{P:Program}{w:World} : amU P w K td ty tv D Y H=tv Y H fun v H1=>td Y H1 fun x H2=>ty Y H2 fun y H3=>∃ a kvs b k,x=.ref a/\H3 a=some (dX P w a kvs)/\KeysX K H3 kvs/\y=.ref b/\B1 K H3 b (k.map kV)/\lookX kvs k=none/\kvs.length<sizeLine/\D.nx Y (A0 H3 a (dX P w a (kvs++[(k,b,v)]))):=rfl
theorem amm{P:Program}{w:World} : amV P w K tk tv Y H Q=∀ p,H p=none->tk Y (A0 H p (dX P w p [])) fun x H1=>tv Y H1 fun y H2=>H2 p=some (dX P w p [])/\∃ b k,x=.ref b/\B1 K H2 b (k.map kV)/\Q (.ref p) (A0 H2 p (dX P w p [(k,b,y)])):=rfl
theorem ars{P:Program}{w:World} : rNotX P w K (.ref b) (.ref a) H Q=∃ kvs k,H a=some (dX P w a kvs)/\KeysX K H kvs/\B1 K H b (k.map kV)/\Q (.bl (!(lookX kvs k).isSome)) H:=
 propext ⟨fun ⟨_,kvs,_,k,e,h1,h2,e2,h3,h4⟩=>by cases e;cases e2;exact ⟨kvs,k,h1,h2,h3,h4⟩,fun ⟨kvs,k,h1,h2,h3,h4⟩=>⟨a,kvs,b,k,rfl,h1,h2,rfl,h3,h4⟩⟩
end L2
set_option maxRecDepth 100000
namespace L2
open PySem PySem.Spec PyProof.Rows
theorem aoz{xs ys:List Str}(r1:Vals (xs.map V.str) its)(r2:Vals (ys.map V.str) its2) :
  ∀ j (h1:j<its.toArray.size) (h2:j<its2.toArray.size) (g1:j<(xs.map fun z:Str=>z.cps.toList).length) (g2:j<(ys.map fun z:Str=>z.cps.toList).length),SeqAt.EqAt A s its.toArray[j] its2.toArray[j] (decide ((xs.map fun z:Str=>z.cps.toList)[j]=(ys.map fun z:Str=>z.cps.toList)[j]))/\SeqAt.RcLt A s its.toArray[j] its2.toArray[j] (decide ((xs.map fun z:Str=>z.cps.toList)[j]<(ys.map fun z:Str=>z.cps.toList)[j])):=by
 intro j h1 h2 g1 g2;rw [A6] at g1 g2;obtain ⟨v1,w1,t,rfl⟩:=Vals.get (i:=j) (x:=.str xs[j]) r1 (by simp [g1]);obtain ⟨v2,w2,u,rfl⟩:=Vals.get (i:=j) (x:=.str ys[j]) r2 (by simp [g2]);have q1:its.toArray[j]=.str xs[j] t:=by have:=(E9.mp w1).2;simpa using this
 have q2:its2.toArray[j]=.str ys[j] u:=by have:=(E9.mp w2).2;simpa using this
 rw [q1,q2,List.getElem_map,List.getElem_map];refine ⟨?_,fun prog w E Q h=>lt_str h⟩
 have:=SeqAt.EqAt.str_str (A:=A) (s:=s) xs[j] t ys[j] u
 rwa [show (xs[j]==ys[j])=decide (xs[j].cps.toList=ys[j].cps.toList) by
  rw [Bool.beq_eq_decide_eq];exact decide_eq_decide.mpr ⟨fun e=>by rw [e],fun e=>by
   have:xs[j].cps=ys[j].cps:=Array.toList_inj.mp e
   cases h1:xs[j];cases h2:ys[j];rw [h1,h2] at this;exact congrArg Str.mk this⟩] at this
noncomputable def rLtL (K:PySem.W.Frag) (x y:V) (H:Hp) (Q:VK):Prop:=rLtK K x y H Q\/∃ (a b:Addr) (xs ys:List Str),x=.ref a/\y=.ref b/\D0 K H a (xs.map V.str)/\D0 K H b (ys.map V.str)/\Q (.bl (decide ((xs.map fun z:Str=>z.cps.toList)<ys.map fun z:Str=>z.cps.toList))) H
theorem q_ltL(hu:X.A.units+64<cLine)(hK:X.K=K:=by rfl):QOp X (compareOp .Lt) (rLtL K):=⟨by
 intro pins s Y H x y v u Q I rx ry h
 rcases h with h | ⟨a,b,xs,ys,rfl,rfl,h1,h2,q⟩
 .exact (q_ltK hu hK).out pins s Y H x y v u Q I rx ry h
 subst hK
 cases rx
 cases ry
 have u0:X.A.units<cLine:=by lia
 obtain ⟨its,r1,l1,_⟩:=I.list h1;obtain ⟨its2,r2,l2,_⟩:=I.list h2;have e1:=r1.length;have e2:=r2.length;rw [A6] at e1 e2;exact SeqAt.RcLt.lists (fun a=>List.lt_irrefl a) l1.isList l2.isList (by simpa using e1.symm) (by simpa using e2.symm) u0 (aoz r1 r2) _ _ _ _ ⟨.bl _,H,I,rfl,q⟩⟩
end L2
open L2 in
local macro_rules | `(tactic| walk_at "rd")=>`(tactic| simp only [↓amF,↓ap_c,↓anP,↓aqG,↓alA,↓anQ,↓anR,↓aqH,↓anS,↓aqI,↓aqJ,↓anT,↓ap_op,↓anK,↓ap_tB,↓aqE,↓aqD,↓ap_or,↓anN,↓aqF,↓anO,↓anM,↓ap_if,↓alz,↓ap_cb,↓anX,↓aqM,↓anY,↓aqN,↓aqO,↓ap_sl,↓ajI,↓anZ,↓aqR,↓an9,↓alE,↓an7,↓an8,↓alF,↓alG,↓ap_bm,↓aqP,↓aqK,↓anV,↓anU,↓alC,↓anW,↓ap_un,↓ap_rU,↓aqL,↓aqQ,↓an0,↓an1,↓an2,↓an3,↓alB,↓an4,↓alD,↓an5,↓anL,an6,aoa,alH,alI,alJ,↓ad_ii,↓ad_ss,↓ad_rr,↓mu_ii,↓mu_ri,↓eq_ii,↓eq_ss,↓eq_bb,↓eq_rx,↓eq_xr,↓ne_ii,↓ne_ss,↓ne_bb,↓ne_rx,↓ne_xr,↓L2.lt_ii,↓L2.lt_ss,↓le_ii,↓le_ss,↓gt_ii,↓gt_ss,↓ge_ii,↓ge_ss,↓in_xs,↓in_xr,↓sl_s,↓sl_r,↓len_s,↓len_r,↓aqU,↓all_r,↓isi_t,↓ord_s,↓aq0,↓alN,amJ,↓alO,↓tup_r,↓aog,↓aq1,↓aq2,↓aoh,↓aoi,↓alQ,↓alR,↓aob,↓aoc,↓amk,↓aml,↓amm,↓ars,↓aov,↓aoy,↓aro,↓arp,↓arq,↓arl,↓arh,↓arf,↓aor,↓akd,↓ari,↓arj,↓ark,↓any_r,↓al1,↓aoo,↓aop,↓aq7,↓aoq,↓al3,↓aoj,↓alW,↓aol,↓alV,alK,af9,cxK,cxKn,cxKb,cxC,cxCn,cxCb,E6,List.map_nil,J9,Z2,Nat.sub_self,Nat.reduceAdd,Nat.reduceSub,Nat.zero_add,Nat.add_one_sub_one,List.replicate_zero,jD,M3,dH,fT,List.getElem?_cons_zero,List.getElem?_cons_succ,List.set_cons_zero,List.set_cons_succ,Option.some.injEq,Option.join_some,Option.join_none,exists_eq_left',exists_eq_left,exists_eq',exists_eq,reduceCtorEq,false_and,and_false,exists_false,exists_const,false_or,or_false,true_and,and_true,V.str.injEq,V.int.injEq,V.bl.injEq,V.ref.injEq,V.ty.injEq,List.cons.injEq,exists_and_left,exists_and_right,and_assoc,if_true,if_false,mF,Bool.not_true,Bool.not_false,ite_true,ite_false,Int.reduceLT,Int.reduceLE,F7])
namespace K72
open PySem PySem.Spec PyProof.Rows L2
set_option maxRecDepth 100000
set_option maxHeartbeats 4000000
noncomputable def top (i:Nat):Stmt:=PySem.Challenge.pw_sortlore_k72_a_pair_parts.main.body.getD i (.Pass ⟨0,0,0,0⟩)
noncomputable abbrev aL:Stmt:=top 8
noncomputable abbrev b9:Stmt:=top 9
noncomputable abbrev aM:Stmt:=top 12
noncomputable abbrev Q8:Stmt:=top 15
noncomputable abbrev rF:Stmt:=top 17
noncomputable abbrev nN:Stmt:=top 27
noncomputable abbrev rG:Stmt:=top 28
noncomputable abbrev eJ:Stmt:=top 29
noncomputable abbrev m9:Stmt:=top 30
noncomputable abbrev bX:Stmt:=top 31
noncomputable abbrev bY:Stmt:=top 32
noncomputable abbrev nO:Stmt:=top 33
noncomputable abbrev eK:Stmt:=top 34
noncomputable abbrev Q1:Stmt:=top 35
noncomputable abbrev eL:Stmt:=qD (top 36) 0
noncomputable abbrev eM:Stmt:=qD (top 36) 3
noncomputable abbrev gL:Stmt:=top 18
noncomputable abbrev bZ:Stmt:=top 19
noncomputable abbrev s_cut:Stmt:=top 20
noncomputable abbrev gM:Stmt:=qD (top 36) 4
noncomputable abbrev eN:Stmt:=qD (top 36) 5
noncomputable abbrev nP:Stmt:=top 38
noncomputable abbrev nQ:Stmt:=top 39
noncomputable abbrev nR:Stmt:=top 40
noncomputable abbrev n9:Stmt:=top 41
noncomputable abbrev aN:Stmt:=top 42
noncomputable abbrev o0:Stmt:=top 44
noncomputable abbrev X6:Stmt:=top 45
noncomputable abbrev c0:Stmt:=top 48
noncomputable abbrev u7:Stmt:=top 49
noncomputable abbrev kP:Stmt:=top 50
noncomputable abbrev gN:Stmt:=top 51
noncomputable abbrev rH:Stmt:=top 52
noncomputable abbrev rJ:Stmt:=top 53
noncomputable abbrev kQ:Stmt:=top 55
noncomputable abbrev c9:Stmt:=top 56
noncomputable abbrev j3:Stmt:=top 57
noncomputable abbrev kR:Stmt:=top 58
noncomputable abbrev N0:Stmt:=top 59
noncomputable abbrev nS:Stmt:=top 61
noncomputable abbrev cA:Stmt:=top 62
noncomputable abbrev kS:Stmt:=top 63
noncomputable abbrev eO:Stmt:=top 64
noncomputable abbrev j4:Stmt:=top 65
noncomputable abbrev P1:Stmt:=top 66
noncomputable abbrev Q9:Stmt:=top 67
noncomputable abbrev aO:Stmt:=top 68
noncomputable abbrev cB:Stmt:=top 69
noncomputable abbrev j5:Stmt:=top 70
noncomputable abbrev gO:Stmt:=top 71
noncomputable abbrev s_law:Stmt:=top 72
noncomputable def visB (S:Scope) (x:Str):Bool:=decide (S.names.lookup x=some .local) || decide (S.names.lookup x=some .cell) || decide (S.names.lookup x=some .free)
theorem qvd{pos:Pos}{S:Scope}{x:Str}(hN:X.N=N)(hs:X.env.scope=S)(h:(decide (N[n]?=some x)&&visB S x && !(x==("__debug__" : Str)) && !(x==("__classdict__" : Str)))=true):QE X (.Name x pos) (tVar n):=by
 subst hN hs;simp only [visB,Z5,Bool.or_eq_true,decide_eq_true_eq,mG] at h;exact qe_v h.1.1.1 (h.1.1.2.elim (fun z=>z.elim .inl fun z=>.inr (.inl z)) fun z=>.inr (.inr z)) h.1.2 h.2
theorem len1{α:Type}{F:List α->Prop}(h:∀ a,F [a]):∀ us:List α,us.length=1->F us
 | [a],_=>h a
theorem len2{α:Type}{F:List α->Prop}(h:∀ a b,F [a,b]):∀ us:List α,us.length=2->F us
 | [a,b],_=>h a b
theorem len3{α:Type}{F:List α->Prop}(h:∀ a b c,F [a,b,c]):∀ us:List α,us.length=3->F us
 | [a,b,c],_=>h a b c
theorem len4{α:Type}{F:List α->Prop}(h:∀ a b c d,F [a,b,c,d]):∀ us:List α,us.length=4->F us
 | [a,b,c,d],_=>h a b c d
theorem len5{α:Type}{F:List α->Prop}(h:∀ a b c d e,F [a,b,c,d,e]):∀ us:List α,us.length=5->F us
 | [a,b,c,d,e],_=>h a b c d e
theorem E5{Q:List Str}{sc:Scope}(h1:sc.kind=.function:=by rfl)(h2:sc.isCoroutine=false:=by rfl)(h3:sc.isGenerator=false:=by rfl)(h4:N.Nodup:=by decide +kernel)(h5:N.take Q.length=Q:=by rfl)(h6:∀ x∈Q,sc.names.lookup x=some .local\/sc.names.lookup x=some .cell:=by decide +kernel)(h7:∀ y∈sc.names,y.2≠.free:=by decide +kernel):FnScope N Q sc:=⟨h1,h2,h3,h4,h5,h6,h7⟩
theorem U7{kn:List (Str×NameKind)}{sc:Scope}(h1:sc.kind=.function:=by rfl)(h2:∀ x∈sc.names,x.2≠.cell:=by decide +kernel)(h3:∀ x∈sc.names,x.2=.local->sc.names.lookup x.1=some .local:=by decide +kernel)(h4:∀ x∈sc.names,x.2=.free->kn.lookup x.1=some .cell\/kn.lookup x.1=some .free:=by decide +kernel)(h5:∀ x∈sc.names,x.2=.free->sc.names.lookup x.1=some .free:=by decide +kernel)(h6:N'.length=k+ixs.length:=by rfl)(h7:ixs.map (fun i=>N[i]?)=(N'.drop k).map some:=by decide +kernel)(h8:∀ x∈N'.drop k,(x,NameKind.free)∈sc.names:=by decide +kernel):CompOk N kn sc N' k ixs:=⟨h1,h2,h3,h4,h5,h6,h7,h8⟩
theorem hm(r:Room k A)(h:j<=k:=by decide):Room j A:=r.mono h
structure DF(K:PySem.W.Frag)(n:Str)(s:Stmt):Prop where
 ex:∃ (f:Addr) (oc:Value) (od:Option Addr) (kV dc pm:Value) (an:Option Addr) (cd ct:Value) (sl:Array (Option Value)),O0 K mainGlobals n=some (some (.ref f))/\K.lookup f=some ⟨oc,od,.func (T9 n n (V4 s) (U4 s) (C1 s) .none kV dc pm an cd ct),sl⟩/\X2 K cd n=true/\V3 K (.ref f)=true
theorem df_mk{n:Str}{s:Stmt}{kV dc:Value}{sl:Array (Option Value)}(a:O0 K mainGlobals n=some (some (.ref f)))(l:K.lookup f=some ⟨oc,od,.func (T9 n n (V4 s) (U4 s) (C1 s) .none kV dc pm an cd ct),sl⟩)(c:X2 K cd n=true)(k:V3 K (.ref f)=true):DF K n s:=⟨f,oc,od,kV,dc,pm,an,cd,ct,sl,a,l,c,k⟩
theorem DF.go{P:Program}{w:World}{base:Heap}{n:Str}{s:Stmt}(d:DF K n s)(X:K.In h)(G:h.Ns mainGlobals mg)(_:K.In base)(ok:∀ {f fd},FunD K n n s f fd->FnOk P w K mg base D9 k f fd ps sp)(hl:∀ (kV dc pm:Value) (an:Option Addr) (cd ct:Value) (us:List Value),us.length=ps.length->bindArgs (T9 n n (V4 s) (U4 s) (C1 s) .none kV dc pm an cd ct) ⟨us,[]⟩=pure (ps.zip us):=by first | exact fun _ _ _ _ _ _=>len1 fun _=>rfl | exact fun _ _ _ _ _ _=>len2 fun _ _=>rfl | exact fun _ _ _ _ _ _=>len3 fun _ _ _=>rfl | exact fun _ _ _ _ _ _=>len4 fun _ _ _ _=>rfl | exact fun _ _ _ _ _ _=>len5 fun _ _ _ _ _=>rfl):FO P w K mg base k n ps [] sp:=by
 obtain ⟨f,oc,od,kV,dc,pm,an,cd,ct,sl,a,l,c,kp⟩:=d.ex;exact ⟨_,_,ok (t6 (st:=s) l c),U3 X G a,kp,[],.all (hl kV dc pm an cd ct),.nil⟩
structure Txt(P:Program)(w:World)(K:PySem.W.Frag)(mg:Str->Option Value)(C:Addr):Prop where
 cl:Cls K C
 na_figures:NoAttr K C "figures"
 na_behind:NoAttr K C "behind"
 na_jobs:NoAttr K C "jobs"
 na_letter_line:NoAttr K C "letter_line"
 na_mark_line:NoAttr K C "mark_line"
 na_made:NoAttr K C "made"
 b_any:mg "any"=none
 b_dict:mg "dict"=none
 b_enumerate:mg "enumerate"=none
 b_int:mg "int"=none
 b_isinstance:mg "isinstance"=none
 b_len:mg "len"=none
 b_list:mg "list"=none
 b_min:mg "min"=none
 b_range:mg "range"=none
 b_reversed:mg "reversed"=none
 b_str:mg "str"=none
 b_tuple:mg "tuple"=none
 b_zip:mg "zip"=none
 g_MARK:∃ t,mg "MARK"=some (.int 0 t)
 g_LETTER:∃ t,mg "LETTER"=some (.int 2 t)
 g_FIGURES:∃ t,mg "FIGURES"=some (.int 1 t)
 x_JOBS:∃ a,mg "JOBS"=some (.ref a)/\ModD P w K a [((Sum.inr ("row" : Str):B3),V.str "letter"),((Sum.inr ("marks" : Str):B3),V.str "mark"),((Sum.inr ("great" : Str):B3),V.str "great"),((Sum.inr ("as" : Str):B3),V.str "as"),((Sum.inr ("over" : Str):B3),V.str "over")]
 x_AGAIN:∃ a,mg "AGAIN"=some (.ref a)/\∀ H:Hp,B1 K H a [V.str "letter",V.str "mark",V.str "over"]
 x_START:∃ a,mg "START"=some (.ref a)/\∀ H:Hp,B1 K H a [V.int 0,V.int 0,V.int 0,V.int 0]
theorem aib{α:Type} : ∀ {l:List (Str×α)} {p:Str} {j:α},(l.map (·.1)).Nodup->(p,j)∈l->l.lookup p=some j
 | [],_,_,_,h=>by cases h
 | (y,t)::l,p,j,nd,h=>by
  rw [E6,V1] at nd;rw [List.lookup_cons]
  rcases K0.mp h with h | h
  .obtain ⟨rfl,rfl⟩:=Prod.mk.inj h
   simp
  .have:p≠y:=fun e=>nd.1 (D8.mpr ⟨_,h,e⟩)
   have e:(p==y)=false:=by simpa using this
   rw [e];exact aib nd.2 h
theorem aoA(ls:List Str)(R:List Rl):C5 ((("row" : Str),ls)::R)=(ls.map fun p=>(p,("letter" : Str)))++C5 R:=by
 rw [nF,aI.2.2 (.inl rfl)];rfl
theorem aky(ls:List Str)(R:List Rl):C5 ((("marks" : Str),ls)::R)=(ls.map fun p=>(p,("mark" : Str)))++C5 R:=by
 rw [nF,aI.2.2 (.inr (.inl rfl))];rfl
theorem SG_nd:SG.Nodup:=by decide +kernel
theorem vD:SG.length=93:=by decide +kernel
theorem rw_ne{w u:Str}(n:u≠w):rowsW ((u,zs)::R) w=rowsW R w:=by
 unfold rowsW;rw [jC (by simpa using n)]
theorem rw_eq{w:Str} : rowsW ((w,zs)::R) w=zs::rowsW R w:=by
 unfold rowsW;rw [jB (by simp)];rfl
theorem wS{d:Value}(h:(us++[d]).length=4):∃ u1 u2 u3,us=[u1,u2,u3]:=by
 match us,h with
 | [a,b,c],_=>exact ⟨a,b,c,rfl⟩
 | [],h=>simp at h
 | [_],h=>simp at h
 | [_,_],h=>simp at h
 | _::_::_::_::r,h=>simp at h
theorem wT(h:(us++[]).length=4):∃ u1 u2 u3 u4,us=[u1,u2,u3,u4]:=by
 match us,h with
 | [a,b,c,d],_=>exact ⟨a,b,c,d,rfl⟩
 | [],h=>simp at h
 | [_],h=>simp at h
 | [_,_],h=>simp at h
 | [_,_,_],h=>simp at h
 | _::_::_::_::_::r,h=>simp at h
inductive LvD where
 | tt (xs:List (List Int))
 | ii (xs:List Int)
 | ss (z:Str)
deriving DecidableEq
noncomputable def LvD.kind:LvD->Nat
 | .tt _=>0
 | .ii _=>1
 | .ss _=>2
noncomputable def LvD.lt:LvD->LvD->Bool
 | .tt xs,.tt ys=>decide (xs<ys)
 | .ii xs,.ii ys=>decide (xs<ys)
 | .ss x,.ss y=>decide (x.cps.toList<y.cps.toList)
 | _,_=>false
noncomputable def LvAt (H:Hp) (v:V):LvD->Prop
 | .tt xs=>∃ (a:Addr) (as:List Addr),v=.ref a/\H a=some (.lst (as.map V.ref))/\Paired (fun c (x:List Int)=>H c=some (.tup (x.map V.int))) as xs
 | .ii xs=>∃ a:Addr,v=.ref a/\H a=some (.lst (xs.map V.int))
 | .ss z=>v=.str z
theorem LvAt.same{d:LvD}(h:LvAt H v d)(S:Same H H'):LvAt H' v d:=by
 cases d with
 | tt xs=>obtain ⟨a,as,e,h1,h2⟩:=h;exact ⟨a,as,e,S _ _ h1,N5 h2 fun _ _ e=>S _ _ e⟩
 | ii xs=>obtain ⟨a,e,h1⟩:=h;exact ⟨a,e,S _ _ h1⟩
 | ss z=>exact h
theorem wU : ∀ {as:List Addr} {xs:List (List Int)},Paired (fun c (x:List Int)=>H c=some (.tup (x.map V.int))) as xs->DnAll K H (as.map V.ref) (xs.map fun x=>PyData.tuple (x.map bO))
 | _,_,.nil=>.nil
 | _,_,.cons h t=>.cons (.tup (.of h) jW) (wU t)
theorem aic:∀ xs ys:List (List Int),Y4 (xs.map fun x=>PyData.tuple (x.map bO)) (ys.map fun x=>PyData.tuple (x.map bO))=decide (xs=ys)
 | [],[]=>by simp [Y4]
 | [],_::_=>by simp [Y4]
 | _::_,[]=>by simp [Y4]
 | x::xs,y::ys=>by
  rw [E6,E6,Y4,W2,qI,aic xs ys,jL]
  simp
theorem aid:∀ xs:List (List Int),y9 (xs.map fun x=>PyData.tuple (x.map bO))<=1
 | []=>F7 _
 | x::xs=>by
  rw [E6,y9,bM,qM]
  have:=aid xs
  lia
theorem LvAt.ne{d d':LvD}(h:LvAt H v d)(h':LvAt H v' d')(hk:d.kind=d'.kind)(q:Q (.bl (!decide (d=d'))) H):rNeU K v v' H Q:=by
 cases d with
 | tt xs=>cases d' with
  | tt ys=>
   obtain ⟨a,as,rfl,h1,h2⟩:=h;obtain ⟨b,bs,rfl,h3,h4⟩:=h';refine ⟨_,_,.lst (.of h1) (wU h2),.lst (.of h3) (wU h4),?_,?_⟩
   .have:=aid xs
    rw [bM];lia
   .rw [W2,aic,show decide (xs=ys)=decide (LvD.tt xs=LvD.tt ys) by simp];exact q
  | _=>cases hk
 | ii xs=>cases d' with
  | ii ys=>
   obtain ⟨a,rfl,h1⟩:=h;obtain ⟨b,rfl,h3⟩:=h';refine ⟨_,_,.lst (.of h1) jW,.lst (.of h3) jW,by rw [bM,qM];lia,?_⟩;rw [W2,qI,show decide (xs=ys)=decide (LvD.ii xs=LvD.ii ys) by simp];exact q
  | _=>cases hk
 | ss x=>cases d' with
  | ss y=>
   cases h;cases h';show Q (.bl (!decide (x=y))) H;rw [show decide (x=y)=decide (LvD.ss x=LvD.ss y) by simp];exact q
  | _=>cases hk
theorem LvAt.lt{d d':LvD}(h:LvAt H v d)(h':LvAt H v' d')(hk:d.kind=d'.kind)(q:Q (.bl (d.lt d')) H):rLtK K v v' H Q:=by
 cases d with
 | tt xs=>cases d' with
  | tt ys=>
   obtain ⟨a,as,rfl,h1,h2⟩:=h;obtain ⟨b,bs,rfl,h3,h4⟩:=h';exact .inr (.inr ⟨as,bs,xs,ys,.of h1,.of h3,N5 h2 fun _ _ e=>.of e,N5 h4 fun _ _ e=>.of e,q⟩)
  | _=>cases hk
 | ii xs=>cases d' with
  | ii ys=>
   obtain ⟨a,rfl,h1⟩:=h;obtain ⟨b,rfl,h3⟩:=h';exact .inl ⟨xs,ys,.of h1,.of h3,q⟩
  | _=>cases hk
 | ss x=>cases d' with
  | ss y=>cases h;cases h';exact q
  | _=>cases hk
theorem ad6 : ∀ {es:List (Addr×Addr)} {U:List G5},Paired (fun e (u:G5)=>H1 e.1=some (.tup [.int u.1,.int u.2.1,.ref e.2,.int u.2.2.2])/\H1 e.2=some (.tup (u.2.2.1.map V.int))) es U->Paired (fun c (x:List Int)=>H1 c=some (.tup (x.map V.int))) (es.map (·.2)) (U.map fun u=>u.2.2.1)
 | _,_,.nil=>.nil
 | _,_,.cons h t=>.cons h.2 (ad6 t)
noncomputable def e8 (b:Bool) (U:List G5) (z:Str):List LvD:=[.tt (U.map fun u=>[u.1,u.2.1]),.tt ((if b=true then U.reverse else U).map fun u=>u.2.2.1),.ii (U.map fun u=>u.2.2.2),.ss z]
noncomputable def IsLooks (H:Hp) (l:Addr) (ds:List LvD):Prop:=∃ vs:List V,H l=some (.lst vs)/\Paired (LvAt H) vs ds
theorem IsLooks.same{l:Addr}{ds:List LvD}(h:IsLooks H l ds)(S:Same H H'):IsLooks H' l ds:=
 let ⟨vs,h1,h2⟩:=h
 ⟨vs,S _ _ h1,N5 h2 fun _ _ e=>e.same S⟩
noncomputable def cmpD (d d':LvD):Int:=if d=d' then 0 else if d.lt d'=true then -1 else 1
noncomputable def cmpF (n:Nat) (ds ds':List LvD):Int:=(((Y3 cmpD ds ds').take n).find? fun v=>v≠0).getD 0
noncomputable def akz (C:Addr):Sp:=fun vs H Q _=>∃ (x j ll ml md:Addr) (z:Str) (g:Str->Str) (R:List Rl) (L M:List Str),vs=[.ref x,.str z]/\IsOrd C H x j ll ml md g R L M/\(G1 R).length<=1000/\z.length<=500/\aJ (hasW R "figures") (G1 R) z/\(∀ y,(stepY R L M y).length<=15)/\
 ∀ l H',H l=none->Same H H'->IsLooks H' l (e8 (hasW R "behind") (Q0 (stepY R L M) (cutF (hasW R "figures") (G1 R) z.cps.toList).2) z)->Q (.ref l) H'
noncomputable def e9 (R:List Rl) (L M:List Str) (z:Str):List LvD:=e8 (hasW R "behind") (Q0 (stepY R L M) (cutF (hasW R "figures") (G1 R) z.cps.toList).2) z
noncomputable def nU (C:Addr):Sp:=fun vs H Q _=>∃ (x j ll ml md:Addr) (z z':Str) (n:Nat) (g:Str->Str) (R:List Rl) (L M:List Str),vs=[.ref x,.str z,.str z',.int n]/\n<=4/\IsOrd C H x j ll ml md g R L M/\(G1 R).length<=1000/\z.length<=500/\z'.length<=500/\aJ (hasW R "figures") (G1 R) z/\aJ (hasW R "figures") (G1 R) z'/\(∀ y,(stepY R L M y).length<=15)/\
 ∀ H',Same H H'->Q (.int (cmpF n (e9 R L M z) (e9 R L M z'))) H'
theorem ahj(b b':Bool)(U U':List G5)(z z':Str)(i:Nat)(d d':LvD)(h:(e8 b U z)[i]?=some d)(h':(e8 b' U' z')[i]?=some d'):d.kind=d'.kind:=by
 match i with
 | 0=>cases h;cases h';rfl
 | 1=>cases h;cases h';rfl
 | 2=>cases h;cases h';rfl
 | 3=>cases h;cases h';rfl
 | i+4=>simp [e8] at h
theorem amn{ds ds':List LvD}{d d':LvD}(hi:i<n)(h:ds[i]?=some d)(h':ds'[i]?=some d')(fB:∀ k<i,ds[k]?=ds'[k]?)(G8:d≠d'):cmpF n ds ds'=cmpD d d':=by
 have hz:(Y3 cmpD ds ds')[i]?=some (cmpD d d'):=by rw [List.getElem?_zipWith,h,h']
 have hc:cmpD d d'≠0:=by
  unfold cmpD;rw [if_neg G8]
  split <;> decide
 have h0:∀ v∈(Y3 cmpD ds ds').take i,v=0:=by
  intro v hv;obtain ⟨k,hk,e⟩:=mB.mp hv;have hk1:k<i:=by lia
  have e2:(Y3 cmpD ds ds')[k]?=some v:=by rw [J7 (by lia),e]
  rw [List.getElem?_zipWith,fB k hk1] at e2
  cases q:ds'[k]? with
  | none=>rw [q] at e2;cases e2
  | some x=>
   rw [q] at e2
   have:cmpD x x=v:=by simpa using e2
   rw [<- this];exact if_pos rfl
 unfold cmpF;have e3:(Y3 cmpD ds ds').take n=(Y3 cmpD ds ds').take i++(cmpD d d'::((Y3 cmpD ds ds').take n).drop (i+1)):=by
  have hl:i<((Y3 cmpD ds ds').take n).length:=by
   have:=(E9.mp hz).1
   rw [L4];lia
  have e4:=p9 i ((Y3 cmpD ds ds').take n);rw [List.take_take,dN (Nat.le_of_lt hi)] at e4
  conv=>lhs;rw [<- e4]
  rw [fQ hl]
  have:((Y3 cmpD ds ds').take n)[i]=cmpD d d':=by
   rw [List.getElem_take];exact (E9.mp hz).2
  rw [this]
 rw [e3,List.find?_append,y0.mpr (fun v hv=>by simp [h0 v hv])];simp [hc]
theorem akA{ds ds':List LvD}(fB:∀ k<n,ds[k]?=ds'[k]?):cmpF n ds ds'=0:=by
 unfold cmpF
 have:((Y3 cmpD ds ds').take n).find? (fun v=>v≠0)=none:=y0.mpr fun v hv=>by
  obtain ⟨k,hk,e⟩:=mB.mp hv;have e2:(Y3 cmpD ds ds')[k]?=some v:=by rw [J7 (by lia),e]
  rw [List.getElem?_zipWith,fB k (by lia)] at e2
  cases q:ds'[k]? with
  | none=>rw [q] at e2;cases e2
  | some x=>
   rw [q] at e2
   have:cmpD x x=v:=by simpa using e2
   rw [<- this];simp [cmpD]
 rw [this];rfl
theorem aoB(h:(us++[]).length=5):∃ u1 u2 u3 u4 u5,us=[u1,u2,u3,u4,u5]:=by
 match us,h with
 | [a,b,c,d,e],_=>exact ⟨a,b,c,d,e,rfl⟩
 | [],h=>simp at h
 | [_],h=>simp at h
 | [_,_],h=>simp at h
 | [_,_,_],h=>simp at h
 | [_,_,_,_],h=>simp at h
 | _::_::_::_::_::_::r,h=>simp at h
theorem amo{d:Value}(h:(us++[d]).length=5):∃ u1 u2 u3 u4,us=[u1,u2,u3,u4]:=by
 match us,h with
 | [a,b,c,d],_=>exact ⟨a,b,c,d,rfl⟩
 | [],h=>simp at h
 | [_],h=>simp at h
 | [_,_],h=>simp at h
 | [_,_,_],h=>simp at h
 | _::_::_::_::_::r,h=>simp at h
noncomputable abbrev Rm:=Int×Int×Int×Int
noncomputable def W3 (r:Rm):List V:=[.int r.1,.int r.2.1,.int r.2.2.1,.int r.2.2.2]
noncomputable def N1 (r:Rm):List B3:=[.inl r.1,.inl r.2.1,.inl r.2.2.1,.inl r.2.2.2]
theorem akB{r s:Rm}(h:N1 r=N1 s):r=s:=by
 obtain ⟨a,b,c,d⟩:=r;obtain ⟨a',b',c',d'⟩:=s;simp only [N1,List.cons.injEq,Sum.inl.injEq,and_true] at h;obtain ⟨rfl,rfl,rfl,rfl⟩:=h;rfl
theorem gP(e:Same H H')(h:B1 K H a xs):B1 K H' a xs:=by
 rcases h with (h | ⟨o,h⟩) | h
 .exact .inl (.inl (e _ _ h))
 .exact .inl (.inr ⟨o,e _ _ h⟩)
 .exact .inr h
structure OrdC(C:Addr)(H:Hp)(x:Addr)(R:List Rl)(L M:List Str):Prop where
 ex:∃ j ll ml md,IsOrd C H x j ll ml md (nI R) R L M
 kn:(G1 R).length<=1000
 st:∀ y,(stepY R L M y).length<=15
theorem OrdC.same{x:Addr}(h:OrdC C H x R L M)(S:Same H H'):OrdC C H' x R L M:=
 let ⟨j,ll,ml,md,o⟩:=h.ex
 ⟨⟨j,ll,ml,md,o.same S⟩,h.kn,h.st⟩
noncomputable def o3 (R:List Rl) (z:Str):Prop:=z.length<=500/\aJ (hasW R "figures") (G1 R) z
noncomputable def difF (n:Nat) (f:Nat->Int):Int×Int:=match (U1 n).find? fun i=>f (i+1)≠0 with
 | some i=>(((i+1:Nat):Int),f (i+1))
 | none=>(0,0)
noncomputable def difR (R:List Rl) (L M:List Str) (n:Nat) (z z':Str):Int×Int:=difF n fun l=>cmpF l (e9 R L M z) (e9 R L M z')
theorem wV{f:Nat->Int}(hi:i<n)(h0:∀ k<i,f (k+1)=0)(h:f (i+1)≠0):difF n f=(((i+1:Nat):Int),f (i+1)):=by
 have e:(U1 n).find? (fun i=>f (i+1)≠0)=some i:=by
  rw [List.find?_eq_some_iff_append];refine ⟨by simpa using h,U1 i,List.range' (i+1) (n-(i+1)),?_,fun a ha=>by simpa using h0 a (g7.mp ha)⟩;have e1:i::List.range' (i+1) (n-(i+1))=List.range' i (n-i):=by rw [show n-i=(n-(i+1))+1 by lia,List.range'_succ]
  rw [e1,List.range_eq_range',List.range_eq_range',show List.range' i (n-i)=List.range' (0+i) (n-i) by rw [Nat.zero_add],List.range'_append_1,show i+(n-i)=n by lia]
 unfold difF;rw [e]
theorem wW{f:Nat->Int}(h0:∀ k<n,f (k+1)=0):difF n f=(0,0):=by
 have e:(U1 n).find? (fun i=>f (i+1)≠0)=none:=y0.mpr fun a ha=>by simpa using h0 a (g7.mp ha)
 unfold difF;rw [e]
noncomputable def spDif (C:Addr):Sp:=fun vs H Q _=>∃ (x:Addr) (z z':Str) (n:Nat) (R:List Rl) (L M:List Str),vs=[.ref x,.str z,.str z',.int n]/\n<=4/\OrdC C H x R L M/\o3 R z/\o3 R z'/\
 ∀ t H',H t=none->Same H H'->H' t=some (.tup [.int (difR R L M n z z').1,.int (difR R L M n z z').2])->Q (.ref t) H'
noncomputable def join4 (p q:Int×Int):Rm:=(p.1,p.2,q.1,q.2)
noncomputable def rK (C:Addr):Sp:=fun vs H Q _=>∃ (x y:Addr) (z z':Str) (n:Nat) (R R':List Rl) (L M L' M':List Str),vs=[.ref x,.ref y,.str z,.str z',.int n]/\n<=4/\OrdC C H x R L M/\OrdC C H y R' L' M'/\o3 R z/\o3 R z'/\o3 R' z/\o3 R' z'/\
 ∀ t H',H t=none->Same H H'->H' t=some (.tup (W3 (join4 (difR R L M n z z') (difR R' L' M' n z z'))))->Q (.ref t) H'
noncomputable def aP (b:Bool) (s a:Int×Int):Int×Int:=if a.1=0 then s else if s.1=0\/a.1<s.1 then a else if s.1=a.1/\a.1=2/\b=true then a else s
noncomputable def N2 (s:Int×Int):List V:=[.int s.1,.int s.2]
noncomputable def aif (K:PySem.W.Frag) (C:Addr):Sp:=fun vs H Q _=>∃ (x p q:Addr) (s a:Int×Int) (R:List Rl) (L M:List Str),vs=[.ref x,.ref p,.ref q]/\OrdC C H x R L M/\B1 K H p (N2 s)/\B1 K H q (N2 a)/\
 ∀ t,B1 K H t (N2 (aP (hasW R "behind") s a))->Q (.ref t) H
noncomputable def O4 (b b':Bool) (r d:Rm):Rm:=join4 (aP b (r.1,r.2.1) (d.1,d.2.1)) (aP b' (r.2.2.1,r.2.2.2) (d.2.2.1,d.2.2.2))
noncomputable def amX (K:PySem.W.Frag) (C:Addr):Sp:=fun vs H Q _=>∃ (x y p q:Addr) (r d:Rm) (R R':List Rl) (L M L' M':List Str),vs=[.ref x,.ref y,.ref p,.ref q]/\OrdC C H x R L M/\OrdC C H y R' L' M'/\B1 K H p (W3 r)/\B1 K H q (W3 d)/\
 ∀ t H',H t=none->Same H H'->H' t=some (.tup (W3 (O4 (hasW R "behind") (hasW R' "behind") r d)))->Q (.ref t) H'
noncomputable def j6 (r:Rm):Bool:=!decide (r.2.1=r.2.2.2)
noncomputable def u8 (r:Rm):Bool:=!decide (decide (r.1=1)=decide (r.2.2.1=1))
noncomputable def spOt (K:PySem.W.Frag) (f:Rm->Bool):Sp:=fun vs H Q _=>∃ (p:Addr) (r:Rm),vs=[.ref p]/\B1 K H p (W3 r)/\Q (.bl (f r)) H
noncomputable def letN (ss:List Tr):Nat:=(ss.filter fun s=>s.1=2).length
noncomputable def eP (R:List Rl) (L M:List Str) (z:Str):Bool:=decide (letN (stepF R L M z)=1)
noncomputable def amY (C:Addr):Sp:=fun vs H Q _=>∃ (x:Addr) (z:Str) (R:List Rl) (L M:List Str),vs=[.ref x,.str z]/\OrdC C H x R L M/\(stepF R L M z).length<=15/\∀ H',Same H H'->Q (.bl (eP R L M z)) H'
noncomputable abbrev Mv:=Str×Str×Rm
noncomputable def IsMv (H:Hp) (l:Addr) (ms:List Mv):Prop:=∃ as:List Addr,H l=some (.lst (as.map V.ref))/\Paired (fun a (m:Mv)=>∃ d,H a=some (.tup [.str m.1,.str m.2.1,.ref d])/\H d=some (.tup (W3 m.2.2))) as ms
theorem IsMv.same{l:Addr}{ms:List Mv}(h:IsMv H l ms)(S:Same H H'):IsMv H' l ms:=
 let ⟨as,h1,h2⟩:=h
 ⟨as,S _ _ h1,N5 h2 fun _ _ ⟨d,e1,e2⟩=>⟨d,S _ _ e1,S _ _ e2⟩⟩
theorem IsMv.put{t d:Addr}{as:List Addr}{ms:List Mv}{m:Mv}(h1:H t=some (.lst (as.map V.ref)))(h2:Paired (fun a (m:Mv)=>∃ d,H a=some (.tup [.str m.1,.str m.2.1,.ref d])/\H d=some (.tup (W3 m.2.2))) as ms)(ha:H a=some (.tup [.str m.1,.str m.2.1,.ref d]))(hd:H d=some (.tup (W3 m.2.2))) :
  IsMv (A0 H t (.lst (as.map V.ref++[V.ref a]))) t (ms++[m]):=by
 have ne:∀ {c xs},H c=some (.tup xs)->A0 H t (.lst (as.map V.ref++[V.ref a])) c=some (.tup xs):=fun {c xs} e=>by rw [A7 (ne_of e h1 (fun z=>by cases z))];exact e
 exact ⟨as++[a],by rw [A3,C9];rfl,Paired.snoc (N5 h2 fun _ _ ⟨d,e1,e2⟩=>⟨d,ne e1,ne e2⟩) ⟨d,ne ha,ne hd⟩⟩
noncomputable def mvsF (R:List Rl) (L M:List Str) (R':List Rl) (L' M':List Str) (n:Nat) (zs:List Str):List Mv:=zs.flatMap fun x=>zs.map fun y=>(x,y,join4 (difR R L M n x y) (difR R' L' M' n x y))
noncomputable def spMvs (C:Addr):Sp:=fun vs H Q _=>∃ (x y l:Addr) (zs:List Str) (n:Nat) (R R':List Rl) (L M L' M':List Str),vs=[.ref x,.ref y,.ref l,.int n]/\n<=4/\OrdC C H x R L M/\OrdC C H y R' L' M'/\H l=some (.lst (zs.map V.str))/\zs.length<=10/\(∀ z∈zs,o3 R z/\o3 R' z)/\
 ∀ t H',H t=none->Same H H'->IsMv H' t (mvsF R L M R' L' M' n zs)->Q (.ref t) H'
noncomputable def gQ (z:Str) (r:Rm) (u v:Str):Str×Str:=if r.2.1<0 then (u++z,v) else (u,v++z)
noncomputable def cat2 (zs:List Str):List Str:=zs.flatMap fun a=>zs.map fun b=>a++b
noncomputable def chkF (R:List Rl) (L M:List Str) (R':List Rl) (L' M':List Str) (zs:List Str):Option Str:=(zs.find? fun z=>!eP R L M z || !eP R' L' M' z).or ((cat2 zs).find? fun t=>decide (t∈G1 R) || decide (t∈G1 R'))
noncomputable def spChk (C:Addr):Sp:=fun vs H Q _=>∃ (x y l:Addr) (zs:List Str) (R R':List Rl) (L M L' M':List Str),vs=[.ref x,.ref y,.ref l]/\OrdC C H x R L M/\OrdC C H y R' L' M'/\H l=some (.lst (zs.map V.str))/\(∀ z∈zs,z.length<=100/\(stepF R L M z).length<=15/\(stepF R' L' M' z).length<=15)/\chkF R L M R' L' M' zs=none/\∀ H',Same H H'->Q .non H'
inductive Rch (b b':Bool) (ms:List Mv):Rm->Str->Str->Prop
 | st:Rch b b' ms (0,0,0,0) "" ""
 | go {r:Rm} {u v:Str} {m:Mv} : Rch b b' ms r u v->m∈ms->u8 r=false->j6 (O4 b b' r m.2.2)=false->Rch b b' ms (O4 b b' r m.2.2) (u++m.1) (v++m.2.1)
structure BE where
 r:Rm
 ra:Addr
 pa:Addr
 u:Str
 v:Str
structure Bst(P:Program)(w:World)(K:PySem.W.Frag)(H0 H:Hp)(d l:Addr)(es:List BE):Prop where
 same:Same H0 H
 ls:H l=some (.lst (es.map fun e=>V.ref e.ra))
 ds:H d=some (dX P w d (es.map fun e=>(N1 e.r,e.ra,V.ref e.pa)))
 rt:∀ e∈es,B1 K H e.ra (W3 e.r)
 pt:∀ e∈es,H e.pa=some (.tup [.str e.u,.str e.v])
theorem Bst.keys{P:Program}{w:World}{d l:Addr}{es:List BE}(B:Bst P w K H0 H d l es):KeysX K H (es.map fun e=>(N1 e.r,e.ra,V.ref e.pa)):=fun p hp=>by
 obtain ⟨e,he,rfl⟩:=D8.mp hp;exact B.rt e he
theorem Bst.more{P:Program}{w:World}{d l:Addr}{es:List BE}(B:Bst P w K H0 H d l es)(S:Same H H'):Bst P w K H0 H' d l es:=
 ⟨B.same.trans S,S _ _ B.ls,S _ _ B.ds,fun e he=>gP S (B.rt e he),fun e he=>S _ _ (B.pt e he)⟩
theorem akC{o o':HO}(h:B1 K H a xs)(hb:H b=some o)(hn:∀ xs,o≠.tup xs)(hf:∀ q u,o≠.frz q u):B1 K (A0 H b o') a xs:=by
 rcases h with (h | ⟨q,h⟩) | h
 .exact .inl (.inl (by rw [A7 (ne_of h hb (hn _).symm)];exact h))
 .exact .inl (.inr ⟨q,by rw [A7 (ne_of h hb (hf _ _).symm)];exact h⟩)
 .exact .inr h
theorem Bst.put{P:Program}{w:World}{d l t:Addr}{es:List BE}{r:Rm}{u v:Str}(B:Bst P w K H0 H d l es)(nd:H0 d=none)(nl:H0 l=none)(ht:B1 K H t (W3 r))(hp:H p=some (.tup [.str u,.str v])) :
  Bst P w K H0 (A0 (A0 H d (dX P w d (es.map (fun e=>(N1 e.r,e.ra,V.ref e.pa))++[(N1 r,t,V.ref p)]))) l (.lst (es.map (fun e=>V.ref e.ra)++[V.ref t]))) d l (es++[⟨r,t,p,u,v⟩]):=by
 have bA:d≠l:=ne_of B.ds B.ls (fun e=>by cases e);have k7:A0 H d (dX P w d (es.map (fun e=>(N1 e.r,e.ra,V.ref e.pa))++[(N1 r,t,V.ref p)])) l=some (.lst (es.map fun e=>V.ref e.ra)):=by rw [A7 bA.symm];exact B.ls
 have tu:∀ {c xs},H c=some (.tup xs)->A0 (A0 H d (dX P w d (es.map (fun e=>(N1 e.r,e.ra,V.ref e.pa))++[(N1 r,t,V.ref p)]))) l (.lst (es.map (fun e=>V.ref e.ra)++[V.ref t])) c=some (.tup xs):=fun {c xs} e=>by
  rw [A7 (ne_of e B.ls (fun z=>by cases z)),A7 (ne_of e B.ds (fun z=>by cases z))];exact e
 have sq:∀ {c xs},B1 K H c xs->B1 K (A0 (A0 H d (dX P w d (es.map (fun e=>(N1 e.r,e.ra,V.ref e.pa))++[(N1 r,t,V.ref p)]))) l (.lst (es.map (fun e=>V.ref e.ra)++[V.ref t]))) c xs:=fun {c xs} e=>
  akC (akC e B.ds (fun _ z=>by cases z) (fun _ _ z=>by cases z)) k7 (fun _ z=>by cases z) (fun _ _ z=>by cases z)
 refine ⟨(B.same.put nd).put nl,by rw [A3,C9];rfl,by rw [A7 bA,A3,C9];rfl,fun e he=>?_,fun e he=>?_⟩
 .rcases G0.mp he with he | he
  .exact sq (B.rt e he)
  .rw [E4.mp he];exact sq ht
 .rcases G0.mp he with he | he
  .exact tu (B.pt e he)
  .rw [E4.mp he];exact tu hp
structure Bfs(b b':Bool)(ms:List Mv)(es:List BE)(n:Nat):Prop where
 nd:(es.map (·.r)).Nodup
 rc:∀ e∈es,Rch b b' ms e.r e.u e.v
 cl:∀ i<n,∀ e,es[i]?=some e->u8 e.r=false/\∀ m∈ms,j6 (O4 b b' e.r m.2.2)=false/\O4 b b' e.r m.2.2∈es.map (·.r)
 ln:∀ (i:Nat) e,es[i]?=some e->e.u.length<=i/\e.v.length<=i
 st:∃ e,es[0]?=some e/\e.r=(0,0,0,0)
theorem look_es{es:List BE}{r:Rm} : lookX (es.map fun e=>(N1 e.r,e.ra,V.ref e.pa)) (N1 r)=none↔r∉es.map (·.r):=by
 unfold lookX;rw [Option.map_eq_none_iff,y0]
 constructor
 .intro h hm;obtain ⟨e,he,rfl⟩:=D8.mp hm;exact h _ (D8.mpr ⟨e,he,rfl⟩) (by simp)
 .intro h p hp;obtain ⟨e,he,rfl⟩:=D8.mp hp;intro q;exact h (D8.mpr ⟨e,he,akB (of_decide_eq_true q)⟩)
theorem akD:∀ {es:List BE} {i:Nat} {e:BE},(es.map (·.r)).Nodup->es[i]?=some e->lookX (es.map fun e=>(N1 e.r,e.ra,V.ref e.pa)) (N1 e.r)=some (V.ref e.pa)
 | [],i,e,_,h=>by simp at h
 | a::es,0,e,_,h=>by
  cases h;simp [lookX]
 | a::es,i+1,e,nd,h=>by
  rw [E6,V1] at nd;have h1:es[i]?=some e:=by simpa using h
  have ne:¬ N1 a.r=N1 e.r:=fun q=>nd.1 (by rw [akB q];exact D8.mpr ⟨e,K8 h1,rfl⟩)
  have:=akD nd.2 h1
  unfold lookX at this ⊢
  rw [E6,List.find?_cons_of_neg (by simpa using ne)];exact this
noncomputable def cC (r:Rm):Prop:=r.1∈([0,1,2,3,4]:List Int)/\r.2.1∈([-1,0,1]:List Int)/\r.2.2.1∈([0,1,2,3,4]:List Int)/\r.2.2.2∈([-1,0,1]:List Int)
noncomputable def allR:List Rm:=[0,1,2,3,4].flatMap fun a=>[-1,0,1].flatMap fun b=>[0,1,2,3,4].flatMap fun c=>[-1,0,1].map fun d=>(a,b,c,d)
theorem aoC{r:Rm}(h:cC r):r∈allR:=by
 obtain ⟨a,b,c,d⟩:=r;exact W0.mpr ⟨a,h.1,W0.mpr ⟨b,h.2.1,W0.mpr ⟨c,h.2.2.1,D8.mpr ⟨d,h.2.2.2,rfl⟩⟩⟩⟩
theorem amp(n:Nat)(ds ds':List LvD):cmpF n ds ds'∈([-1,0,1]:List Int):=by
 unfold cmpF;cases h:((Y3 cmpD ds ds').take n).find? fun v=>v≠0 with
 | none=>simp
 | some v=>
  obtain ⟨i,hi,e⟩:=g6.mp (List.mem_of_mem_take (List.mem_of_find?_eq_some h));rw [List.getElem_zipWith] at e;rw [<- e];show cmpD _ _∈_;unfold cmpD
  split
  .simp
  .split <;> simp
theorem rL(hn:n<=4):(difR R L M n z z').1∈([0,1,2,3,4]:List Int)/\(difR R L M n z z').2∈([-1,0,1]:List Int):=by
 unfold difR difF
 split
 .rename_i i h
  have hi:=g7.mp (List.mem_of_find?_eq_some h);refine ⟨?_,amp _ _ _⟩
  match i,hi with
  | 0,_=>simp
  | 1,_=>simp
  | 2,_=>simp
  | 3,_=>simp
  | i+4,h=>exact absurd h (by lia)
 .simp
theorem amZ(b:Bool)(s a:Int×Int):aP b s a=s\/aP b s a=a:=by
 unfold aP
 split
 .exact .inl rfl
 .split
  .exact .inr rfl
  .split
   .exact .inr rfl
   .exact .inl rfl
theorem art{b:Bool}{r d:Rm}(h:cC r)(h':cC d):cC (O4 b b' r d):=by
 obtain ⟨h1,h2,h3,h4⟩:=h;obtain ⟨k1,k2,k3,k4⟩:=h';unfold O4 join4
 rcases amZ b (r.1,r.2.1) (d.1,d.2.1) with e | e <;> rcases amZ b' (r.2.2.1,r.2.2.2) (d.2.2.1,d.2.2.2) with e' | e' <;> rw [e,e']
 .exact ⟨h1,h2,h3,h4⟩
 .exact ⟨h1,h2,k3,k4⟩
 .exact ⟨k1,k2,h3,h4⟩
 .exact ⟨k1,k2,k3,k4⟩
theorem aru(hn:n<=4){m:Mv}(h:m∈mvsF R L M R' L' M' n zs):cC m.2.2/\m.1∈zs/\m.2.1∈zs:=by
 obtain ⟨x,hx,h⟩:=W0.mp h;obtain ⟨y,hy,rfl⟩:=D8.mp h;exact ⟨⟨(rL hn).1,(rL hn).2,(rL hn).1,(rL hn).2⟩,hx,hy⟩
theorem Rch.ok{b:Bool}{ms:List Mv}{r:Rm}{u v:Str}(hm:∀ m∈ms,cC m.2.2)(h:Rch b b' ms r u v):cC r:=by
 induction h with
 | st=>exact ⟨by simp,by simp,by simp,by simp⟩
 | go _ h1 _ _ ih=>exact art ih (hm _ h1)
theorem afg:∀ {l m:List Rm},l.Nodup->(∀ x∈l,x∈m)->l.length<=m.length
 | [],_,_,_=>F7 _
 | x::l,m,nd,h=>by
  obtain ⟨n1,n2⟩:=V1.mp nd;have hx:=h x N3
  have:=afg (l:=l) (m:=m.erase x) n2 fun y hy=>(List.mem_erase_of_ne (fun e=>n1 (by rw [<- e];exact hy))).mpr (h y (N9 _ hy))
  rw [pS hx] at this
  have:0<m.length:=pT hx
  rw [J9];lia
theorem Bfs.few{b:Bool}{ms:List Mv}{es:List BE}(B:Bfs b b' ms es n)(hm:∀ m∈ms,cC m.2.2):es.length<=225:=by
 have:=afg (m:=allR) B.nd fun r hr=>by
  obtain ⟨e,he,rfl⟩:=D8.mp hr;exact aoC ((B.rc e he).ok hm)
 rw [A6] at this;exact this
theorem Rch.any{b:Bool}{ms:List Mv}{r:Rm}{u v:Str}(h:Rch b b' ms r u v)(hu:u8 r=true):∃ m,m∈ms:=by
 cases h with
 | st=>exact absurd hu (by decide)
 | go _ h1 _ _=>exact ⟨_,h1⟩
theorem gR(x y:Str):(x++y).length=x.length+y.length:=Array.size_append
theorem Bfs.put{b:Bool}{ms:List Mv}{es:List BE}{e:BE}{m:Mv}{t:Addr}(B:Bfs b b' ms es i)(he:es[i]?=some e)(hm:m∈ms)(h1:m.1.length<=1)(h2:m.2.1.length<=1)(hu:u8 e.r=false)(ho:j6 (O4 b b' e.r m.2.2)=false)(hn:O4 b b' e.r m.2.2∉es.map (·.r)) :
  Bfs b b' ms (es++[⟨O4 b b' e.r m.2.2,t,p,e.u++m.1,e.v++m.2.1⟩]) i:=by
 have hi:i<es.length:=(E9.mp he).1;refine ⟨?_,fun a ha=>?_,fun k hk a ha=>?_,fun k a ha=>?_,?_⟩
 .rw [C9];exact Y2.mpr ⟨B.nd,by simp,fun x hx y hy q=>hn (by rw [List.map_singleton,E4] at hy;have e2:O4 b b' e.r m.2.2=x:=hy.symm.trans q.symm;rw [e2];exact hx)⟩
 .rcases G0.mp ha with ha | ha
  .exact B.rc a ha
  .rw [E4.mp ha];exact (B.rc e (K8 he)).go hm hu ho
 .rw [dD (by lia)] at ha;obtain ⟨c1,c2⟩:=B.cl k hk a ha;exact ⟨c1,fun m hm=>⟨(c2 m hm).1,by rw [C9];exact Q5 _ (c2 m hm).2⟩⟩
 .by_cases hk:k<es.length
  .rw [dD hk] at ha;exact B.ln k a ha
  .have iO:k=es.length:=by
    have:=(E9.mp ha).1
    rw [D7,Z0] at this;lia
   rw [iO,fO (C3 _),Nat.sub_self] at ha;cases ha
   have:=B.ln i e he
   simp only [gR];lia
 .obtain ⟨a,h1,h2⟩:=B.st;exact ⟨a,by rw [dD (by lia)];exact h1,h2⟩
theorem Bfs.next{b:Bool}{ms:List Mv}{es:List BE}{e:BE}(B:Bfs b b' ms es i)(he:es[i]?=some e)(hu:u8 e.r=false)(h:∀ m∈ms,j6 (O4 b b' e.r m.2.2)=false/\O4 b b' e.r m.2.2∈es.map (·.r)):Bfs b b' ms es (i+1):=
 ⟨B.nd,B.rc,fun k hk a ha=>by
  by_cases iP:k=i
  .rw [iP,he] at ha;cases ha;exact ⟨hu,h⟩
  .exact B.cl k (by lia) a ha,B.ln,B.st⟩
structure BwI(P:Program)(w:World)(K:PySem.W.Frag)(H2:Hp)(x y l:Addr)(n:Nat)(mv d rl:Addr)(b b':Bool)(ms:List Mv)(i:Nat)(Y:L2.St)(H:Hp):Prop where
 ex:∃ (es:List BE) (u1 u2 u3 u4 u5 u6:Option V),Y=[some (.ref x),some (.ref y),some (.ref l),some (.int n),some (.ref mv),some (.ref d),some (.ref rl),some (.int i),u1,u2,u3,u4,u5,u6]/\Bst P w K H2 H d rl es/\Bfs b b' ms es i/\i<=es.length
noncomputable def wX (b b':Bool) (ms:List Mv) (zs:List Str) (u v:Str):Prop:=
 (∃ r u0 v0,∃ m∈ms,Rch b b' ms r u0 v0/\u8 r=false/\j6 (O4 b b' r m.2.2)=true/\u=u0++m.1/\v=v0++m.2.1)\/
 ∃ r u0 v0 z,Rch b b' ms r u0 v0/\u8 r=true/\zs.head?=some z/\(u,v)=gQ z r u0 v0
noncomputable def BesR (K:PySem.W.Frag) (b b':Bool) (ms:List Mv) (zs:List Str) (H:Hp) (t:Addr):Prop:=
 (∃ p u v,H t=some (.tup [.ref p,.non])/\H p=some (.tup [.str u,.str v])/\u.length<=400/\v.length<=400/\wX b b' ms zs u v)\/
 ∃ l es,H t=some (.tup [.non,.ref l])/\H l=some (.lst (es.map fun e=>V.ref e.ra))/\(∀ e∈es,B1 K H e.ra (W3 e.r))/\Bfs b b' ms es es.length
noncomputable def spBes (K:PySem.W.Frag) (C:Addr):Sp:=fun vs H Q _=>∃ (x y l:Addr) (zs:List Str) (n:Nat) (R R':List Rl) (L M L' M':List Str),vs=[.ref x,.ref y,.ref l,.int n]/\n<=4/\OrdC C H x R L M/\OrdC C H y R' L' M'/\H l=some (.lst (zs.map V.str))/\zs.length<=10/\(∀ z∈zs,z.length<=1/\(stepF R L M z).length<=15/\(stepF R' L' M' z).length<=15)/\chkF R L M R' L' M' zs=none/\(∀ z∈zs,o3 R z/\o3 R' z)/\
 ∀ t H',H t=none->Same H H'->BesR K (hasW R "behind") (hasW R' "behind") (mvsF R L M R' L' M' n zs) zs H' t->Q (.ref t) H'
noncomputable def spLg (K:PySem.W.Frag):Sp:=fun vs H Q _=>∃ (p q:Addr) (z u v:Str) (r:Rm),vs=[.str z,.ref p,.ref q]/\B1 K H p (W3 r)/\H q=some (.tup [.str u,.str v])/\z.length<=1000/\u.length<=1000/\v.length<=1000/\
 ∀ t,H t=none->Q (.ref t) (A0 H t (.tup [.str (gQ z r u v).1,.str (gQ z r u v).2]))
noncomputable def U8 (w:Str) (b:Bool):List Rl:=if b=true then [(w,[])] else []
theorem aoD{w:Str}{b:Bool}{z:Rl}(h:z∈U8 w b):b=true/\z=(w,[]):=by
 unfold U8 at h
 split at h
 .exact ⟨by assumption,E4.mp h⟩
 .cases h
theorem aoE{w:Str}{b:Bool}(hw:flagW w):C5 (U8 w b)=[]:=by
 unfold U8
 split
 .unfold C5;rw [m3,aiQ hw];rfl
 .rfl
noncomputable def stepS:List Int:=[1,2,4,5,7,8,10,11,13,23,44,91]
noncomputable def u9 (n:Int):Int:=(G2 stepS (n / 93 % 12)).getD 0
theorem wY(n:Int):G2 (stepS.map V.int) (n / 93 % 12)=some (.int (u9 n))/\u9 n∈stepS:=by
 obtain ⟨v,h1,h2⟩:=vA (xs:=stepS) (i:=n / 93 % 12) (by lia) (by show _<((12:Nat):Int);lia);have e:u9 n=v:=by unfold u9;rw [h1];rfl
 rw [e];refine ⟨?_,h2⟩;obtain ⟨j,hj⟩:∃ j:Nat,n / 93 % 12=(j:Int):=⟨(n / 93 % 12).toNat,by lia⟩
 rw [hj] at h1 ⊢
 have:=mJ (n / 93) (show (0:Int)<12 by decide)
 have hl:j<stepS.length:=by show j<12;lia
 have e2:=K9 (xs:=stepS) (j:=j) (v:=stepS[j]) (J7 hl);rw [e2] at h1;rw [<- Option.some.inj h1];exact K9 (by rw [T8,J7 hl];rfl)
theorem aoF(n:Int):0<u9 n/\u9 n<=91:=(show ∀ s∈stepS,0<s/\s<=91 by decide) _ (wY n).2
theorem akF:(∀ s∈stepS,∃ t∈(U1 83).map Int.ofNat,s*t % 83=1)/\∀ s∈stepS,∃ t∈(U1 93).map Int.ofNat,s*t % 93=1:=by decide +kernel
noncomputable def numF (ns:List Int) (k:Int):Int:=cellF ns k*48271 % 2147483647
noncomputable def kT (K:PySem.W.Frag):Sp:=fun vs H Q _=>∃ (a:Addr) (ns:List Int) (k:Int),vs=[.ref a,.int k]/\D0 K H a (ns.map V.int)/\0<=k/\Q (.int (numF ns k)) H
noncomputable def XRl (ls ms:List Str) (z:Rl):Prop:=(∃ b f,b∈ls/\z=(("great" : Str),[b,f]))\/∃ p b qs,b∈ls/\(∀ q∈qs,q∈ms)/\qs.length<=3/\z=(("as" : Str),p::b::qs)
noncomputable def cD (z:Rl):Str:=if z.1=("great" : Str) then z.2.getD 1 "" else z.2.headD ""
noncomputable def R8 (ls ms:List Str) (X:List Rl) (bh:Bool):List Rl:=(("marks" : Str),ms)::(X++U8 "behind" bh++[(("row" : Str),ls)])
structure Sh8(ls ms:List Str)(X:List Rl):Prop where
 xr:∀ z∈X,XRl ls ms z
 nd:(ms++(X.map cD++ls)).Nodup
 on:∀ p∈ms++(X.map cD++ls),∃ c,p=one c/\signB c=true
 l1:ls.length<=20
 m1:ms.length<=20
 x1:X.length<=20
theorem am0 : ∀ {X:List Rl},(∀ z∈X,XRl ls ms z)->C5 X=X.map fun z=>(cD z,z.1)
 | [],_=>rfl
 | z::X,h=>by
  rw [nF,E6,am0 fun z hz=>h z (N9 _ hz)]
  rcases h z N3 with ⟨b,f,_,rfl⟩ | ⟨p,b,qs,_,_,_,rfl⟩
  .rw [aI.1 rfl];rfl
  .rw [aI.2.1 rfl];rfl
theorem akG(A B:List Rl):C5 (A++B)=C5 A++C5 B:=by unfold C5;rw [Z1]
theorem Sh8.prs{X:List Rl}(h:Sh8 ls ms X):C5 (R8 ls ms X bh)=(ms.map fun p=>(p,("mark" : Str)))++((X.map fun z=>(cD z,z.1))++ls.map fun p=>(p,("letter" : Str))):=by
 unfold R8;rw [aky,akG,akG,aoE (.inr (.inl rfl)),aoA,am0 h.xr,M3,show C5 []=[] from rfl,M3]
theorem Sh8.fst{X:List Rl}(h:Sh8 ls ms X):(C5 (R8 ls ms X bh)).map (·.1)=ms++(X.map cD++ls):=by
 rw [h.prs];simp [Function.comp_def]
theorem kU{X:List Rl}{z:Rl}(h:z∈R8 ls ms X bh):z=(("marks" : Str),ms)\/z∈X\/z=(("behind" : Str),[])\/z=(("row" : Str),ls):=by
 unfold R8 at h
 rcases K0.mp h with h | h
 .exact .inl h
 rcases G0.mp h with h | h
 .rcases G0.mp h with h | h
  .exact .inr (.inl h)
  .exact .inr (.inr (.inl (aoD h).2))
 .exact .inr (.inr (.inr (E4.mp h)))
theorem R8_in{X:List Rl}{z:Rl}(h:z∈X):z∈R8 ls ms X bh:=by
 unfold R8;exact N9 _ (Q5 _ (Q5 _ h))
theorem Sh8.w1{X:List Rl}(h:Sh8 ls ms X){z:Rl}(hz:z∈X):z.1=("great" : Str)\/z.1=("as" : Str):=by
 rcases h.xr z hz with ⟨b,f,_,rfl⟩ | ⟨p,b,qs,_,_,_,rfl⟩
 .exact .inl rfl
 .exact .inr rfl
theorem Sh8.rows{X:List Rl}(h:Sh8 ls ms X):rowsW (R8 ls ms X bh) "row"=[ls]/\rowsW (R8 ls ms X bh) "marks"=[ms]:=by
 have e:∀ X zy w,rowsW (X++zy) w=rowsW X w++rowsW zy w:=fun X zy w=>by unfold rowsW;rw [bJ,C9]
 have e3:∀ {u w:Str} {b:Bool},u≠w->rowsW (U8 u b) w=[]:=fun {u w b} n=>by
  unfold U8 rowsW
  cases b
  .rfl
  .rw [if_pos rfl,jC (by simpa using n)];rfl
 have eX:∀ w:Str,w="row"\/w="marks"->rowsW X w=[]:=fun w hw=>by
  unfold rowsW;rw [mC.mpr]
  .rfl
  intro z hz;rw [decide_eq_true_iff];intro e
  rcases h.w1 hz with e2 | e2 <;> rcases hw with e3 | e3 <;> rw [e2,e3] at e <;> exact absurd e (by decide +kernel)
 unfold R8;rw [rw_ne (by decide +kernel),rw_eq,e,e,e,e,eX _ (.inl rfl),eX _ (.inr rfl),e3 (by decide +kernel),e3 (by decide +kernel),rw_eq,rw_ne (by decide +kernel)];exact ⟨rfl,rfl⟩
theorem Sh8.has{X:List Rl}(h:Sh8 ls ms X):hasW (R8 ls ms X bh) "figures"=false/\hasW (R8 ls ms X bh) "behind"=bh/\hasW (R8 ls ms X bh) "blanks"=false:=by
 have eX:∀ w:Str,flagW w->hasW X w=false:=fun w hw=>by
  obtain ⟨_,_,n3,n4,_⟩:=hw.no;unfold hasW;rw [List.any_eq_false];intro z hz;rw [decide_eq_true_iff];intro e
  rcases h.w1 hz with e2 | e2 <;> rw [e] at e2
  .exact n3 e2
  .exact n4 e2
 have e3:∀ w:Str,flagW w->hasW (R8 ls ms X bh) w=(bh&&decide (("behind" : Str)=w)):=fun w hw=>by
  obtain ⟨n1,n2,_⟩:=hw.no
  have:=eX w hw
  unfold R8;unfold hasW at this ⊢
  rw [y7,List.any_append,List.any_append,this,decide_eq_false (fun h=>n2 h.symm)];unfold U8
  cases bh <;> simp [n1.symm]
 refine ⟨?_,?_,?_⟩
 .rw [e3 _ (.inl rfl),decide_eq_false (by decide +kernel),Bool.and_false]
 .rw [e3 _ (.inr (.inl rfl)),decide_eq_true rfl,Bool.and_true]
 .rw [e3 _ (.inr (.inr rfl)),decide_eq_false (by decide +kernel),Bool.and_false]
theorem Sh8.ndl{X:List Rl}(h:Sh8 ls ms X):ls.Nodup:=(Y2.mp (Y2.mp h.nd).2.1).2.1
theorem Sh8.ndm{X:List Rl}(h:Sh8 ls ms X):ms.Nodup:=(Y2.mp h.nd).1
theorem Sh8.good{X:List Rl}(h:Sh8 ls ms X):GoodR (nI (R8 ls ms X bh)) (ls.idxOf ·) (ms.idxOf ·) (R8 ls ms X bh):=by
 have k7:=h.l1;have fA:=h.m1;have hx1:=h.x1;have nd:=h.nd;rw [<- h.fst (bh:=bh)] at nd;have on:=h.on;rw [<- h.fst (bh:=bh)] at on;have hB:(R8 ls ms X bh).length<=30:=by
  unfold R8 U8
  cases bh <;> simp <;> lia
 have X9:(C5 (R8 ls ms X bh)).length<=60:=by
  have:=congrArg Z3 (h.fst (bh:=bh))
  rw [A6,D7,D7,A6] at this;lia
 have lt:∀ p∈ls,(p,("letter" : Str))∈C5 (R8 ls ms X bh):=fun p hp=>by rw [h.prs];exact O5 _ (O5 _ (D8.mpr ⟨p,hp,rfl⟩))
 have mk:∀ p∈ms,(p,("mark" : Str))∈C5 (R8 ls ms X bh):=fun p hp=>by rw [h.prs];exact Q5 _ (D8.mpr ⟨p,hp,rfl⟩)
 refine ⟨by lia,by lia,?_,?_,fun z hz=>?_,fun z hz hw=>?_,fun z hz hw p hp=>?_,fun z hz hw p hp=>?_,fun z hz hw p hp=>?_,?_,?_,fun e he=>?_,fun e he=>?_⟩
 .intro i p j hi;have hm:=K8 hi;obtain ⟨c,rfl,hc⟩:=on p (D8.mpr ⟨_,hm,rfl⟩);refine ⟨?_,fun hq=>?_,fun hf=>?_,by show 1<=1000;decide⟩
  .unfold nI;rw [aib nd hm];rfl
  .exfalso
   obtain ⟨⟨p',j'⟩,sW,e0⟩:=D8.mp hq;obtain ⟨m,fC,e⟩:=mB.mp sW;obtain ⟨aZ,e2⟩:=E9.mp hi;rw [dC,List.pairwise_map,fP] at nd;refine nd m i (by lia) aZ (by lia) ?_;rw [e,e2];exact e0
  .rw [h.has.1] at hf;cases hf
 .intro hb;obtain ⟨c,e,hc⟩:=on _ hb;have e1:[32]=[c]:=congrArg (fun z:Str=>z.cps.toList) e;rw [<- List.singleton_inj.mp e1] at hc;exact absurd hc (by decide)
 .rcases kU hz with rfl | hz | rfl | rfl
  .show ms.length<=1000;lia
  .rcases h.xr z hz with ⟨b,f,_,rfl⟩ | ⟨p,b,qs,_,_,h3,rfl⟩
   .show 2<=1000;decide
   .show qs.length+1+1<=1000;lia
  .show 0<=1000;decide
  .show ls.length<=1000;lia
 .rcases kU hz with rfl | hz | rfl | rfl
  .exact absurd (show Str.ofString "marks"=_\/Str.ofString "marks"=_ from hw) (by decide +kernel)
  .rcases h.xr z hz with ⟨b,f,_,rfl⟩ | ⟨p,b,qs,_,_,h3,rfl⟩ <;> exact List.cons_ne_nil _ _
  .exact absurd (show Str.ofString "behind"=_\/Str.ofString "behind"=_ from hw) (by decide +kernel)
  .exact absurd (show Str.ofString "row"=_\/Str.ofString "row"=_ from hw) (by decide +kernel)
 .rcases kU hz with rfl | hz | rfl | rfl
  .exact absurd (show Str.ofString "marks"=_ from hw) (by decide +kernel)
  .rcases h.xr z hz with ⟨b,f,hb,rfl⟩ | ⟨p',b,qs,_,_,h3,rfl⟩
   .rw [E4.mp (show p∈[b] from hp)];exact lt b hb
   .exact absurd (show Str.ofString "as"=_ from hw) (by decide +kernel)
  .exact absurd (show Str.ofString "behind"=_ from hw) (by decide +kernel)
  .exact absurd (show Str.ofString "row"=_ from hw) (by decide +kernel)
 .rcases kU hz with rfl | hz | rfl | rfl
  .exact absurd (show Str.ofString "marks"=_ from hw) (by decide +kernel)
  .rcases h.xr z hz with ⟨b,f,hb,rfl⟩ | ⟨p',b,qs,hb,_,h3,rfl⟩
   .exact absurd (show Str.ofString "great"=_ from hw) (by decide +kernel)
   .rw [E4.mp (show p∈[b] from hp)];exact lt b hb
  .exact absurd (show Str.ofString "behind"=_ from hw) (by decide +kernel)
  .exact absurd (show Str.ofString "row"=_ from hw) (by decide +kernel)
 .rcases kU hz with rfl | hz | rfl | rfl
  .exact absurd (show Str.ofString "marks"=_ from hw) (by decide +kernel)
  .rcases h.xr z hz with ⟨b,f,hb,rfl⟩ | ⟨p',b,qs,hb,hq,h3,rfl⟩
   .exact absurd (show Str.ofString "great"=_ from hw) (by decide +kernel)
   .exact .inr (mk p (hq p hp))
  .exact absurd (show Str.ofString "behind"=_ from hw) (by decide +kernel)
  .exact absurd (show Str.ofString "row"=_ from hw) (by decide +kernel)
 .rw [h.rows.1];simp;lia
 .rw [h.rows.2];simp;lia
 .rw [h.rows.1] at he;exact agw h.ndl (by simpa [edges] using he)
 .rw [h.rows.2] at he;exact agw h.ndm (by simpa [edges] using he)
theorem Sh8.lets{X:List Rl}(h:Sh8 ls ms X)(hL:P9 (R8 ls ms X bh) "row" L)(hM:P9 (R8 ls ms X bh) "marks" M):L=ls/\M=ms:=by
 unfold P9 at hL hM;rw [h.rows.1] at hL;rw [h.rows.2] at hM;refine ⟨akn h.ndl (kE _) hL.1 hL.2 (fun p=>?_) fun e he=>?_,akn h.ndm (kE _) hM.1 hM.2 (fun p=>?_) fun e he=>?_⟩
 .rw [wF];simp
 .simpa [edges] using he
 .rw [wF];simp
 .simpa [edges] using he
theorem Sh8.known{X:List Rl}(h:Sh8 ls ms X){p:Str} : p∈G1 (R8 ls ms X bh)↔p∈ms++(X.map cD++ls):=by
 unfold G1 V7;rw [h.has.2.2,if_neg L5,M3,qX,h.fst]
theorem Sh8.knownL{X:List Rl}(h:Sh8 ls ms X):(G1 (R8 ls ms X bh)).length<=1000:=by
 unfold G1 V7;rw [h.has.2.2,if_neg L5,M3];have h1:=vX (C5 (R8 ls ms X bh));have h2:=congrArg Z3 (h.fst (bh:=bh));rw [A6,D7,D7,A6] at h2
 have:=h.l1
 have:=h.m1
 have:=h.x1
 lia
theorem Sh8.steps{X:List Rl}(h:Sh8 ls ms X)(L M:List Str)(y:Str):(stepF (R8 ls ms X bh) L M y).length<=15:=by
 unfold stepF;cases e:(putsL (R8 ls ms X bh) L M).lookup y with
 | none=>simp
 | some s=>
  obtain ⟨l1,l2,el,_⟩:=List.lookup_eq_some_iff.mp e;have hp:(y,s)∈putsL (R8 ls ms X bh) L M:=by rw [el];simp
  show s.length<=15;unfold putsL at hp
  rcases G0.mp hp with hp | hp
  .rcases G0.mp hp with hp | hp
   .rcases G0.mp hp with hp | hp
    .obtain ⟨e,_,q⟩:=D8.mp hp;rw [<- (Prod.mk.inj q).2];exact Nat.le_add_left 1 14
    .obtain ⟨e,_,q⟩:=D8.mp hp;rw [<- (Prod.mk.inj q).2];exact Nat.le_add_left 1 14
   .obtain ⟨w,_,hp⟩:=W0.mp hp;obtain ⟨e,_,q⟩:=D8.mp hp;rw [<- (Prod.mk.inj q).2];exact Nat.le_add_left 1 14
  .unfold rA at hp;obtain ⟨z,hz,qq⟩:=jF.mp hp
   split at qq
   .rename_i hw
    obtain ⟨p',_,qq⟩:=Option.map_eq_some_iff.mp qq;rw [<- (Prod.mk.inj qq).2,A6]
    rcases kU hz with rfl | hz | rfl | rfl
    .exact absurd (show Str.ofString "marks"=_ from hw) (by decide +kernel)
    .rcases h.xr z hz with ⟨b,f,hb,rfl⟩ | ⟨p',b,qs,hb,hq,h3,rfl⟩
     .show 1<=15;decide
     .show qs.length+1<=15;lia
    .show 0<=15;decide
    .exact absurd (show Str.ofString "row"=_ from hw) (by decide +kernel)
   .cases qq
theorem Sh8.sl{X:List Rl}(h:Sh8 ls ms X)(hL:P9 (R8 ls ms X bh) "row" L)(hM:P9 (R8 ls ms X bh) "marks" M){p:Str}(hp:p∈ls):stepF (R8 ls ms X bh) L M p=[(2,(ls.idxOf p:Int),0)]:=by
 obtain ⟨rfl,rfl⟩:=h.lets hL hM;exact (nH h.good hL hM).letter hp
theorem Sh8.sm{X:List Rl}(h:Sh8 ls ms X)(hL:P9 (R8 ls ms X bh) "row" L)(hM:P9 (R8 ls ms X bh) "marks" M){p:Str}(hp:p∈ms):stepF (R8 ls ms X bh) L M p=[(0,(ms.idxOf p:Int),0)]:=by
 obtain ⟨rfl,rfl⟩:=h.lets hL hM;have hi:=dE.mpr hp;exact (nH h.good hL hM).mr (M.idxOf p) p (by rw [J7 hi,fS])
theorem Sh8.sa{X:List Rl}(h:Sh8 ls ms X)(hL:P9 (R8 ls ms X bh) "row" L)(hM:P9 (R8 ls ms X bh) "marks" M){p b:Str}{qs:List Str}(hb:b∈ls)(hq:∀ q∈qs,q∈ms)(hz:(("as" : Str),p::b::qs)∈X) :
  stepF (R8 ls ms X bh) L M p=(2,(ls.idxOf b:Int),0)::qs.map fun q=>(0,(ms.idxOf q:Int),0):=by
 rw [(nH h.good hL hM).as _ (R8_in hz) rfl p (b::qs) rfl,E6,h.sl hL hM hb]
 congr 1
 exact jE fun q hm=>by rw [h.sm hL hM (hq q hm)];rfl
theorem Sh8.sg{X:List Rl}(h:Sh8 ls ms X)(hL:P9 (R8 ls ms X bh) "row" L)(hM:P9 (R8 ls ms X bh) "marks" M){b f:Str}{c:Nat}(hz:(("great" : Str),[b,f])∈X)(hc:(D6 X b)[c]?=some f) :
  stepF (R8 ls ms X bh) L M f=[(2,(ls.idxOf b:Int),((c+1:Nat):Int))]:=by
 have eg:J5 (R8 ls ms X bh)=J5 X:=by
  unfold R8;have e1:J5 ((("marks" : Str),ms)::(X++U8 "behind" bh++[(("row" : Str),ls)]))=J5 [(("marks" : Str),ms)]++J5 (X++U8 "behind" bh++[(("row" : Str),ls)]):=bW [_] _;rw [e1,bW,bW,eG (show Str.ofString "marks"≠Str.ofString "great" by decide +kernel),eG (z:=(("row" : Str),ls)) (show Str.ofString "row"≠Str.ofString "great" by decide +kernel),M3,dH];have e2:J5 (U8 "behind" bh)=[]:=by
   unfold U8
   split
   .exact eG (show Str.ofString "behind"≠Str.ofString "great" by decide +kernel)
   .rfl
  rw [e2,M3]
 have ef:D6 (R8 ls ms X bh) b=D6 X b:=by unfold D6;rw [eg]
 obtain ⟨rfl,rfl⟩:=h.lets hL hM;refine (nH h.good hL hM).gr b ?_ c f (by rw [ef];exact hc);rw [mem_formKs,eg];unfold J5;exact ⟨(b,[f]),jF.mpr ⟨_,hz,rfl⟩,rfl⟩
noncomputable abbrev En:=Int×List Int×Int
structure EnS(R:List Rl)(L M:List Str)(S:List Nat)(en:Nat->En):Prop where
 nf:hasW R "figures"=false
 kn:∀ p∈G1 R,∃ c,p=one c
 ki:∀ c∈S,one c∈G1 R
 st:∀ c∈S,stepF R L M (one c)=(2,(en c).1,(en c).2.2)::(en c).2.1.map fun j=>(0,j,0)
theorem amq(h:∀ p∈ks,∃ c,p=one c)(c:Nat)(r:List Nat)(hc:one c∈ks):partF false ks (c::r)=some (one c):=by
 rw [kN,Bool.false_and,if_neg L5]
 cases r with
 | nil=>rw [kL,if_pos hc]
 | cons e r=>
  rw [kM,if_neg,if_pos hc];intro hm;obtain ⟨d,e1⟩:=h _ hm;have e2:[c,e]=[d]:=congrArg (fun z:Str=>z.cps.toList) e1;cases e2
theorem wZ(h:∀ p∈ks,∃ c,p=one c):∀ {l:List Nat},(∀ c∈l,one c∈ks)->cutF false ks l=(l.length,l.map one)
 | [],_=>by rw [nK];rfl
 | c::l,hl=>by
  obtain ⟨rest,e1,e2,_⟩:=kO (amq h c l (hl c N3));have e3:l=rest:=(List.cons.inj e1).2;rw [e2,<- e3,wZ h fun d hd=>hl d (N9 _ hd)];refine Prod.ext ?_ rfl;show l.length+1=_;rw [J9]
theorem aig:∀ (ms:List Int) (U:List G5) (a b:Int) (m0:List Int) (c:Int),(ms.map fun j=>((0,j,0):Tr)).foldl addS (U++[(a,b,m0,c)])=U++[(a,b,m0++ms,c)]
 | [],U,a,b,m0,c=>by rw [M3];rfl
 | j::ms,U,a,b,m0,c=>by
  rw [E6,jK];have e:addS (U++[(a,b,m0,c)]) (0,j,0)=U++[(a,b,m0++[j],c)]:=by
   unfold addS;rw [if_pos rfl];unfold addM
   simp
  rw [e,aig ms,V9];rfl
theorem akH{F:Str->List Tr}{en:Nat->En} : ∀ {l:List Nat} {U:List G5},(∀ c∈l,F (one c)=(2,(en c).1,(en c).2.2)::(en c).2.1.map fun j=>(0,j,0))->((l.map one).flatMap F).foldl addS U=U++l.map fun c=>(2,(en c).1,(en c).2.1,(en c).2.2)
 | [],U,_=>by simp
 | c::l,U,h=>by
  rw [E6,m3,y3,h c N3,jK];have e:addS U (2,(en c).1,(en c).2.2)=U++[(2,(en c).1,[],(en c).2.2)]:=by unfold addS;rw [if_neg (show ¬ (2:Int)=0 by decide)]
  rw [e,aig,dH,akH fun d hd=>h d (N9 _ hd),E6,V9];rfl
theorem EnS.units{en:Nat->En}(h:EnS R L M S en){l:List Nat}(hl:∀ c∈l,c∈S):Q0 (stepY R L M) (cutF (hasW R "figures") (G1 R) l).2=l.map fun c=>(2,(en c).1,(en c).2.1,(en c).2.2):=by
 rw [h.nf,wZ h.kn (fun c hc=>h.ki c (hl c hc)),ah9 h.nf];show ((l.map one).flatMap (stepF R L M)).foldl addS []=_;rw [akH (en:=en) fun c hc=>h.st c (hl c hc),dH]
theorem EnS.whole{en:Nat->En}(h:EnS R L M S en)(hl:∀ c∈z.cps.toList,c∈S):aJ (hasW R "figures") (G1 R) z:=by
 unfold aJ;rw [h.nf,wZ h.kn (fun c hc=>h.ki c (hl c hc)),lenL]
noncomputable def cmpG {α:Type} [DecidableEq α] [LT α] [DecidableLT α] (xs ys:List α):Int:=if xs=ys then 0 else if xs<ys then -1 else 1
section
variable {α:Type} [DecidableEq α] [LT α] [DecidableLT α]
theorem cmpG_zero{xs ys:List α} : cmpG xs ys=0↔xs=ys:=by
 unfold cmpG
 constructor
 .intro h
  by_cases e:xs=ys
  .exact e
  .rw [if_neg e] at h
   split at h <;> cases h
 .intro h;rw [if_pos h]
theorem cE(P3:∀ a:α,¬ a<a)(a b:α)(xs ys:List α):cmpG (a::xs) (b::ys)=if a=b then cmpG xs ys else if a<b then -1 else 1:=by
 unfold cmpG
 by_cases e:a=b
 .subst e;rw [if_pos rfl];have e1:(a::xs=a::ys)↔xs=ys:=⟨fun h=>(List.cons.inj h).2,fun h=>by rw [h]⟩
  have e2:(a::xs<a::ys)↔xs<ys:=by
   rw [fR];exact ⟨fun h=>h.elim (fun h=>absurd h (P3 a)) (·.2),fun h=>.inr ⟨rfl,h⟩⟩
  simp only [e1,e2]
 .rw [if_neg e,if_neg (fun h=>e (List.cons.inj h).1)];have e2:(a::xs<b::ys)↔a<b:=by
   rw [fR];exact ⟨fun h=>h.elim id fun h=>absurd h.1 e,.inl⟩
  simp only [e2]
theorem nV(P3:∀ a:α,¬ a<a)(a b:α):∀ {xs ys:List α},xs.length=ys.length->cmpG (xs++[a]) (ys++[b])=if cmpG xs ys=0 then cmpG [a] [b] else cmpG xs ys
 | [],[],_=>by rw [if_pos (cmpG_zero.mpr rfl)];rfl
 | x::xs,y::ys,h=>by
  rw [fT,fT,cE P3,cE P3 x y xs ys]
  by_cases e:x=y
  .rw [if_pos e,if_pos e];exact nV P3 a b (by simpa using h)
  .rw [if_neg e,if_neg e,if_neg (show ¬ (if x<y then (-1:Int) else 1)=0 by split <;> decide)]
 | [],_::_,h=>by simp at h
 | _::_,[],h=>by simp at h
theorem aiZ(P3:∀ a:α,¬ a<a)(a b:α)(xs ys:List α):cmpG (a::xs) (b::ys)=if cmpG [a] [b]=0 then cmpG xs ys else cmpG [a] [b]:=by
 rw [cE P3,cE P3 a b [] []]
 by_cases e:a=b
 .rw [if_pos e,if_pos e,if_pos (cmpG_zero.mpr rfl)]
 .rw [if_neg e,if_neg e,if_neg (show ¬ (if a<b then (-1:Int) else 1)=0 by split <;> decide)]
theorem agE(P3:∀ a:α,¬ a<a)(a:α)(zs:List α):∀ {xs ys:List α},xs.length=ys.length->cmpG (xs++a::zs) ys=(if cmpG xs ys=0 then 1 else cmpG xs ys)/\cmpG xs (ys++a::zs)=if cmpG xs ys=0 then -1 else cmpG xs ys
 | [],[],_=>by
  rw [if_pos (cmpG_zero.mpr rfl),if_pos (cmpG_zero.mpr rfl)];refine ⟨?_,?_⟩
  .unfold cmpG;rw [if_neg (by simp),if_neg (List.not_lt_nil _)]
  .unfold cmpG;rw [if_neg (by simp),if_pos (by simp)]
 | x::xs,y::ys,h=>by
  rw [fT,fT,cE P3 x y _ ys,cE P3 x y xs (ys++a::zs),cE P3 x y xs ys]
  by_cases e:x=y
  .rw [if_pos e,if_pos e,if_pos e];exact agE P3 a zs (by simpa using h)
  .rw [if_neg e,if_neg e,if_neg e]
   have:¬ (if x<y then (-1:Int) else 1)=0:=by split <;> decide
   rw [if_neg this,if_neg this];exact ⟨rfl,rfl⟩
 | [],_::_,h=>by simp at h
 | _::_,[],h=>by simp at h
end
noncomputable def E7 (bh:Bool) (en:Nat->En) (l l':List Nat):Nat->Int
 | 0=>cmpG (l.map fun c=>(en c).1) (l'.map fun c=>(en c).1)
 | 1=>cmpG ((if bh=true then l.reverse else l).map fun c=>(en c).2.1) ((if bh=true then l'.reverse else l').map fun c=>(en c).2.1)
 | 2=>cmpG (l.map fun c=>(en c).2.2) (l'.map fun c=>(en c).2.2)
 | _=>cmpG l l'
noncomputable def difL (n:Nat) (g:Nat->Int):Int×Int:=match (U1 n).find? fun i=>g i≠0 with
 | some i=>(((i+1:Nat):Int),g i)
 | none=>(0,0)
theorem cF{g:Nat->Int}(hi:i<n)(h0:∀ k<i,g k=0)(h:g i≠0):difL n g=(((i+1:Nat):Int),g i):=by
 have:=wV (f:=fun k=>g (k-1)) hi (fun k hk=>by simpa using h0 k hk) (by simpa using h)
 unfold difF at this;simp only [Nat.add_sub_cancel] at this;exact this
theorem gT{g:Nat->Int}(h0:∀ k<n,g k=0):difL n g=(0,0):=by
 have:=wW (n:=n) (f:=fun k=>g (k-1)) (fun k hk=>by simpa using h0 k hk)
 unfold difF at this;simp only [Nat.add_sub_cancel] at this;exact this
theorem nW(n:Nat)(g:Nat->Int):(difL n g=(0,0)/\∀ k<n,g k=0)\/∃ i<n,difL n g=(((i+1:Nat):Int),g i)/\g i≠0/\∀ k<i,g k=0:=by
 by_cases h:∀ k<n,g k=0
 .exact .inl ⟨gT h,h⟩
 .have h':∃ i,i<n/\g i≠0:=Classical.byContradiction fun hn=>h fun k hk=>Classical.byContradiction fun bB=>hn ⟨k,hk,bB⟩
  obtain ⟨i,⟨hi,h1⟩,h2⟩:∃ i,(i<n/\g i≠0)/\∀ k<i,¬ (k<n/\g k≠0):=by
   obtain ⟨i0,hi0⟩:=h'
   induction i0 using Nat.strongRecOn with
   | _ i0 ih=>
    by_cases hq:∃ k<i0,k<n/\g k≠0
    .obtain ⟨k,hk,iO⟩:=hq;exact ih k hk iO
    .exact ⟨i0,hi0,fun k hk iO=>hq ⟨k,hk,iO⟩⟩
  have h3:∀ k<i,g k=0:=fun k hk=>Classical.byContradiction fun q=>h2 k hk ⟨by lia,q⟩
  exact .inr ⟨i,hi,cF hi h3 h1,h1,h3⟩
theorem akI{b:Bool}{g h g':Nat->Int}(hz:∀ k,¬ (k=1/\b=true)->g' k=if g k=0 then h k else g k)(hb:b=true->g' 1=if h 1=0 then g 1 else h 1):difL n g'=aP b (difL n g) (difL n h):=by
 have zz:∀ k,g k=0->h k=0->g' k=0:=fun k h1 h2=>by
  by_cases e:k=1/\b=true
  .rw [e.1,hb e.2,if_pos (by rw [<- e.1];exact h2),<- e.1];exact h1
  .rw [hz k e,if_pos h1];exact h2
 rcases nW n g with ⟨eg,zg⟩ | ⟨i,hi,eg,ni,zi⟩
 .rcases nW n h with ⟨eh,zh⟩ | ⟨j,hj,eh,nj,zj⟩
  .rw [eg,eh,gT fun k hk=>zz k (zg k hk) (zh k hk)];rfl
  .have e1:g' j=h j:=by
    by_cases e:j=1/\b=true
    .rw [e.1,hb e.2,if_neg (by rw [<- e.1];exact nj)]
    .rw [hz j e,if_pos (zg j hj)]
   rw [eg,eh,cF hj (fun k hk=>zz k (zg k (by lia)) (zj k hk)) (by rw [e1];exact nj),e1];unfold aP;rw [if_neg (by simp only [];lia),if_pos (.inl rfl)]
 .rcases nW n h with ⟨eh,zh⟩ | ⟨j,hj,eh,nj,zj⟩
  .have e1:g' i=g i:=by
    by_cases e:i=1/\b=true
    .rw [e.1,hb e.2,if_pos (by rw [<- e.1];exact zh i hi)]
    .rw [hz i e,if_neg ni]
   rw [eg,eh,cF hi (fun k hk=>zz k (zi k hk) (zh k (by lia))) (by rw [e1];exact ni),e1];rfl
  .rw [eg,eh];unfold aP;simp only [];rw [if_neg (by lia)]
   by_cases zL:j<i
   .have e1:g' j=h j:=by
     by_cases e:j=1/\b=true
     .rw [e.1,hb e.2,if_neg (by rw [<- e.1];exact nj)]
     .rw [hz j e,if_pos (zi j zL)]
    rw [if_pos (.inr (by lia)),cF hj (fun k hk=>zz k (zi k (by lia)) (zj k hk)) (by rw [e1];exact nj),e1]
   .rw [if_neg (by lia)]
    by_cases hq:i=j/\j=1/\b=true
    .obtain ⟨rfl,rfl,zO⟩:=hq;rw [if_pos ⟨rfl,rfl,zO⟩,cF hj (fun k hk=>zz k (zi k hk) (zj k hk)) (by rw [hb zO,if_neg nj];exact nj),hb zO,if_neg nj]
    .rw [if_neg (fun e=>hq ⟨by lia,by lia,e.2.2⟩)];have e1:g' i=g i:=by
      by_cases e:i=1/\b=true
      .have e0:=e.1;have hj1:j≠1:=fun q=>hq ⟨by lia,q,e.2⟩
       rw [e.1,hb e.2,if_pos (zj 1 (by lia))]
      .rw [hz i e,if_neg ni]
     rw [cF hi (fun k hk=>zz k (zi k hk) (zj k (by lia))) (by rw [e1];exact ni),e1]
theorem am1{en:Nat->En}{l:List Nat}(hl:l.length=l'.length)(x y:Nat) :
  (∀ k,¬ (k=1/\bh=true)->E7 bh en (l++[x]) (l'++[y]) k=if E7 bh en l l' k=0 then E7 bh en [x] [y] k else E7 bh en l l' k)/\(bh=true->E7 bh en (l++[x]) (l'++[y]) 1=if E7 bh en [x] [y] 1=0 then E7 bh en l l' 1 else E7 bh en [x] [y] 1):=by
 refine ⟨fun k hk=>?_,fun hb=>?_⟩
 .match k with
  | 0=>show cmpG ((l++[x]).map _) ((l'++[y]).map _)=_;rw [C9,C9];exact nV fX _ _ (by simpa using hl)
  | 1=>
   have hb:bh=false:=by
    cases bh
    .rfl
    .exact absurd ⟨rfl,rfl⟩ hk
   subst hb;show cmpG ((l++[x]).map _) ((l'++[y]).map _)=_;rw [C9,C9];exact nV (fun a=>List.lt_irrefl a) _ _ (by simpa using hl)
  | 2=>show cmpG ((l++[x]).map _) ((l'++[y]).map _)=_;rw [C9,C9];exact nV fX _ _ (by simpa using hl)
  | k+3=>exact nV Z4 _ _ hl
 .subst hb;show cmpG ((l++[x]).reverse.map _) ((l'++[y]).reverse.map _)=_;rw [List.reverse_append,List.reverse_append];exact aiZ (fun a=>List.lt_irrefl a) _ _ _ _
theorem aih{f:Int->List Int}(hf:∀ a b,f a=f b↔a=b)(hg:∀ a b,f a<f b↔a<b):∀ xs ys:List Int,cmpG (xs.map f) (ys.map f)=cmpG xs ys
 | [],[]=>rfl
 | [],y::ys=>by unfold cmpG;simp
 | x::xs,[]=>by unfold cmpG;simp
 | x::xs,y::ys=>by
  rw [E6,E6,cE (fun a=>List.lt_irrefl a),cE fX,aih hf hg xs ys];simp only [hf,hg]
theorem akJ(xs ys:List (List Int)):cmpD (.tt xs) (.tt ys)=cmpG xs ys:=by
 unfold cmpD cmpG LvD.lt
 simp
theorem xA(xs ys:List Int):cmpD (.ii xs) (.ii ys)=cmpG xs ys:=by
 unfold cmpD cmpG LvD.lt
 simp
theorem arv : z=z'↔z.cps.toList=z'.cps.toList:=⟨fun e=>by rw [e],fun e=>by
 cases z
 cases z'
 exact congrArg Str.mk (Array.toList_inj.mp e)⟩
theorem akK(z z':Str):cmpD (.ss z) (.ss z')=cmpG z.cps.toList z'.cps.toList:=by
 unfold cmpD cmpG LvD.lt;simp [arv]
theorem akL{en:Nat->En}(hn:n<=4):(Y3 cmpD (e8 bh (z.cps.toList.map fun c=>(2,(en c).1,(en c).2.1,(en c).2.2)) z) (e8 bh (z'.cps.toList.map fun c=>(2,(en c).1,(en c).2.1,(en c).2.2)) z')).take n=(U1 n).map (E7 bh en z.cps.toList z'.cps.toList):=by
 have e:Y3 cmpD (e8 bh (z.cps.toList.map fun c=>(2,(en c).1,(en c).2.1,(en c).2.2)) z) (e8 bh (z'.cps.toList.map fun c=>(2,(en c).1,(en c).2.1,(en c).2.2)) z')=(U1 4).map (E7 bh en z.cps.toList z'.cps.toList):=by
  unfold e8;simp only [List.zipWith_cons_cons,List.zipWith_nil_left,akJ,xA,akK,Q6];have e1:cmpG (z.cps.toList.map ((fun u:G5=>[u.1,u.2.1])∘fun c=>((2:Int),(en c).1,(en c).2.1,(en c).2.2))) (z'.cps.toList.map ((fun u:G5=>[u.1,u.2.1])∘fun c=>((2:Int),(en c).1,(en c).2.1,(en c).2.2)))=E7 bh en z.cps.toList z'.cps.toList 0:=by
   have:=aih (f:=fun i=>[2,i]) (fun a b=>by simp) (fun a b=>by rw [fR,fR];simp) (z.cps.toList.map fun c=>(en c).1) (z'.cps.toList.map fun c=>(en c).1)
   rw [Q6,Q6] at this;exact this
  have e2:cmpG ((if bh=true then (z.cps.toList.map fun c=>((2:Int),(en c).1,(en c).2.1,(en c).2.2)).reverse else z.cps.toList.map fun c=>((2:Int),(en c).1,(en c).2.1,(en c).2.2)).map fun u:G5=>u.2.2.1) ((if bh=true then (z'.cps.toList.map fun c=>((2:Int),(en c).1,(en c).2.1,(en c).2.2)).reverse else z'.cps.toList.map fun c=>((2:Int),(en c).1,(en c).2.1,(en c).2.2)).map fun u:G5=>u.2.2.1)=E7 bh en z.cps.toList z'.cps.toList 1:=by
   unfold E7
   cases bh <;> simp [Function.comp_def]
  rw [e1,e2];rfl
 rw [e,<- dJ,List.take_range,dN hn]
theorem aii{g:Nat->Int} : ∀ l:List Nat,((l.map g).find? fun v=>v≠0).getD 0=((l.find? fun i=>g i≠0).map g).getD 0
 | []=>rfl
 | a::l=>by
  rw [E6,X0,X0]
  by_cases h:g a=0
  .simp only [h,ne_eq,not_true_eq_false,decide_false];exact aii l
  .simp [h]
theorem amr(n:Nat)(g:Nat->Int):(difL n g).2=(((U1 n).map g).find? fun v=>v≠0).getD 0:=by
 rw [aii];unfold difL
 split
 .rename_i h;rw [h];rfl
 .rename_i h;rw [h];rfl
theorem EnS.cmp{en:Nat->En}(h:EnS R L M S en)(hn:n<=4)(hz:∀ c∈z.cps.toList,c∈S)(Y9:∀ c∈z'.cps.toList,c∈S):cmpF n (e9 R L M z) (e9 R L M z')=(difL n (E7 (hasW R "behind") en z.cps.toList z'.cps.toList)).2:=by
 unfold e9 cmpF;rw [h.units hz,h.units Y9,akL hn,amr]
theorem EnS.dif{en:Nat->En}(h:EnS R L M S en)(hn:n<=4)(hz:∀ c∈z.cps.toList,c∈S)(Y9:∀ c∈z'.cps.toList,c∈S):difR R L M n z z'=difL n (E7 (hasW R "behind") en z.cps.toList z'.cps.toList):=by
 unfold difR;have ec:∀ m≤4,cmpF m (e9 R L M z) (e9 R L M z')=(difL m (E7 (hasW R "behind") en z.cps.toList z'.cps.toList)).2:=fun m hm=>h.cmp hm hz Y9
 rcases nW n (E7 (hasW R "behind") en z.cps.toList z'.cps.toList) with ⟨e,z0⟩ | ⟨i,hi,e,ni,zi⟩
 .rw [e];refine wW fun k hk=>?_
  rw [ec _ (by lia),gT fun j hj=>z0 j (by lia)]
 .have e2:cmpF (i+1) (e9 R L M z) (e9 R L M z')=E7 (hasW R "behind") en z.cps.toList z'.cps.toList i:=by rw [ec _ (by lia),cF (Nat.lt_succ_self i) zi ni]
  rw [e,wV hi (fun k hk=>by rw [ec _ (by lia),gT fun j hj=>zi j (by lia)]) (by rw [e2];exact ni),e2]
theorem akM(bh:Bool)(en:Nat->En)(k:Nat):E7 bh en [] [] k=0:=by
 match k with
 | 0=>rfl
 | 1=>cases bh <;> rfl
 | 2=>rfl
 | _+3=>rfl
theorem v4(x y:Str):(x++y).cps.toList=x.cps.toList++y.cps.toList:=Array.toList_append
noncomputable def roomF (n:Nat) (bh bh':Bool) (en en':Nat->En) (l l':List Nat):Rm:=join4 (difL n (E7 bh en l l')) (difL n (E7 bh' en' l l'))
theorem akN{bh':Bool}{en en':Nat->En}{l:List Nat}(hl:l.length=l'.length)(x y:Nat):roomF n bh bh' en en' (l++[x]) (l'++[y])=O4 bh bh' (roomF n bh bh' en en' l l') (roomF n bh bh' en en' [x] [y]):=by
 have h1:=am1 (bh:=bh) (en:=en) hl x y;have h2:=am1 (bh:=bh') (en:=en') hl x y;unfold roomF O4;rw [akI h1.1 h1.2,akI h2.1 h2.2];rfl
noncomputable def o4 (S:List Nat) (z:Str):Prop:=∀ c∈z.cps.toList,c∈S
theorem aij{en en':Nat->En}(h:EnS R L M S en)(h':EnS R' L' M' S en')(hn:n<=4)(hz:∀ z∈zs,∃ c∈S,z=one c){m:Mv}(hm:m∈mvsF R L M R' L' M' n zs) :
  ∃ c d,c∈S/\d∈S/\m=(one c,one d,roomF n (hasW R "behind") (hasW R' "behind") en en' [c] [d]):=by
 obtain ⟨x,hx,hm⟩:=W0.mp hm;obtain ⟨y,hy,rfl⟩:=D8.mp hm;obtain ⟨c,hc,rfl⟩:=hz x hx;obtain ⟨d,hd,rfl⟩:=hz y hy;refine ⟨c,d,hc,hd,?_⟩;have oc:∀ {c},c∈S->∀ e∈(one c).cps.toList,e∈S:=fun {c} hc e he=>by rw [E4.mp (show e∈[c] from he)];exact hc
 rw [h.dif hn (oc hc) (oc hd),h'.dif hn (oc hc) (oc hd)];rfl
theorem Rch.room{en en':Nat->En}(h:EnS R L M S en)(h':EnS R' L' M' S en')(hn:n<=4)(hz:∀ z∈zs,∃ c∈S,z=one c){r:Rm}{u v:Str}(hr:Rch (hasW R "behind") (hasW R' "behind") (mvsF R L M R' L' M' n zs) r u v) :
  o4 S u/\o4 S v/\u.length=v.length/\r=roomF n (hasW R "behind") (hasW R' "behind") en en' u.cps.toList v.cps.toList:=by
 induction hr with
 | st=>
  refine ⟨fun c hc=>absurd hc jI,fun c hc=>absurd hc jI,rfl,?_⟩;show _=join4 (difL n (E7 _ en [] [])) (difL n (E7 _ en' [] []));rw [gT fun k _=>akM _ _ k,gT fun k _=>akM _ _ k];rfl
 | go _ hm _ _ ih=>
  obtain ⟨i1,i2,i3,i4⟩:=ih;obtain ⟨c,d,hc,hd,rfl⟩:=aij h h' hn hz hm;refine ⟨fun e he=>?_,fun e he=>?_,by rw [gR,gR,i3];rfl,?_⟩
  .rw [v4] at he
   rcases G0.mp he with he | he
   .exact i1 e he
   .rw [E4.mp (show e∈[c] from he)];exact hc
  .rw [v4] at he
   rcases G0.mp he with he | he
   .exact i2 e he
   .rw [E4.mp (show e∈[d] from he)];exact hd
  .rw [v4,v4,i4];exact (akN (by rw [lenL,lenL];exact i3) c d).symm
theorem Rch.even{b:Bool}{ms:List Mv}{r:Rm}{u v:Str}(h:Rch b b' ms r u v):j6 r=false:=by
 cases h with
 | st=>decide
 | go _ _ _ h=>exact h
theorem aik{en:Nat->En}{l:List Nat}(hl:l.length=l'.length)(x:Nat):E7 bh en (l++[x]) l' 0=(if E7 bh en l l' 0=0 then 1 else E7 bh en l l' 0)/\E7 bh en l (l'++[x]) 0=if E7 bh en l l' 0=0 then -1 else E7 bh en l l' 0:=by
 have:=agE fX ((en x).1) [] (xs:=l.map fun c=>(en c).1) (ys:=l'.map fun c=>(en c).1) (by simpa using hl)
 refine ⟨?_,?_⟩
 .show cmpG ((l++[x]).map fun c=>(en c).1) (l'.map fun c=>(en c).1)=_;rw [C9];exact this.1
 .show cmpG (l.map fun c=>(en c).1) ((l'++[x]).map fun c=>(en c).1)=_;rw [C9];exact this.2
theorem ams{g:Nat->Int}(hn:0<n)(h:g 0≠0):difL n g=(1,g 0):=cF hn (fun k hk=>absurd hk (Nat.not_lt_zero k)) h
theorem afj{g:Nat->Int}(hn:0<n):(difL n g).1=1↔g 0≠0:=by
 rcases nW n g with ⟨e,z⟩ | ⟨i,hi,e,ni,zi⟩
 .rw [e];exact ⟨fun h=>absurd h (by decide),fun h=>absurd (z 0 hn) h⟩
 .rw [e]
  constructor
  .intro h
   have:i=0:=by simp only [] at h;lia
   rw [<- this];exact ni
  .intro h
   have:i=0:=Classical.byContradiction fun q=>h (zi 0 (by lia))
   rw [this];rfl
theorem uaa{en en':Nat->En}(h:EnS R L M S en)(h':EnS R' L' M' S en')(hn:n<=4)(lK:0<n)(hz:∀ z∈zs,∃ c∈S,z=one c){u v:Str}(hw:wX (hasW R "behind") (hasW R' "behind") (mvsF R L M R' L' M' n zs) zs u v) :
  o4 S u/\o4 S v/\(difL n (E7 (hasW R "behind") en u.cps.toList v.cps.toList)).2≠(difL n (E7 (hasW R' "behind") en' u.cps.toList v.cps.toList)).2:=by
 rcases hw with ⟨r,u0,v0,m,hm,hr,_,ho,rfl,rfl⟩ | ⟨r,u0,v0,z,hr,hu,hd,e⟩
 .obtain ⟨i1,i2,i3,i4⟩:=hr.room h h' hn hz;obtain ⟨c,d,hc,hd,rfl⟩:=aij h h' hn hz hm;refine ⟨fun e he=>?_,fun e he=>?_,fun e=>?_⟩
  .rw [v4] at he
   rcases G0.mp he with he | he
   .exact i1 e he
   .rw [E4.mp (show e∈[c] from he)];exact hc
  .rw [v4] at he
   rcases G0.mp he with he | he
   .exact i2 e he
   .rw [E4.mp (show e∈[d] from he)];exact hd
  .rw [v4,v4] at e;have e2:=akN (n:=n) (bh:=hasW R "behind") (bh':=hasW R' "behind") (en:=en) (en':=en') (l:=u0.cps.toList) (l':=v0.cps.toList) (by rw [lenL,lenL];exact i3) c d;rw [<- i4] at e2;unfold j6 at ho;rw [mG,decide_eq_false_iff_not] at ho;refine ho ?_;rw [show (one c,one d,roomF n (hasW R "behind") (hasW R' "behind") en en' [c] [d]).2.2=roomF n (hasW R "behind") (hasW R' "behind") en en' [c] [d] from rfl,<- e2];exact e
 .obtain ⟨i1,i2,i3,i4⟩:=hr.room h h' hn hz;have i3':u0.cps.toList.length=v0.cps.toList.length:=by rw [lenL,lenL];exact i3
  have he:=hr.even;obtain ⟨x,hx,rfl⟩:=hz z (List.mem_of_mem_head? hd);unfold j6 at he;rw [Bool.not_eq_false',decide_eq_true_iff] at he;unfold u8 at hu;rw [mG,decide_eq_false_iff_not,decide_eq_decide] at hu;rw [i4] at hu he
  change (difL n (E7 (hasW R "behind") en u0.cps.toList v0.cps.toList)).2=(difL n (E7 (hasW R' "behind") en' u0.cps.toList v0.cps.toList)).2 at he
  change ¬ ((difL n (E7 (hasW R "behind") en u0.cps.toList v0.cps.toList)).1=1↔(difL n (E7 (hasW R' "behind") en' u0.cps.toList v0.cps.toList)).1=1) at hu
  rw [afj lK,afj lK] at hu;have lQ:∀ {g:Nat->Int},g 0≠0->(difL n g).2=g 0:=fun hg=>by rw [ams lK hg]
  have r1:r.2.1=(difL n (E7 (hasW R "behind") en u0.cps.toList v0.cps.toList)).2:=by rw [i4];rfl
  have l1:=aik (bh:=hasW R "behind") (en:=en) i3' x;have l2:=aik (bh:=hasW R' "behind") (en:=en') i3' x;have ofx:∀ {w:Str},o4 S w->o4 S (w++one x):=fun {w} hw e he=>by
   rw [v4] at he
   rcases G0.mp he with he | he
   .exact hw e he
   .rw [E4.mp (show e∈[x] from he)];exact hx
  have key:∀ (f:Nat->Int) (f':Nat->Int) (t:Int),t≠0->t≠(difL n (E7 (hasW R "behind") en u0.cps.toList v0.cps.toList)).2->f 0=(if E7 (hasW R "behind") en u0.cps.toList v0.cps.toList 0=0 then t else E7 (hasW R "behind") en u0.cps.toList v0.cps.toList 0)->f' 0=(if E7 (hasW R' "behind") en' u0.cps.toList v0.cps.toList 0=0 then t else E7 (hasW R' "behind") en' u0.cps.toList v0.cps.toList 0)->(difL n f).2≠(difL n f').2:=fun f f' t ht bC e1 e2=>by
   by_cases h0:E7 (hasW R "behind") en u0.cps.toList v0.cps.toList 0=0
   .have h0':E7 (hasW R' "behind") en' u0.cps.toList v0.cps.toList 0≠0:=fun q=>hu ⟨fun k=>absurd h0 k,fun k=>absurd q k⟩
    rw [if_pos h0] at e1;rw [if_neg h0'] at e2;rw [lQ (g:=f) (by rw [e1];exact ht),lQ (g:=f') (by rw [e2];exact h0'),e1,e2];rw [he,lQ h0'] at bC;exact bC
   .have h0':E7 (hasW R' "behind") en' u0.cps.toList v0.cps.toList 0=0:=Classical.byContradiction fun q=>hu ⟨fun _=>q,fun _=>h0⟩
    rw [if_neg h0] at e1;rw [if_pos h0'] at e2;rw [lQ (g:=f) (by rw [e1];exact h0),lQ (g:=f') (by rw [e2];exact ht),e1,e2];rw [lQ h0] at bC;exact bC.symm
  unfold gQ at e
  by_cases hs:r.2.1<0
  .rw [if_pos hs] at e;obtain ⟨rfl,rfl⟩:=Prod.mk.inj e;refine ⟨ofx i1,i2,?_⟩;rw [v4];exact key _ _ 1 (by decide) (by rw [<- r1];lia) l1.1 l2.1
  .rw [if_neg hs] at e;obtain ⟨rfl,rfl⟩:=Prod.mk.inj e;refine ⟨i1,ofx i2,?_⟩;rw [v4];exact key _ _ (-1) (by decide) (by rw [<- r1];lia) l1.2 l2.2
noncomputable def R4 (H:Hp) (a:Addr) (R:List Rl):Prop:=∃ ts,IsRules H a ts R
theorem R4.same(h:R4 H a R)(S:Same H H'):R4 H' a R:=let ⟨ts,h⟩:=h;⟨ts,h.same S⟩
theorem R4.put{t:Addr}{ts:List Addr}{z:Rl}(h:IsRules H a ts R)(ht:H t=some (tupR z)):R4 (A0 H a (.lst (ts.map V.ref++[V.ref t]))) a (R++[z]):=by
 have ne:∀ {c:Addr} {z:Rl},H c=some (tupR z)->A0 H a (.lst (ts.map V.ref++[V.ref t])) c=some (tupR z):=fun {c z} e=>by rw [A7 (ne_of e h.top (fun q=>by cases q))];exact e
 exact ⟨ts++[t],by rw [A3,C9];rfl,Paired.snoc (N5 h.row fun _ _ e=>ne e) (ne ht)⟩
theorem R4.more{t:Addr}{z:Rl}(h:R4 H a R)(hl:R.length<=1000)(S:Same H H3)(ht:H3 t=some (tupR z)):∃ xs,H3 a=some (.lst xs)/\xs.length<sizeLine/\R4 (A0 H3 a (.lst (xs++[V.ref t]))) a (R++[z]):=by
 obtain ⟨ts,h⟩:=h.same S;exact ⟨_,h.top,by rw [A6,h.len];exact L1 (by lia),R4.put h ht⟩
noncomputable def X7 (n k:Int):Nat:=(G2 SG ((n+k*u9 n) % 93)).getD 33
theorem nX(n k:Int):G2 SG ((n+k*u9 n) % 93)=some (X7 n k)/\signB (X7 n k)=true:=by
 obtain ⟨c,h1,h2⟩:=SS_at (i:=(n+k*u9 n) % 93) (by lia) (by lia);rw [SS_eq] at h1;unfold X7;rw [h1];exact ⟨rfl,h2⟩
theorem aoG{n k l:Int}(h0:0<=k)(h1:k<93)(h2:0<=l)(h3:l<93)(h:X7 n k=X7 n l):k=l:=by
 have hl:((SG.length:Nat):Int)=93:=by rw [vD];rfl
 have e:=ara SG_nd (i:=(n+k*u9 n) % 93) (j:=(n+l*u9 n) % 93) (by lia) (by lia) (by lia) (by lia) h;obtain ⟨t,_,ht⟩:=akF.2 _ (wY n).2;exact aiJ ht e h0 h1 h2 h3
noncomputable def p8 (n:Int) (k:Nat):Str:=one (X7 n (k:Int))
theorem aQ{n:Int}(hi:i<93)(hj:j<93)(h:p8 n i=p8 n j):i=j:=by
 have e:X7 n i=X7 n j:=List.singleton_inj.mp (congrArg (fun z:Str=>z.cps.toList) h)
 have:=aoG (by lia) (by lia) (by lia) (by lia) e
 lia
noncomputable def poolL (n:Int) (m:Nat):List Str:=(U1 m).map (p8 n)
theorem xB{n:Int}(h:k<m):(poolL n m)[k]?=some (p8 n k):=by
 unfold poolL;rw [T8,List.getElem?_range h];rfl
noncomputable def spSg8:Sp:=fun vs H Q _=>∃ (n k:Int),vs=[.int n,.int k]/\0<=k/\∀ H',Same H H'->Q (.str (one (X7 n k))) H'
noncomputable def akO (K:PySem.W.Frag) (m:Nat):Sp:=fun vs H Q _=>∃ (a:Addr) (ns:List Int),vs=[.ref a]/\D0 K H a (ns.map V.int)/\∀ l H',H l=none->Same H H'->H' l=some (.lst ((poolL (numF ns 0) m).map V.str))->Q (.ref l) H'
noncomputable def am2 (K:PySem.W.Frag) (m:Nat):Sp:=fun vs H Q _=>∃ (a:Addr) (ns:List Int),vs=[.ref a]/\D0 K H a (ns.map V.int)/\∀ l H' (ds:List Int),H l=none->Same H H'->H' l=some (.lst (ds.map V.int))->ds.length=m->Q (.ref l) H'
structure Row8(n:Int)(m i:Nat)(ds:List Int)(ls:List Str):Prop where
 nd:ls.Nodup
 mm:∀ p,p∈ls↔p=p8 n m\/p=p8 n (m+1)\/∃ k<i,ds.getD k 0 % 6=0/\p=p8 n k
 le:ls.length<=2+i
theorem Row8.perm{n:Int}(h:Row8 n m i ds ls)(hp:ls'.Perm ls):Row8 n m i ds ls':=
 ⟨hp.nodup_iff.mpr h.nd,fun p=>(hp.mem_iff).trans (h.mm p),by rw [hp.length_eq];exact h.le⟩
theorem uab{n:Int}(hm:m<50):Row8 n m 0 ds [p8 n m,p8 n (m+1)]:=by
 refine ⟨?_,fun p=>?_,C3 _⟩
 .rw [V1];refine ⟨fun h=>?_,by simp⟩
  have:=aQ (by lia) (by lia) (E4.mp h)
  lia
 .simp
theorem Row8.no{n:Int}(h:Row8 n m i ds ls)(hd:¬ ds.getD i 0 % 6=0):Row8 n m (i+1) ds ls:=by
 refine ⟨h.nd,fun p=>?_,by have:=h.le;lia⟩;rw [h.mm p];refine or_congr Iff.rfl (or_congr Iff.rfl ⟨fun ⟨k,hk,e⟩=>⟨k,by lia,e⟩,fun ⟨k,hk,e⟩=>⟨k,?_,e⟩⟩)
 have:k≠i:=fun q=>hd (by rw [<- q];exact e.1)
 lia
theorem Row8.yes{n:Int}(h:Row8 n m i ds ls)(hm:m<50)(hi:i<m)(hd:ds.getD i 0 % 6=0)(hp:ls'.Perm (p8 n i::ls)):Row8 n m (i+1) ds ls':=by
 have iD:p8 n i∉ls:=fun q=>by
  rcases (h.mm _).mp q with e | e | ⟨k,hk,_,e⟩
  .have:=aQ (by lia) (by lia) e;lia
  .have:=aQ (by lia) (by lia) e;lia
  .have:=aQ (by lia) (by lia) e;lia
 refine ⟨hp.nodup_iff.mpr (V1.mpr ⟨iD,h.nd⟩),fun p=>?_,by rw [hp.length_eq,J9];have:=h.le;lia⟩;rw [hp.mem_iff,K0,h.mm p]
 constructor
 .rintro (rfl | e | e | ⟨k,hk,e⟩)
  .exact .inr (.inr ⟨i,by lia,hd,rfl⟩)
  .exact .inl e
  .exact .inr (.inl e)
  .exact .inr (.inr ⟨k,by lia,e⟩)
 .rintro (e | e | ⟨k,hk,e1,e2⟩)
  .exact .inr (.inl e)
  .exact .inr (.inr (.inl e))
  .by_cases iP:k=i
   .rw [iP] at e2;exact .inl e2
   .exact .inr (.inr (.inr ⟨k,by lia,e1,e2⟩))
noncomputable def am3 (K:PySem.W.Frag) (m m4:Nat):Sp:=fun vs H Q _=>∃ (p d:Addr) (t n:Int) (ds:List Int),vs=[.ref p,.ref d,.int t]/\H p=some (.lst ((poolL n m4).map V.str))/\H d=some (.lst (ds.map V.int))/\ds.length=m/\∀ l H' ls,H l=none->Same H H'->H' l=some (.lst (ls.map V.str))->Row8 n m m ds ls->Q (.ref l) H'
noncomputable def prt8 (n:Int) (m:Nat) (c:Int):List Str:=if c=3 then [p8 n (m+2)] else if c=4 then [p8 n (m+3)] else if c=5 then [p8 n (m+2),p8 n (m+3)] else []
noncomputable def R5 (n:Int) (m:Nat) (d:Int):Str:=if d / 6 % 2=0 then p8 n m else p8 n (m+1)
noncomputable def Q2 (n:Int) (m:Nat) (d:Int) (k:Nat):List Rl:=if d % 6=0 then [] else if d % 6=2 then [(("great" : Str),[R5 n m d,p8 n k])] else [(("as" : Str),p8 n k::R5 n m d::prt8 n m (d % 6))]
noncomputable def X8 (n:Int) (m:Nat) (ds:List Int) (i:Nat):List Rl:=(U1 i).flatMap fun k=>Q2 n m (ds.getD k 0) k
theorem eQ(n:Int)(m:Nat)(ds:List Int)(i:Nat):X8 n m ds (i+1)=X8 n m ds i++Q2 n m (ds.getD i 0) i:=by
 unfold X8;rw [List.range_succ,Z1]
 simp
theorem rM(n : Int)(m : Nat)(ds : List Int) : ∀ i, (X8 n m ds i).length <= i
  | 0 => C3 _
  | i+1 => by
    rw [eQ, D7];have := rM n m ds i;have : (Q2 n m (ds.getD i 0) i).length <= 1 := by unfold Q2; split; simp; split <;> simp
    lia
theorem X8_mem{n:Int}{z:Rl} : z∈X8 n m ds i↔∃ k<i,z∈Q2 n m (ds.getD k 0) k:=by
 unfold X8;rw [W0];exact ⟨fun ⟨k,hk,h⟩=>⟨k,g7.mp hk,h⟩,fun ⟨k,hk,h⟩=>⟨k,g7.mpr hk,h⟩⟩
theorem rN{n:Int}{d:Int}{z:Rl}(h:z∈Q2 n m d k):cD z=p8 n k/\¬ d % 6=0:=by
 unfold Q2 at h
 split at h
 .cases h
 .rename_i h0
  split at h
  .rw [E4.mp h];exact ⟨rfl,h0⟩
  .rw [E4.mp h];exact ⟨rfl,h0⟩
theorem X8_nd{n:Int} : ∀ {i:Nat},i<=50->((X8 n m ds i).map cD).Nodup
 | 0,_=>by simp [X8]
 | i+1,h=>by
  rw [eQ,C9];refine Y2.mpr ⟨X8_nd (by lia),?_,fun a ha b hb e=>?_⟩
  .unfold Q2
   split
   .simp
   .split <;> simp
  .obtain ⟨z,hz,rfl⟩:=D8.mp ha;obtain ⟨k,hk,hz⟩:=X8_mem.mp hz;obtain ⟨z',Y9,rfl⟩:=D8.mp hb;rw [(rN hz).1,(rN Y9).1] at e
   have:=aQ (by lia) (by lia) e
   lia
noncomputable def kW (n:Int) (m:Nat) (ms:List Str):Prop:=ms=[p8 n (m+2),p8 n (m+3)]\/ms=[p8 n (m+3),p8 n (m+2)]
theorem kW.mem{n:Int}(h:kW n m ms){p:Str} : p∈ms↔p=p8 n (m+2)\/p=p8 n (m+3):=by
 rcases h with rfl | rfl <;> simp [or_comm]
theorem xC{n:Int}{c:Int}(h:q∈prt8 n m c):q=p8 n (m+2)\/q=p8 n (m+3):=by
 unfold prt8 at h
 split at h
 .exact .inl (E4.mp h)
 .split at h
  .exact .inr (E4.mp h)
  .split at h
   .simpa using h
   .cases h
theorem am4{n:Int}(hm:m<=10)(hr:Row8 n m m ds ls)(hk:kW n m ms):Sh8 ls ms (X8 n m ds m):=by
 have hb:∀ d,R5 n m d∈ls:=fun d=>by
  unfold R5;rw [hr.mm]
  split
  .exact .inl rfl
  .exact .inr (.inl rfl)
 have lsj:∀ p∈ls,∃ k<m+2,p=p8 n k/\(k<m->ds.getD k 0 % 6=0):=fun p hp=>by
  rcases (hr.mm p).mp hp with e | e | ⟨k,hk,h0,e⟩
  .exact ⟨m,by lia,e,fun h=>absurd h (Z4 _)⟩
  .exact ⟨m+1,by lia,e,fun h=>by lia⟩
  .exact ⟨k,by lia,e,fun _=>h0⟩
 have xj:∀ p∈(X8 n m ds m).map cD,∃ k<m,p=p8 n k/\¬ ds.getD k 0 % 6=0:=fun p hp=>by
  obtain ⟨z,hz,rfl⟩:=D8.mp hp;obtain ⟨k,hk,hz⟩:=X8_mem.mp hz;exact ⟨k,hk,(rN hz).1,(rN hz).2⟩
 have msj:∀ p∈ms,∃ k,m+2<=k/\k<m+4/\p=p8 n k:=fun p hp=>by
  rcases hk.mem.mp hp with e | e
  .exact ⟨m+2,by lia,by lia,e⟩
  .exact ⟨m+3,by lia,by lia,e⟩
 refine ⟨fun z hz=>?_,Y2.mpr ⟨?_,Y2.mpr ⟨X8_nd (by lia),hr.nd,fun a ha b hb e=>?_⟩,fun a ha b hb e=>?_⟩,fun p hp=>?_,by have:=hr.le;lia,by rcases hk with rfl | rfl <;> simp,by have:=rM n m ds m;lia⟩
 .obtain ⟨k,iO,hz⟩:=X8_mem.mp hz;unfold Q2 at hz
  split at hz
  .cases hz
  .split at hz
   .exact .inl ⟨_,_,hb _,E4.mp hz⟩
   .refine .inr ⟨_,_,_,hb _,fun q hq=>hk.mem.mpr (xC hq),?_,E4.mp hz⟩;unfold prt8
    split
    .simp
    .split
     .simp
     .split <;> simp
 .have G8:p8 n (m+2)≠p8 n (m+3):=fun e=>by have:=aQ (by lia) (by lia) e;lia
  rcases hk with rfl | rfl
  .simp [G8]
  .simp [G8.symm]
 .obtain ⟨k,hk,e1,h1⟩:=xj a ha;obtain ⟨j,hj,e2,h2⟩:=lsj b hb
  have:=aQ (by lia) (by lia) (e1.symm.trans (e.trans e2))
  subst this;exact h1 (h2 hk)
 .obtain ⟨k,hk1,iO,e1⟩:=msj a ha
  have:∃ j<m+2,b=p8 n j:=by
   rcases G0.mp hb with hb | hb
   .obtain ⟨j,hj,e2,_⟩:=xj b hb;exact ⟨j,by lia,e2⟩
   .obtain ⟨j,hj,e2,_⟩:=lsj b hb;exact ⟨j,hj,e2⟩
  obtain ⟨j,hj,e2⟩:=this
  have:=aQ (by lia) (by lia) (e1.symm.trans (e.trans e2))
  lia
 .have:∃ j,p=p8 n j:=by
   rcases G0.mp hp with hp | hp
   .obtain ⟨k,_,_,e⟩:=msj p hp;exact ⟨k,e⟩
   rcases G0.mp hp with hp | hp
   .obtain ⟨k,_,e,_⟩:=xj p hp;exact ⟨k,e⟩
   .obtain ⟨k,_,e,_⟩:=lsj p hp;exact ⟨k,e⟩
  obtain ⟨j,rfl⟩:=this;exact ⟨_,rfl,(nX n j).2⟩
noncomputable def R6 (R:List Rl) (L M:List Str) (c:Nat):En:=match stepF R L M (one c) with
 | s::r=>(s.2.1,r.map (·.2.1),s.2.2)
 | []=>(0,[],0)
theorem rO{c:Nat}{i k:Int}{js:List Int}(h:stepF R L M (one c)=(2,i,k)::js.map fun j=>(0,j,0)):R6 R L M c=(i,js,k):=by
 unfold R6;rw [h];simp [Function.comp_def]
structure O8(n:Int)(m:Nat)(ds:List Int)(ls ms:List Str)(bh:Bool)(R:List Rl)(L M:List Str):Prop where
 rd:R=R8 ls ms (X8 n m ds m) bh
 rw8:Row8 n m m ds ls
 mk8:kW n m ms
 m10:m<=10
 l1:P9 R "row" L
 l2:P9 R "marks" M
theorem O8.sh{n:Int}(h:O8 n m ds ls ms bh R L M):Sh8 ls ms (X8 n m ds m):=am4 h.m10 h.rw8 h.mk8
theorem O8.row{n:Int}(h:O8 n m ds ls ms bh R L M){c:Nat}(hc:one c∈ls):stepF R L M (one c)=[(2,(ls.idxOf (one c):Int),0)]:=by
 have:=h.rd
 subst this;exact h.sh.sl h.l1 h.l2 hc
theorem O8.bsm{n:Int}(h:O8 n m ds ls ms bh R L M)(d:Int):R5 n m d∈ls:=by
 unfold R5;rw [h.rw8.mm]
 split
 .exact .inl rfl
 .exact .inr (.inl rfl)
theorem O8.grt{n:Int}(h:O8 n m ds ls ms bh R L M)(hk:k<m)(h2:ds.getD k 0 % 6=2):stepF R L M (p8 n k)=[(2,(ls.idxOf (R5 n m (ds.getD k 0)):Int),(((D6 (X8 n m ds k) (R5 n m (ds.getD k 0))).length+1:Nat):Int))]:=by
 have:=h.rd
 subst this;have hz:Q2 n m (ds.getD k 0) k=[(("great" : Str),[R5 n m (ds.getD k 0),p8 n k])]:=by unfold Q2;rw [if_neg (by lia),if_pos h2]
 refine h.sh.sg h.l1 h.l2 (X8_mem.mpr ⟨k,hk,by rw [hz];exact N3⟩) ?_;have fa:∀ A B y,D6 (A++B) y=D6 A y++D6 B y:=fun A B y=>by unfold D6;rw [bW,bJ,Z1]
 have pre:∀ j,k<j->∃ more,D6 (X8 n m ds j) (R5 n m (ds.getD k 0))=D6 (X8 n m ds k) (R5 n m (ds.getD k 0))++p8 n k::more:=fun j hj=>by
  induction j with
  | zero=>lia
  | succ j ih=>
   rw [eQ,fa]
   by_cases e:j=k
   .subst e;rw [hz];refine ⟨[],?_⟩
    have:D6 [(("great" : Str),[R5 n m (ds.getD j 0),p8 n j])] (R5 n m (ds.getD j 0))=[p8 n j]:=by
     unfold D6 J5;rw [bI,if_pos rfl]
     simp
    rw [this]
   .obtain ⟨more,e2⟩:=ih (by lia);exact ⟨more++D6 (Q2 n m (ds.getD j 0) j) (R5 n m (ds.getD k 0)),by rw [e2];simp⟩
 obtain ⟨more,e⟩:=pre m hk;rw [e,fO (C3 _),Nat.sub_self];rfl
theorem O8.cnt{n:Int}(h:O8 n m ds ls ms bh R L M)(hk:k<m)(h0:¬ ds.getD k 0 % 6=0)(h2:¬ ds.getD k 0 % 6=2):stepF R L M (p8 n k)=(2,(ls.idxOf (R5 n m (ds.getD k 0)):Int),0)::(prt8 n m (ds.getD k 0 % 6)).map fun q=>(0,(ms.idxOf q:Int),0):=by
 have:=h.rd
 subst this;refine h.sh.sa h.l1 h.l2 (h.bsm _) (fun q hq=>h.mk8.mem.mpr (xC hq)) (X8_mem.mpr ⟨k,hk,?_⟩);unfold Q2;rw [if_neg h0,if_neg h2];exact N3
noncomputable def sg8L (n:Int) (m:Nat):List Nat:=(U1 m).map fun k:Nat=>X7 n (k:Int)
theorem O8.ens{n:Int}(h:O8 n m ds ls ms bh R L M):EnS R L M (sg8L n (m+2)) (R6 R L M):=by
 have sh:=h.sh;have e:=h.rd;have inn:∀ k:Nat,k<m+2->(k<m/\¬ ds.getD k 0 % 6=0)\/p8 n k∈ls:=fun k hk=>by
  by_cases fD:k<m
  .by_cases h0:ds.getD k 0 % 6=0
   .exact .inr ((h.rw8.mm _).mpr (.inr (.inr ⟨k,fD,h0,rfl⟩)))
   .exact .inl ⟨fD,h0⟩
  .refine .inr ((h.rw8.mm _).mpr ?_)
   by_cases hm:k=m
   .exact .inl (by rw [hm])
   .exact .inr (.inl (by rw [show k=m+1 by lia]))
 refine ⟨by rw [e];exact sh.has.1,fun p hp=>?_,fun c hc=>?_,fun c hc=>?_⟩
 .rw [e] at hp;obtain ⟨c,e,_⟩:=sh.on p (sh.known.mp hp);exact ⟨c,e⟩
 .obtain ⟨k,hk,rfl⟩:=D8.mp hc;have hk:=g7.mp hk;rw [e];refine sh.known.mpr (O5 _ ?_)
  rcases inn k hk with ⟨fD,h0⟩ | hl
  .refine Q5 _ (D8.mpr ?_)
   by_cases h2:ds.getD k 0 % 6=2
   .exact ⟨_,X8_mem.mpr ⟨k,fD,by unfold Q2;rw [if_neg h0,if_pos h2];exact N3⟩,rfl⟩
   .exact ⟨_,X8_mem.mpr ⟨k,fD,by unfold Q2;rw [if_neg h0,if_neg h2];exact N3⟩,rfl⟩
  .exact O5 _ hl
 .obtain ⟨k,hk,rfl⟩:=D8.mp hc;have hk:=g7.mp hk;have key:∀ {i c:Int} {js:List Int},stepF R L M (one (X7 n (k:Int)))=(2,i,c)::(js.map fun j=>(0,j,0))->stepF R L M (one (X7 n (k:Int)))=(2,(R6 R L M (X7 n (k:Int))).1,(R6 R L M (X7 n (k:Int))).2.2)::(R6 R L M (X7 n (k:Int))).2.1.map fun j=>(0,j,0):=fun {i c js} hs=>by rw [rO hs];exact hs
  rcases inn k hk with ⟨fD,h0⟩ | hl
  .by_cases h2:ds.getD k 0 % 6=2
   .exact key (js:=[]) (h.grt fD h2)
   .refine key (i:=(ls.idxOf (R5 n m (ds.getD k 0)):Int)) (c:=0) (js:=(prt8 n m (ds.getD k 0 % 6)).map fun q=>(ms.idxOf q:Int)) ?_;rw [Q6];exact h.cnt fD h0 h2
  .exact key (js:=[]) (h.row hl)
noncomputable def v6 (n:Int) (m:Nat) (ds:List Int) (ls ms:List Str) (y:Str) (e:En):Prop:=(y∈ls/\e=((ls.idxOf y:Int),[],0))\/∃ k<m,y=p8 n k/\¬ ds.getD k 0 % 6=0/\((ds.getD k 0 % 6=2/\e=((ls.idxOf (R5 n m (ds.getD k 0)):Int),[],(((D6 (X8 n m ds k) (R5 n m (ds.getD k 0))).length+1:Nat):Int)))\/(¬ ds.getD k 0 % 6=2/\e=((ls.idxOf (R5 n m (ds.getD k 0)):Int),(prt8 n m (ds.getD k 0 % 6)).map fun q=>(ms.idxOf q:Int),0)))
theorem v6.en{n:Int}(h:O8 n m ds ls ms bh R L M){c:Nat}{e:En}(ht:v6 n m ds ls ms (one c) e):R6 R L M c=e:=by
 rcases ht with ⟨hl,rfl⟩ | ⟨k,hk,hy,h0,⟨h2,rfl⟩ | ⟨h2,rfl⟩⟩
 .exact rO (js:=[]) (h.row hl)
 .have:=h.grt hk h2
  rw [<- hy] at this;exact rO (js:=[]) this
 .have:=h.cnt hk h0 h2
  rw [<- hy] at this;refine rO ?_;rw [Q6];exact this
noncomputable def EnAt (H:Hp) (p q:Addr) (e:En):Prop:=H p=some (.tup [.int e.1,.ref q,.int e.2.2])/\H q=some (.tup (e.2.1.map V.int))
theorem EnAt.same{q:Addr}{e:En}(h:EnAt H p q e)(S:Same H H'):EnAt H' p q e:=⟨S _ _ h.1,S _ _ h.2⟩
noncomputable def IsTb (T:Str->En->Prop) (H:Hp) (d:Addr) (ks:List Str):Prop:=∃ (ad mt:Str->Addr) (F:Str->En),H d=some (.dK (C2 ks fun y=>.ref (ad y)))/\∀ y∈ks,T y (F y)/\EnAt H (ad y) (mt y) (F y)
theorem IsTb.same{T:Str->En->Prop}{d:Addr}(h:IsTb T H d ks)(S:Same H H'):IsTb T H' d ks:=
 let ⟨ad,mt,F,h1,h2⟩:=h
 ⟨ad,mt,F,S _ _ h1,fun y hy=>⟨(h2 y hy).1,(h2 y hy).2.same S⟩⟩
theorem IsTb.mono{T T':Str->En->Prop}{d:Addr}(h:IsTb T H d ks)(hT:∀ y e,T y e->T' y e):IsTb T' H d ks:=
 let ⟨ad,mt,F,h1,h2⟩:=h
 ⟨ad,mt,F,h1,fun y hy=>⟨hT _ _ (h2 y hy).1,(h2 y hy).2⟩⟩
theorem IsTb.top{T:Str->En->Prop}{d:Addr}(h:IsTb T H d ks):∃ kvs,H d=some (.dK kvs)/\kvs.length=ks.length:=by
 obtain ⟨ad,mt,F,h1,h2⟩:=h;exact ⟨_,h1,j0 _ _⟩
theorem IsTb.get{T:Str->En->Prop}{d:Addr}(h:IsTb T H d ks)(hy:y∈ks):∃ p q e,DGet H d (.str y) (some (.ref p))/\T y e/\EnAt H p q e:=by
 obtain ⟨ad,mt,F,h1,h2⟩:=h
 have:DGet H d (kV (Sum.inr y)) (valV (C2 ks fun y=>V.ref (ad y)) (Sum.inr y)):=Z7 h1
 rw [P8,if_pos hy] at this;exact ⟨ad y,mt y,F y,this,h2 y hy⟩
theorem IsTb.putL{T:Str->En->Prop}{d:Addr}{o:HO}(h:IsTb T H d ks)(hf:H f=some (.lst xs)):IsTb T (A0 H f o) d ks:=by
 obtain ⟨ad,mt,F,h1,h2⟩:=h;refine ⟨ad,mt,F,by rw [A7 (ne_of h1 hf (fun z=>by cases z))];exact h1,fun y hy=>⟨(h2 y hy).1,?_,?_⟩⟩
 .rw [A7 (ne_of (h2 y hy).2.1 hf (fun z=>by cases z))];exact (h2 y hy).2.1
 .rw [A7 (ne_of (h2 y hy).2.2 hf (fun z=>by cases z))];exact (h2 y hy).2.2
theorem IsTb.put{T:Str->En->Prop}{d:Addr}(h:IsTb T H d ks)(hl:ks.length<=1000){l:Str}{q:Addr}{e:En}(ht:T l e)(he:EnAt H p q e):∃ x,DPut H d (V.str l) (V.ref p) x/\IsTb T x d (dd ks l)/\∃ o,x=A0 H d o:=by
 obtain ⟨ad,mt,F,h1,h2⟩:=h;refine ⟨_,bU (k:=Sum.inr l) h1 (by rw [j0];exact L1 (by lia)),⟨fun y=>if y=l then p else ad y,fun y=>if y=l then q else mt y,fun y=>if y=l then e else F y,?_,fun y hy=>?_⟩,_,rfl⟩
 .rw [A3];have e:∀ t,(if t=l then V.ref p else V.ref (ad t))=V.ref (if t=l then p else ad t):=fun t=>by
   by_cases h:t=l
   .rw [if_pos h,if_pos h]
   .rw [if_neg h,if_neg h]
  unfold dd
  by_cases hl:l∈ks
  .rw [if_pos hl,mX _ hl];exact congrArg (fun x=>some (HO.dK x)) (U6 fun t _=>e t)
  .rw [if_neg hl,eE _ hl];exact congrArg (fun x=>some (HO.dK x)) (U6 fun t _=>e t)
 .have tu:∀ {c:Addr} {xs:List V} {o:HO},H c=some (.tup xs)->A0 H d o c=some (.tup xs):=fun {c xs o} e=>by rw [A7 (ne_of e h1 (fun z=>by cases z))];exact e
  by_cases h:y=l
  .subst h;simp only [if_true];exact ⟨ht,tu he.1,tu he.2⟩
  .simp only [if_neg h];have w8:y∈ks:=by
    unfold dd at hy
    by_cases hl:l∈ks
    .rw [if_pos hl] at hy;exact hy
    .rw [if_neg hl] at hy
     rcases G0.mp hy with q | q
     .exact q
     .exact absurd (E4.mp q) h
   exact ⟨(h2 y w8).1,tu (h2 y w8).2.1,tu (h2 y w8).2.2⟩
structure MadeT(C:Addr)(H:Hp)(t:Addr)(n:Int)(m:Nat)(bh:Bool)(R:List Rl)(L M:List Str):Prop where
 ex:∃ (x d:Addr) (ks:List Str),H t=some (.tup [.ref x,.ref d,.bl bh])/\OrdC C H x R L M/\IsTb (fun y e=>∃ c,y=one c/\R6 R L M c=e) H d ks/\∀ k<m+2,p8 n k∈ks
 en:EnS R L M (sg8L n (m+2)) (R6 R L M)
 bh:hasW R "behind"=bh
 st:∀ y,(stepF R L M y).length<=15
 two:∀ c d,two c d∉G1 R
theorem MadeT.same{t:Addr}{n:Int}(h:MadeT C H t n m bh R L M)(S:Same H H'):MadeT C H' t n m bh R L M:=
 let ⟨x,d,ks,h1,h2,h3,h4⟩:=h.ex
 ⟨⟨x,d,ks,S _ _ h1,h2.same S,h3.same S,h4⟩,h.en,h.bh,h.st,h.two⟩
noncomputable def akP (C:Addr) (m m4:Nat):Sp:=fun vs H Q _=>∃ (p d s:Addr) (n s0 s1 s2:Int) (ds:List Int),vs=[.ref p,.ref d,.ref s]/\H p=some (.lst ((poolL n m4).map V.str))/\H d=some (.lst (ds.map V.int))/\H s=some (.lst [.int s0,.int s1,.int s2])/\ds.length=m/\(s1=0\/s1=1)/\
 ∀ t H' R L M,H t=none->Same H H'->MadeT C H' t n m (decide (s2=1)) R L M->(∀ f xs o,H f=some (.lst xs)->MadeT C (A0 H' f o) t n m (decide (s2=1)) R L M)->Q (.ref t) H'
noncomputable def akQ (K:PySem.W.Frag) (C:Addr) (m m4:Nat):Sp:=fun vs H Q _=>∃ (a p:Addr) (n:Int) (ns:List Int),vs=[.ref a,.ref p]/\D0 K H a (ns.map V.int)/\H p=some (.lst ((poolL n m4).map V.str))/\
 ∀ t t1 t2 H' b1 b2 R L M R' L' M',H t=none->Same H H'->H' t=some (.tup [.ref t1,.ref t2])->MadeT C H' t1 n m b1 R L M->MadeT C H' t2 n m b2 R' L' M'->Q (.ref t) H'
noncomputable def akR (K:PySem.W.Frag) (m m4:Nat):Sp:=fun vs H Q _=>∃ (a p:Addr) (k:Nat) (n:Int) (ns:List Int),vs=[.ref a,.ref p,.int k]/\D0 K H a (ns.map V.int)/\H p=some (.lst ((poolL n m4).map V.str))/\k<=m/\
 ∀ l H' (zs:List Str),H l=none->Same H H'->H' l=some (.lst (zs.map V.str))->zs.length<=m->(∀ z∈zs,∃ j<m+2,z=p8 n j)->Q (.ref l) H'
noncomputable def cG (bh:Bool) (en:Nat->En) (z:Str) (k:Nat):LvD:=match k with
 | 0=>.ii (z.cps.toList.map fun c=>(en c).1)
 | 1=>.tt ((if bh=true then z.cps.toList.reverse else z.cps.toList).map fun c=>(en c).2.1)
 | 2=>.ii (z.cps.toList.map fun c=>(en c).2.2)
 | _=>.ss z
noncomputable def SdAt (H:Hp) (l:Addr) (d:LvD):Prop:=match d with
 | .ss z=>H l=some (.lst [.str z])
 | d=>LvAt H (.ref l) d
noncomputable def aio (K:PySem.W.Frag) (C:Addr) (m:Nat):Sp:=fun vs H Q _=>∃ (t:Addr) (z:Str) (k:Nat) (n:Int) (bh:Bool) (R:List Rl) (L M:List Str),vs=[.str z,.ref t,.int ((k+1:Nat):Int)]/\k<4/\MadeT C H t n m bh R L M/\o4 (sg8L n (m+2)) z/\z.length<=500/\∀ l H',H l=none->Same H H'->SdAt H' l (cG bh (R6 R L M) z k)->Q (.ref l) H'
noncomputable def am5 (K:PySem.W.Frag) (C:Addr) (m:Nat):Sp:=fun vs H Q _=>∃ (t:Addr) (z z':Str) (k:Nat) (n:Int) (bh:Bool) (R:List Rl) (L M:List Str),vs=[.str z,.str z',.ref t,.int k]/\k<=4/\MadeT C H t n m bh R L M/\o4 (sg8L n (m+2)) z/\o4 (sg8L n (m+2)) z'/\z.length<=500/\z'.length<=500/\∀ H',Same H H'->Q (.int (difL k (E7 bh (R6 R L M) z.cps.toList z'.cps.toList)).2) H'
theorem R4.putL{o:HO}(h:R4 H a R)(hf:H f=some (.lst xs))(ne:f≠a):R4 (A0 H f o) a R:=by
 obtain ⟨ts,h⟩:=h;exact ⟨ts,by rw [A7 ne.symm];exact h.top,N5 h.row fun _ _ e=>by rw [A7 (ne_of e hf (fun z=>by cases z))];exact e⟩
theorem R4.putD{o:HO}(h:R4 H a R)(hf:H f=some (.dK kvs)):R4 (A0 H f o) a R:=by
 obtain ⟨ts,h⟩:=h;exact ⟨ts,by rw [A7 (ne_of h.top hf (fun z=>by cases z))];exact h.top,N5 h.row fun _ _ e=>by rw [A7 (ne_of e hf (fun z=>by cases z))];exact e⟩
structure MdI(Hb H2:Hp)(rl tb fo:Addr)(T:Str->En->Prop)(ks:List Str)(R:List Rl)(a0 a1:Nat):Prop where
 same:Same Hb H2
 ru:R4 H2 rl R
 tab:IsTb T H2 tb ks
 fm:H2 fo=some (.lst [.int a0,.int a1])
 ne:fo≠rl
theorem MdI.more{tb:Addr}{T:Str->En->Prop}(h:MdI Hb H2 rl tb fo T ks R a0 a1)(S:Same H2 H3):MdI Hb H3 rl tb fo T ks R a0 a1:=⟨h.same.trans S,h.ru.same S,h.tab.same S,S _ _ h.fm,h.ne⟩
theorem MdI.rule{tb t:Addr}{T:Str->En->Prop}{z:Rl}(h:MdI Hb H3 rl tb fo T ks R a0 a1)(n:Hb rl=none)(hl:R.length<=1000)(ht:H3 t=some (tupR z)):∃ xs,H3 rl=some (.lst xs)/\xs.length<sizeLine/\MdI Hb (A0 H3 rl (.lst (xs++[V.ref t]))) rl tb fo T ks (R++[z]) a0 a1:=by
 obtain ⟨xs,e1,e2,e3⟩:=h.ru.more hl (dU H3) ht;exact ⟨xs,e1,e2,h.same.put n,e3,h.tab.putL e1,by rw [A7 h.ne];exact h.fm,h.ne⟩
theorem MdI.put{tb q:Addr}{T:Str->En->Prop}{l:Str}{e:En}(h:MdI Hb H3 rl tb fo T ks R a0 a1)(n:Hb tb=none)(hl:ks.length<=1000)(ht:T l e)(he:EnAt H3 p q e):∃ x,DPut H3 tb (V.str l) (V.ref p) x/\MdI Hb x rl tb fo T (dd ks l) R a0 a1:=by
 obtain ⟨kvs,hk,_⟩:=h.tab.top;obtain ⟨x,h1,h2,o,rfl⟩:=h.tab.put hl ht he;exact ⟨_,h1,h.same.put n,h.ru.putD hk,h2,by rw [A7 (ne_of h.fm hk (fun z=>by cases z))];exact h.fm,h.ne⟩
theorem MdI.form{tb:Addr}{T:Str->En->Prop}{b0 b1:Nat}(h:MdI Hb H3 rl tb fo T ks R a0 a1)(n:Hb fo=none):MdI Hb (A0 H3 fo (.lst [.int b0,.int b1])) rl tb fo T ks R b0 b1:=
 ⟨h.same.put n,h.ru.putL h.fm h.ne,h.tab.putL h.fm,A3,h.ne⟩
noncomputable def N8 (n:Int) (m:Nat) (ds:List Int) (i g:Nat):Nat:=(D6 (X8 n m ds i) (p8 n (m+g))).length
theorem agG(A B:List Rl)(y:Str):D6 (A++B) y=D6 A y++D6 B y:=by unfold D6;rw [bW,bJ,Z1]
theorem arw{n:Int}{g:Nat}(h2:¬ ds.getD i 0 % 6=2):N8 n m ds (i+1) g=N8 n m ds i g:=by
 unfold N8;rw [eQ,agG,D7]
 have:D6 (Q2 n m (ds.getD i 0) i) (p8 n (m+g))=[]:=by
  unfold Q2
  by_cases h0:ds.getD i 0 % 6=0
  .rw [if_pos h0];rfl
  .rw [if_neg h0,if_neg h2];unfold D6;rw [eG (show Str.ofString "as"≠Str.ofString "great" by decide +kernel)];rfl
 rw [this];rfl
theorem bs8_g{n:Int}{d:Int}{g:Nat}(hg:d / 6 % 2=g):R5 n m d=p8 n (m+g):=by
 unfold R5
 rcases (show g=0\/g=1 by lia) with rfl | rfl
 .rw [if_pos (by simpa using hg)];rfl
 .rw [if_neg (by lia)]
theorem aoH{n:Int}{g g':Nat}(hm:m<=50)(h2:ds.getD i 0 % 6=2)(hg:ds.getD i 0 / 6 % 2=g)(iH:g'<=1):N8 n m ds (i+1) g'=N8 n m ds i g'+if g'=g then 1 else 0:=by
 unfold N8;rw [eQ,agG,D7];have e:Q2 n m (ds.getD i 0) i=[(("great" : Str),[p8 n (m+g),p8 n i])]:=by unfold Q2;rw [if_neg (by lia),if_pos h2,bs8_g hg]
 rw [e]
 congr 1
 unfold D6 J5;rw [bI,if_pos rfl]
 by_cases h:g'=g
 .rw [if_pos h,h];simp
 .rw [if_neg h]
  have:¬ p8 n (m+g)=p8 n (m+g'):=fun q=>h (by have:=aQ (by lia) (by lia) q;lia)
  simp [this]
theorem dd_mem{l:Str} : y∈dd ks l↔y∈ks\/y=l:=by
 unfold dd
 split
 .rename_i h
  exact ⟨.inl,fun q=>q.elim id fun e=>by rw [e];exact h⟩
 .simp
theorem xD(ks:List Str)(l:Str):(dd ks l).length<=ks.length+1:=by
 unfold dd
 split
 .lia
 .simp
theorem MadeT.mk8{t x d:Addr}{n:Int}(ht:H t=some (.tup [.ref x,.ref d,.bl bh]))(hO:OrdC C H x R L M)(h:O8 n m ds ls ms bh R L M)(hT:IsTb (v6 n m ds ls ms) H d ks)(hk:∀ k<m+2,p8 n k∈ks):MadeT C H t n m bh R L M:=by
 have sh:=h.sh;have e:=h.rd;have cS:∀ y e,v6 n m ds ls ms y e->∃ c,y=one c:=fun y e hy=>by
  rcases hy with ⟨hl,_⟩ | ⟨k,_,hy,_⟩
  .obtain ⟨c,e,_⟩:=sh.on y (O5 _ (O5 _ hl));exact ⟨c,e⟩
  .exact ⟨_,hy⟩
 refine ⟨⟨x,d,ks,ht,hO,hT.mono fun y e hy=>?_,hk⟩,h.ens,by rw [e];exact sh.has.2.1,fun y=>by rw [e];exact sh.steps L M y,fun c d q=>?_⟩
 .obtain ⟨c,rfl⟩:=cS y e hy;exact ⟨c,rfl,hy.en h⟩
 .obtain ⟨a,e2⟩:=h.ens.kn _ q;have e1:[c,d]=[a]:=congrArg (fun z:Str=>z.cps.toList) e2;cases e1
theorem newT{o:HO}(n:H p=none):∃ H',A0 H p o=H'/\Same H H'/\H' p=some o:=⟨_,rfl,Same.new n,A3⟩
theorem v6.base{n:Int}{g:Nat}{e:En}(hm:m<=10)(hg:g<=1)(h:v6 n m ds ls ms (p8 n (m+g)) e):e=((ls.idxOf (p8 n (m+g)):Int),[],0):=by
 rcases h with ⟨_,rfl⟩ | ⟨k,hk,e,_⟩
 .rfl
 .have:=aQ (by lia) (by lia) e
  lia
theorem addT(h1:H a=some (.tup xs))(h2:H b=some (.tup ys))(h0:xs≠[])(h3:xs.length+ys.length<=sizeLine)(q:∀ t H',Same H H'->H' t=some (.tup (xs++ys))->Q (.ref t) H'):rAddR K a b H Q:=
 rAddR.t (.of h1) (.of h2) h0 h3 (fun e=>q a H (dU _) (by rw [e,M3];exact h1)) fun _ p np=>q p _ (Same.new np) A3
theorem amt(n:Int)(m:Nat)(c:Int):(prt8 n m c).length<=2:=by
 unfold prt8
 split
 .simp
 .split
  .simp
  .split <;> simp
theorem afk{α β:Type}{F:α->β->Prop} : ∀ {l₁ zb:List α} {l₂ za:List β},Paired F l₁ l₂->Paired F zb za->Paired F (l₁++zb) (l₂++za)
 | _,_,_,_,.nil,h=>h
 | _,_,_,_,.cons r t,h=>.cons r (afk t h)
theorem aoI{x j:Addr}{g:Str->Str}{o:HO}(h:IsOrd C H x j ll ml md g R L M)(hf:H f=some (.lst xs))(n1:ll≠f)(n2:ml≠f):IsOrd C (A0 H f o) x j ll ml md g R L M:=by
 obtain ⟨dx,ho⟩:=h.ob;have nd:md≠f:=by
  obtain ⟨ad,h1,_⟩:=h.made;exact ne_of h1 hf (fun z=>by cases z)
 exact ⟨⟨dx,by rw [A7 (ne_of ho hf (fun z=>by cases z))];exact ho⟩,by rw [A7 (ne_of h.jobs hf (fun z=>by cases z))];exact h.jobs,by rw [A7 n1];exact h.lets,by rw [A7 n2];exact h.mrks,h.made.mod hf (fun _ z=>by cases z) nd,h.l1,h.l2⟩
theorem init8{H6:Hp}{x dx:Addr}{n:Int}{E:XK}(hR:R4 H6 r (R8 ls ms (X8 n m ds m) bh))(nx:H6 x=none)(ndx:H6 dx=none)(ne:dx≠x)(hm:m<=10)(hr:Row8 n m m ds ls)(hk:kW n m ms)(hQ:∀ H9 L M,Same H6 H9->(∀ H',Same H9 H'->OrdC C H' x (R8 ls ms (X8 n m ds m) bh) L M/\∀ f xs o,H6 f=some (.lst xs)->OrdC C (A0 H' f o) x (R8 ls ms (X8 n m ds m) bh) L M)->O8 n m ds ls ms bh (R8 ls ms (X8 n m ds m) bh) L M->Q .non H9):rD C [.ref x,.ref r] (A0 (A0 H6 dx (.own x)) x (.ins C dx [])) Q E:=by
 have sh:=am4 hm hr hk;obtain ⟨ts,hR⟩:=hR;have S8:Same H6 (A0 (A0 H6 dx (.own x)) x (.ins C dx [])):=(Same.new ndx).trans (Same.new (by rw [A7 ne.symm];exact nx));have sX:A0 (A0 H6 dx (.own x)) x (.ins C dx []) x=some (.ins C dx []):=A3;generalize A0 (A0 H6 dx (.own x)) x (.ins C dx [])=H8 at S8 sX;have sty:∀ L M y,(stepY (R8 ls ms (X8 n m ds m) bh) L M y).length<=15:=fun L M y=>by
  unfold L2.stepY
  split
  .show 1<=15;decide
  .exact sh.steps L M y
 refine ⟨x,dx,r,ts,_,_,_,_,rfl,sX,hR.same S8,sh.good,fun j ll ml md L M H9 nj nll nml nmd B9 hO=>?_⟩;have S9:Same H6 H9:=fun b o hb=>B9 _ _ (fun e=>by rw [e,nx] at hb;cases hb) (S8 _ _ hb)
 refine hQ H9 L M S9 (fun H' S'=>⟨⟨⟨j,ll,ml,md,hO.same S'⟩,sh.knownL,sty L M⟩,fun f xs o hf=>⟨⟨j,ll,ml,md,aoI (hO.same S') ((S9.trans S') _ _ hf) (fun e=>?_) (fun e=>?_)⟩,sh.knownL,sty L M⟩⟩) ⟨rfl,hr,hk,hm,hO.l1,hO.l2⟩
 .have:=S8 _ _ hf
  rw [<- e,nll] at this
  cases this
 .have:=S8 _ _ hf
  rw [<- e,nml] at this
  cases this
theorem akT{c:Nat}(h:signB c=true):i6 (one c)=true:=(ajL (ajM h)).1
theorem am6{n:Int}(h:o4 (sg8L n m) z):i6 z=true:=by
 unfold i6;rw [<- Array.all_toList,List.all_eq_true];intro c hc;obtain ⟨k,_,rfl⟩:=D8.mp (h c hc)
 have:=(nX n (k:Int)).2
 unfold signB at this;simp only [Z5,decide_eq_true_eq] at this ⊢
 lia
theorem arx{α β:Type}{l:List α}{f:α->β} : (if bh=true then l.reverse else l).map f=if bh=true then (l.map f).reverse else l.map f:=by
 cases bh <;> simp
theorem ary{en:Nat->En}(hi:i<4):E7 bh en z.cps.toList z'.cps.toList i=cmpD (cG bh en z i) (cG bh en z' i):=by
 match i,hi with
 | 0,_=>exact (xA _ _).symm
 | 1,_=>exact (akJ _ _).symm
 | 2,_=>exact (xA _ _).symm
 | 3,_=>exact (akK _ _).symm
theorem aoJ{en:Nat->En}(hi:i<4):(cG bh en z i).kind=(cG bh en z' i).kind:=by
 match i,hi with
 | 0,_=>rfl
 | 1,_=>rfl
 | 2,_=>rfl
 | 3,_=>rfl
theorem SdAt.same{l:Addr}{d:LvD}(h:SdAt H l d)(S:Same H H'):SdAt H' l d:=by
 cases d with
 | ss z=>exact S _ _ h
 | tt xs=>exact LvAt.same (d:=.tt xs) h S
 | ii xs=>exact LvAt.same (d:=.ii xs) h S
theorem SdAt.ne{l l':Addr}{d d':LvD}(h:SdAt H l d)(h':SdAt H l' d')(hk:d.kind=d'.kind)(ok:∀ z,d=.ss z->i6 z=true)(ok':∀ z,d'=.ss z->i6 z=true)(q:Q (.bl (!decide (d=d'))) H):rNeU K (.ref l) (.ref l') H Q:=by
 cases d with
 | ss z=>cases d' with
  | ss z'=>
   refine ⟨_,_,.lst (.of h) (.cons (.str z (ok z rfl)) .nil),.lst (.of h') (.cons (.str z' (ok' z' rfl)) .nil),by simp [bM,y9],?_⟩;have e:(PyData.list [bN z]).eqv (PyData.list [bN z'])=decide (LvD.ss z=LvD.ss z'):=by
    have:=ahR [z] [z']
    simpa using this
   rw [e];exact q
  | _=>cases hk
 | tt xs=>cases d' with
  | tt ys=>exact LvAt.ne (d:=.tt xs) (d':=.tt ys) h h' hk q
  | _=>cases hk
 | ii xs=>cases d' with
  | ii ys=>exact LvAt.ne (d:=.ii xs) (d':=.ii ys) h h' hk q
  | _=>cases hk
theorem SdAt.lt{l l':Addr}{d d':LvD}(h:SdAt H l d)(h':SdAt H l' d')(hk:d.kind=d'.kind)(q:Q (.bl (d.lt d')) H):rLtL K (.ref l) (.ref l') H Q:=by
 cases d with
 | ss z=>cases d' with
  | ss z'=>
   refine .inr ⟨l,l',[z],[z'],rfl,rfl,.of h,.of h',?_⟩;have e:decide (([z].map fun z:Str=>z.cps.toList)<[z'].map fun z:Str=>z.cps.toList)=(LvD.ss z).lt (.ss z'):=by
    refine decide_eq_decide.mpr ?_;show ([z.cps.toList]<[z'.cps.toList])↔_;rw [fR];exact ⟨fun h=>h.elim id fun h=>absurd h.2 (List.not_lt_nil _),.inl⟩
   rw [e];exact q
  | _=>cases hk
 | tt xs=>cases d' with
  | tt ys=>exact .inl (LvAt.lt (d:=.tt xs) (d':=.tt ys) h h' hk q)
  | _=>cases hk
 | ii xs=>cases d' with
  | ii ys=>exact .inl (LvAt.lt (d:=.ii xs) (d':=.ii ys) h h' hk q)
  | _=>cases hk
noncomputable def vE (k:Nat) (q:Addr) (e:En):V:=match k with
 | 0=>.int e.1
 | 1=>.ref q
 | _=>.int e.2.2
theorem vE_at{q:Addr}{e:En}(hk:k<3):G2 [V.int e.1,V.ref q,V.int e.2.2] (((k+1:Nat):Int)-1)=some (vE k q e):=by
 match k,hk with
 | 0,_=>rfl
 | 1,_=>rfl
 | 2,_=>rfl
theorem sd_of{l:Addr}{en:Nat->En}{es:List (Addr×En)}(hk:k<3)(hl:H l=some (.lst (if k=1/\bh=true then (es.map fun e=>vE k e.1 e.2).reverse else es.map fun e=>vE k e.1 e.2)))(he:es.map (·.2)=z.cps.toList.map en)(hp:∀ e∈es,H e.1=some (.tup (e.2.2.1.map V.int))):SdAt H l (cG bh en z k):=by
 have hm:∀ f:En->Int,(es.map fun e=>V.int (f e.2))=(z.cps.toList.map fun c=>f (en c)).map V.int:=fun f=>by
  have:=congrArg (List.map fun x=>V.int (f x)) he
  rw [Q6,Q6] at this;rw [Q6];exact this
 match k,hk with
 | 0,_=>exact ⟨l,rfl,by rw [hl,if_neg (fun h=>absurd h.1 (by decide))];exact congrArg (fun x=>some (HO.lst x)) (hm fun e=>e.1)⟩
 | 2,_=>exact ⟨l,rfl,by rw [hl,if_neg (fun h=>absurd h.1 (by decide))];exact congrArg (fun x=>some (HO.lst x)) (hm fun e=>e.2.2)⟩
 | 1,_=>
  have pr:∀ {es:List (Addr×En)},(∀ e∈es,H e.1=some (.tup (e.2.2.1.map V.int)))->Paired (fun c (x:List Int)=>H c=some (.tup (x.map V.int))) (es.map (·.1)) ((es.map (·.2)).map fun e=>e.2.1):=fun {es} h=>by
   induction es with
   | nil=>exact .nil
   | cons e es ih=>exact .cons (h e N3) (ih fun e he=>h e (N9 _ he))
  have p0:=pr hp;rw [he,Q6] at p0
  cases bh with
  | false=>exact ⟨l,es.map (·.1),rfl,by rw [hl,if_neg (fun h=>by cases h.2),Q6];rfl,p0⟩
  | true=>
   refine ⟨l,(es.map (·.1)).reverse,rfl,by rw [hl,if_pos ⟨rfl,rfl⟩,List.map_reverse,Q6];rfl,?_⟩;rw [arx,if_pos rfl];exact wQ p0
theorem EnS.sub{S':List Nat}{en:Nat->En}(h:EnS R L M S en)(hs:∀ c∈S',c∈S):EnS R L M S' en:=⟨h.nf,h.kn,fun c hc=>h.ki c (hs c hc),fun c hc=>h.st c (hs c hc)⟩
theorem EnS.plain{en:Nat->En}(h:EnS R L M S en){c:Nat}(hc:c∈S):eP R L M (one c)=true:=by
 unfold eP letN;rw [h.st c hc,jB (by simp),mC.mpr (fun s hs=>by
  obtain ⟨j,_,rfl⟩:=D8.mp hs
  simp)]
 rfl
structure Zs8(n:Int)(m:Nat)(zs:List Str):Prop where
 len:zs.length<=10
 of:∀ z∈zs,∃ j<m+2,z=p8 n j
noncomputable def chL (zs:List Str):List Nat:=zs.map fun z=>z.cps.toList.headD 0
theorem Zs8.ch{n:Int}(h:Zs8 n m zs):(∀ z∈zs,∃ c∈chL zs,z=one c)/\(∀ c∈chL zs,one c∈zs/\c∈sg8L n (m+2)):=by
 refine ⟨fun z hz=>?_,fun c hc=>?_⟩
 .obtain ⟨j,hj,e⟩:=h.of z hz;exact ⟨X7 n (j:Int),D8.mpr ⟨z,hz,by rw [e];rfl⟩,e⟩
 .obtain ⟨z,hz,rfl⟩:=D8.mp hc;obtain ⟨j,hj,e⟩:=h.of z hz;rw [e] at hz ⊢
  exact ⟨hz,D8.mpr ⟨j,g7.mpr hj,rfl⟩⟩
theorem Zs8.chk{n:Int}(h:Zs8 n m zs){t t':Addr}{b:Bool}(h1:MadeT C H t n m b R L M)(h2:MadeT C H t' n m b' R' L' M'):chkF R L M R' L' M' zs=none/\∀ z∈zs,o3 R z/\o3 R' z:=by
 have ofz:∀ z∈zs,∃ c∈sg8L n (m+2),z=one c:=fun z hz=>by
  obtain ⟨c,hc,e⟩:=h.ch.1 z hz;exact ⟨c,(h.ch.2 c hc).2,e⟩
 constructor
 .unfold chkF;rw [Option.or_eq_none_iff,y0,y0];refine ⟨fun z hz=>?_,fun t ht=>?_⟩
  .obtain ⟨c,hc,rfl⟩:=ofz z hz;rw [h1.en.plain hc,h2.en.plain hc]
   simp
  .obtain ⟨a,ha,ht⟩:=W0.mp ht;obtain ⟨b,hb,rfl⟩:=D8.mp ht;obtain ⟨c,_,rfl⟩:=ofz a ha;obtain ⟨d,_,rfl⟩:=ofz b hb;have e:one c++one d=two c d:=rfl;rw [e,decide_eq_false (h1.two c d),decide_eq_false (h2.two c d)]
   simp
 .intro z hz;obtain ⟨c,hc,rfl⟩:=ofz z hz;have oc:∀ e∈(one c).cps.toList,e∈sg8L n (m+2):=fun e he=>by rw [E4.mp (show e∈[c] from he)];exact hc
  exact ⟨⟨by show 1<=500;decide,h1.en.whole oc⟩,by show 1<=500;decide,h2.en.whole oc⟩
noncomputable def spOf8:Sp:=fun vs H Q _=>∃ (z:Str) (l:Addr) (zs:List Str),vs=[.str z,.ref l]/\H l=some (.lst (zs.map V.str))/\(∀ c∈z.cps.toList,one c∈zs)/\Q (.bl true) H
theorem wit8{t t':Addr}{n:Int}{b:Bool}(h1:MadeT C H t n m b R L M)(h2:MadeT C H t' n m b' R' L' M')(hz:Zs8 n m zs)(hk:k<=4)(bB:0<k){u v:Str}(hw:wX (hasW R "behind") (hasW R' "behind") (mvsF R L M R' L' M' k zs) zs u v) :
  (∀ c∈u.cps.toList,one c∈zs)/\(∀ c∈v.cps.toList,one c∈zs)/\o4 (sg8L n (m+2)) u/\o4 (sg8L n (m+2)) v/\(difL k (E7 b (R6 R L M) u.cps.toList v.cps.toList)).2≠(difL k (E7 b' (R6 R' L' M') u.cps.toList v.cps.toList)).2:=by
 obtain ⟨iQ,Q3⟩:=hz.ch;obtain ⟨i1,i2,i3⟩:=uaa (h1.en.sub fun c hc=>(Q3 c hc).2) (h2.en.sub fun c hc=>(Q3 c hc).2) hk bB iQ hw;rw [h1.bh,h2.bh] at i3;exact ⟨fun c hc=>(Q3 c (i1 c hc)).1,fun c hc=>(Q3 c (i2 c hc)).1,fun c hc=>(Q3 c (i1 c hc)).2,fun c hc=>(Q3 c (i2 c hc)).2,i3⟩
section
variable {P:Program} {w:World} {K:PySem.W.Frag} {mg:Str->Option Value} {base:Heap} {C:Addr}
theorem sc_told:FnScope ["rows", "seen", "row", "piece"] ["rows"] (C1 aL):=E5
abbrev VS(N:List Str)(s:Stmt)(x:Str)(n:Nat):Prop:=∀ {X:Cx} {pos:Pos},X.N=N->X.env.scope=C1 s->QE X (.Name x pos) (tVar n)
theorem vq{s:Stmt}{x:Str}(h:(decide (N[n]?=some x)&&visB (C1 s) x && !(x==("__debug__" : Str)) && !(x==("__classdict__" : Str)))=true:=by decide +kernel):VS N s x n:=fun hN hs=>qvd hN hs h
theorem vi{s:Stmt}{x:Str}{pos:Pos}(h:VS N s x n)(h1:X.N=N:=by rfl)(h2:X.env.scope=C1 s:=by rfl):QE X (.Name x pos) (tVar n):=h h1 h2
abbrev LS(s:Stmt)(x:Str):Prop:=t5 (C1 s) x
theorem lq{s:Stmt}{x:Str}(h:(C1 s).names.lookup x=some .local\/(C1 s).names.lookup x=some .cell:=by decide +kernel):LS s x:=h
abbrev rP:List Str:=["rows", "seen", "row", "piece"]
theorem vaa:VS rP aL "rows" 0:=vq
theorem vab:VS rP aL "seen" 1:=vq
theorem vac:VS rP aL "row" 2:=vq
theorem vad:VS rP aL "piece" 3:=vq
theorem vae:LS aL "seen":=lq
theorem vaf:LS aL "row":=lq
theorem vag:LS aL "piece":=lq
theorem aoK(F:FunD K "told" "told" aL f fd)(T:Txt P w K mg C):FnOk P w K mg base D9 1 f fd ["rows"] amN:=by
 refine F.ok sc_told ?_ ?_
 .rintro _ _ _ _ ⟨a,rs,zss,rfl,_⟩;rfl
 .intro cdv A outer s H vs Q E hr h;have B5:=hu_of hr;have hu:=hr.units;refine ⟨_,QSs.out (A5 (C6 (n:=1) sc_told.nd rfl vae gH)
   (A5 (M7 PassesOwn.never (P0 (K:=K) (vi vaa)) (D3 (n:=2) sc_told.nd rfl vaf (.inl rfl)) (A4 (M7 PassesOwn.never (P0 (K:=K) (vi vac)) (D3 (n:=3) sc_told.nd rfl vag (.inl rfl)) (A4 (m7 B5 (vi vab) (vi vad) qe_bl)))))
   (A4 (C7 (qe_cT (mU (K:=K) (calm:=true)) T.b_list jY (qa_c (vi vab) A2)))))),?_⟩
  obtain ⟨a,rs,zss,rfl,hR,hz,q⟩:=h;walk_at "rd";intro d nd;have hlz:∀ n:Nat,n<=100000->n<sizeLine:=fun n h=>L1 (by lia)
  refine ⟨⟨_,.of (C8 hR.top nd)⟩,forL (xs:=rs.map V.ref) (fun i Y H2=>∃ (u v:Option V),Y=[some (.ref a),some (.ref d),u,v]/\Same H H2/\H2 d=some (.dK (kvOf (toldL (zss.take i)))))
   ⟨none,none,rfl,Same.new nd,by rw [A3];rfl⟩ (by rintro i Y H2 _ ⟨_,_,_,S,_⟩;exact .of (S _ _ hR.top)) ?_ ?_⟩
  .rintro i x Y H2 hx ⟨u,v,rfl,S,hd⟩;obtain ⟨r,hr,rfl⟩:=G9 hx;obtain ⟨zs,bD,E2⟩:=Paired.at hR.row hr;have hcount:(toldL (zss.take i)).length+zs.length<=100000:=by
    have h1:zss.take (i+1)=zss.take i++[zs]:=by rw [q0,bD];rfl
    have h2:=mS (zss.take i);have h3:(zss.take (i+1)).flatten.length<=zss.flatten.length:=by
     conv=>rhs;rw [<- p9 (i+1) zss]
     rw [List.flatten_append,D7];lia
    rw [h1,List.flatten_append,D7] at h3;simp at h3;simp at h2 hz h3 ⊢
    lia
   walk_at "rd";refine ⟨⟨_,.of (S _ _ E2)⟩,forL (xs:=zs.map V.str) (fun j Y H3=>∃ (v:Option V),Y=[some (.ref a),some (.ref d),some (.ref r),v]/\Same H H3/\H3 d=some (.dK (kvOf (G7 (toldL (zss.take i)) (zs.take j)))))
    ⟨v,rfl,S,hd⟩ (by rintro j Y H3 _ ⟨_,_,S3,_⟩;exact .of (S3 _ _ E2)) ?_ ?_⟩
   .rintro j y Y H3 hy ⟨v,rfl,S3,Q4⟩;obtain ⟨z,Y9,rfl⟩:=G9 hy;walk_at "rd";refine ⟨_,bU (k:=Sum.inr z) Q4 ?_,S3.put nd,?_⟩
    .unfold kvOf;rw [A6];refine hlz _ ?_
     have:=mR (zs.take j) (toldL (zss.take i))
     rw [L4] at this;lia
    .rw [A3,aga,alL Y9]
   .rintro Y H3 ⟨v,rfl,S3,Q4⟩;walk_at "rd";refine ⟨S3,?_⟩;rw [Q4,ajO bD,A6,L6]
  .rintro Y H2 ⟨u,v,rfl,S,hd⟩;walk_at "rd";refine rListR.d (.of hd) fun l nl=>?_
   refine q l _ (S.free nl) (fun b o h=>C8 (S b o h) nl) ?_;rw [A3,ajP,A6];rw [show rs.length=zss.length from Paired.length hR.row,L6]
theorem sc_followers:FnScope ["rows", "after", "piece", "row", "one", "other"] ["rows"] (C1 b9):=E5
abbrev kX:List Str:=["rows", "after", "piece", "row", "one", "other"]
theorem vah:VS kX b9 "rows" 0:=vq
theorem xE:VS kX b9 "after" 1:=vq
theorem vaj:VS kX b9 "piece" 2:=vq
theorem vak:VS kX b9 "row" 3:=vq
theorem vam:VS kX b9 "one" 4:=vq
theorem van:VS kX b9 "other" 5:=vq
theorem vao:LS b9 "after":=lq
theorem vap:LS b9 "piece":=lq
theorem vaq:LS b9 "row":=lq
theorem var:LS b9 "one":=lq
theorem vas:LS b9 "other":=lq
theorem agH(F:FunD K "followers" "followers" b9 f fd)(T:Txt P w K mg C)(G_told:FO P w K mg base 1 "told" ["rows"] [] amN):FnOk P w K mg base D9 2 f fd ["rows"] spFol:=by
 refine F.ok sc_followers ?_ ?_
 .rintro _ _ _ _ ⟨a,rs,zss,rfl,_⟩;rfl
 .intro cdv A outer s H vs Q E hr h;have B5:=hu_of hr;have hu:=hr.units;refine ⟨_,QSs.out (A5 (C6 (n:=1) sc_followers.nd rfl vao gH)
   (A5 (M7 PassesOwn.never (P0 (K:=K) (D1 G_told (hm hr) (qa_c (vi vah) A2))) (D3 (n:=2) sc_followers.nd rfl vap (.inl rfl)) (A4 (m7 B5 (vi xE) (vi vaj) (R1 A2))))
   (A5 (M7 PassesOwn.never (P0 (K:=K) (vi vah)) (D3 (n:=3) sc_followers.nd rfl vaq (.inl rfl)) (A4 (M7 PassesOwn.never (aq5 T.b_zip (qa_c (vi vak) (qa_c (O6 (K:=K) (vi vak) (L9 A1) R3) A2))) (aF (K:=K) (n:=2) (P7 ((D3 (n:=4) sc_followers.nd rfl var (.inl rfl))) (P7 ((D3 (n:=5) sc_followers.nd rfl vas (.inl rfl))) aE))) (A4 (U0 (qe_mB (K:=K) W1 g9 g8 i9 (Z9 B5 (vi xE) (vi vam)) (qa_c (vi van) A2)))))))
   (A4 (C7 (vi xE)))))),?_⟩
  obtain ⟨a,rs,zss,rfl,hR,hz,q⟩:=h;walk_at "rd";intro d nd;have S0:Same H (A0 H d (.dK [])):=Same.new nd;refine ⟨a,rs,zss,rfl,hR.same S0,hz,fun l H1 nl S1 hl=>?_⟩;have zP:H1 d=some (.dK []):=S1 _ _ A3;have S01:=S0.trans S1;have A8:(toldL zss).length<=100000:=N4 (mS zss) hz;have tnd:=kE zss;refine ⟨l,rfl,⟨_,.of hl⟩,forL (xs:=(toldL zss).map V.str) (fun i Y H2=>∃ (u v w x:Option V) (ad:Str->Addr),Y=[some (.ref a),some (.ref d),u,v,w,x]/\SameBut d H1 H2/\H2 d=some (.dK (C2 ((toldL zss).take i) fun t=>.ref (ad t)))/\DL H1 H2 ((toldL zss).take i) ad fun _=>[])
   ⟨none,none,none,none,fun _=>0,rfl,uad _ _,zP,⟨fun t h=>by simp at h,fun t h=>by simp at h,fun t h=>by simp at h⟩⟩ (fun i Y H2 _ ⟨_,_,_,_,_,_,S,_⟩=>.of (S _ _ (fun e=>by rw [e,zP] at hl;cases hl) hl)) ?_ ?_⟩
  .rintro i x Y H2 hx ⟨u,v,w,y,ad,rfl,S,hd,dl⟩;obtain ⟨z,hk,rfl⟩:=G9 hx;have hi:i<(toldL zss).length:=(E9.mp hk).1;have R9:=vV tnd hk;walk_at "rd";refine fun p np=>⟨_,bU (k:=Sum.inr z) (C8 hd np) (by rw [j0,L4];exact L1 (by lia)),?_⟩
   have n1:H1 p=none:=S.free np (fun e=>by rw [e,hd] at np;cases np);refine ⟨(S.put n1).at,fun t=>if t=z then p else ad t,?_,?_⟩
   .rw [A3,eE _ R9,M0 hk];have e:(fun t=>if t=z then V.ref p else V.ref (ad t))=fun t=>V.ref (if t=z then p else ad t):=by funext t;split <;> rfl
    rw [e]
   .rw [M0 hk];exact ((dl.more R9 np n1).congr fun t _=>by split <;> rfl).put zP
  .rintro Y H2 ⟨u,v,w,y,ad,rfl,S,hd,dl⟩;rw [A6,L6] at hd dl;have S2:Same H H2:=S.same S01 nd;walk_at "rd";have dl0:DL H H2 (toldL zss) ad fun _=>[]:=dl.old S01
   refine ⟨⟨_,.of (S2 _ _ hR.top)⟩,forL (xs:=rs.map V.ref) (fun i Y H3=>∃ (v w x:Option V),Y=[some (.ref a),some (.ref d),u,v,w,x]/\Same H H3/\H3 d=some (.dK (C2 (toldL zss) fun t=>.ref (ad t)))/\DL H H3 (toldL zss) ad (F6 (edges (zss.take i))))
    ⟨v,w,y,rfl,S2,hd,dl0⟩ (by rintro i Y H3 _ ⟨_,_,_,_,S,_⟩;exact .of (S _ _ hR.top)) ?_ ?_⟩
   .rintro i x Y H3 hx ⟨v,w,y,rfl,S3,Q4,bE⟩;obtain ⟨r,hr,rfl⟩:=G9 hx;obtain ⟨zs,bD,E2⟩:=Paired.at hR.row hr;have fE:=S3 _ _ E2;have E8:∀ x∈zs,x∈toldL zss:=fun x hx=>(vT _ _).mpr (List.mem_flatten.mpr ⟨zs,K8 bD,hx⟩)
    walk_at "rd";refine rSlR.l (.of fE) fun p np=>?_
    have ecut:cutV (zs.map V.str) (some 1) none=zs.tail.map V.str:=by
     have:=t8 (zs.map V.str) 1
     rw [show ((1:Nat):Int)=1 from rfl] at this;rw [this,<- fU,List.drop_one]
    rw [ecut];have fF:H p=none:=S3.free np;have nad:∀ t∈toldL zss,ad t≠p:=fun t ht e=>by have:=bE.row t ht;rw [e,np] at this;cases this
    have nadr:∀ t∈toldL zss,ad t≠r:=fun t ht e=>by have:=bE.new t ht;rw [e,E2] at this;cases this
    have ndp:d≠p:=fun e=>by rw [<- e,Q4] at np;cases np
    have nadd:∀ t∈toldL zss,ad t≠d:=fun t ht e=>by have:=bE.row t ht;rw [e,Q4] at this;cases this
    refine ⟨p,rfl,⟨_,C8 fE np⟩,⟨_,A3⟩,forZ (xs:=zs.map V.str) (ys:=zs.tail.map V.str) (fun j Y H4=>∃ (w x:Option V),Y=[some (.ref a),some (.ref d),u,some (.ref r),w,x]/\Same H H4/\H4 p=some (.lst (zs.tail.map V.str))/\H4 d=some (.dK (C2 (toldL zss) fun t=>.ref (ad t)))/\DL H H4 (toldL zss) ad (F6 (edges (zss.take i)++(V6 zs).take j)))
     ⟨w,y,rfl,S3.put fF,A3,C8 Q4 np,?_⟩ (by rintro j Y H4 ⟨_,_,_,S,hp,_⟩;exact ⟨S _ _ E2,hp⟩) ?_ ?_⟩
    .rw [dI,M3];exact bE.same (Same.new np)
    .rintro j xv yv t Y H4 hxv hyv ⟨w,v,rfl,S4,l6,V8,lR⟩ nt;obtain ⟨x,hx,rfl⟩:=G9 hxv;obtain ⟨y,hy,rfl⟩:=G9 hyv;have lS:=E8 x (K8 hx);have nt0:H t=none:=S4.free nt;have hlx:=lR.row x lS;have hE:(V6 zs)[j]?=some (x,y):=agk hx hy;walk_at "rd";refine ⟨_,.of A3,rfl,_,_,rfl,_,_,rfl,rfl,V.ref (ad x),.inl ⟨_,Sum.inr x,.inl (C8 V8 nt),rfl,by rw [P8,if_pos lS]⟩,V5 (C8 hlx nt),appOk (C8 hlx nt) ?_ ⟨(S4.put nt0).put (lR.new x lS),?_,?_,?_⟩⟩
     .rw [A6];refine L1 ?_;have h1:(F6 (edges (zss.take i)++(V6 zs).take j) x).length<=(edges (zss.take i)++(V6 zs).take j).length:=by
       unfold F6;rw [A6];exact List.length_filter_le _ _
      have h2:=agl (zss.take i);have h3:(zss.take i).flatten.length<=zss.flatten.length:=by
       conv=>rhs;rw [<- p9 i zss]
       rw [List.flatten_append,D7];lia
      have h4:zs.length<=zss.flatten.length:=List.Sublist.length_le (List.sublist_flatten_of_mem (K8 bD));rw [D7,L4,vU] at h1;lia
     .rw [A7 (nad x lS).symm];exact C8 l6 nt
     .rw [A7 (nadd x lS).symm];exact C8 V8 nt
     .have h1:=(lR.same (Same.new (u:=.tup [V.str x,V.str y]) nt)).app lS (F6 (edges (zss.take i)++(V6 zs).take j) x++[y]);rw [C9] at h1;refine h1.congr fun t _=>?_
      rw [M0 hE,<- V9,alX]
      by_cases e:t=x
      .rw [if_pos e,if_pos e.symm,e]
      .rw [if_neg e,if_neg (fun z=>e z.symm)]
    .rintro Y H4 ⟨w,x,rfl,S4,l6,V8,lR⟩;walk_at "rd";refine ⟨S4,V8,?_⟩;rw [aiH bD];rw [o9 (l:=V6 zs) (by rw [vU,A6,A6];exact C3 _)] at lR;exact lR
   .rintro Y H3 ⟨v,w,y,rfl,S3,Q4,bE⟩;rw [A6,show rs.length=zss.length from Paired.length hR.row,L6] at bE;walk_at "rd";exact q d ad H3 nd S3 Q4 bE
theorem sc_count_ahead:FnScope ["after", "ahead", "piece", "other"] ["after"] (C1 aM):=E5
abbrev rQ:List Str:=["after", "ahead", "piece", "other"]
theorem xF:VS rQ aM "after" 0:=vq
theorem xG:VS rQ aM "ahead" 1:=vq
theorem vav:VS rQ aM "piece" 2:=vq
theorem vaw:VS rQ aM "other" 3:=vq
theorem vax:LS aM "ahead":=lq
theorem vay:LS aM "piece":=lq
theorem vaz:LS aM "other":=lq
theorem aeN(F:FunD K "count_ahead" "count_ahead" aM f fd)(T:Txt P w K mg C):FnOk P w K mg base D9 1 f fd ["after"] aj3:=by
 refine F.ok sc_count_ahead ?_ ?_
 .rintro _ _ _ _ ⟨d,ts,ad,E,rfl,_⟩;rfl
 .intro cdv A outer s H vs Q E hr h;have B5:=hu_of hr;have hu:=hr.units;refine ⟨_,QSs.out (A5 (C6 (n:=1) sc_count_ahead.nd rfl vax gH)
   (A5 (vQ PassesOwn.never (vi xF) (D3 (n:=2) sc_count_ahead.nd rfl vay (.inl rfl)) (A4 (m7 B5 (vi xG) (vi vav) A1)))
   (A5 (vQ PassesOwn.never (vi xF) (D3 (n:=2) sc_count_ahead.nd rfl vay (.inl rfl)) (A4 (M7 PassesOwn.never (P0 (K:=K) (Z9 B5 (vi xF) (vi vav))) (D3 (n:=3) sc_count_ahead.nd rfl vaz (.inl rfl)) (A4 (ajQ B5 (vi xG) (vi vaw) A1 aqY)))))
   (A4 (C7 (vi xG)))))),?_⟩
  obtain ⟨d,ts,ad,E,rfl,hd,tnd,A8,hElen,E2,hE,q⟩:=h;walk_at "rd";intro c nc;have ndc:d≠c:=fun e=>by rw [e,nc] at hd;cases hd
  refine ⟨_,C8 hd nc,fun o=>forD (fun i Y H2=>∃ (u v:Option V),Y=[some (.ref d),some (.ref c),u,v]/\H2 d=some (.frz o (.dK (C2 ts fun t=>.ref (ad t))))/\SameBut d H H2/\H2 c=some (.dK (C2 (ts.take i) fun _=>.int 0)))
   ⟨none,none,rfl,A3,(SameBut.put (uad _ _) nc).at,by rw [A7 ndc.symm,A3];rfl⟩ (by rintro i Y H2 ⟨_,_,_,h,_⟩;exact h) ?_ ?_⟩
  .rintro i k v Y H2 hk ⟨u,w,rfl,hf,S,hc⟩;obtain ⟨t,ht,rfl,rfl⟩:=amK hk;have hi:i<ts.length:=(E9.mp ht).1;walk_at "rd";refine ⟨_,bU (k:=Sum.inr t) hc (by rw [j0,L4];exact L1 (by lia)),?_,S.put nc,?_⟩
   .rw [A7 ndc];exact hf
   .rw [A3,eE _ (vV tnd ht),M0 ht];exact congrArg (fun x=>some (HO.dK x)) (U6 fun t _=>by split <;> rfl)
  .rintro Y H2 ⟨u,w,rfl,hf,S,hc⟩;rw [j0,L6] at hc;have S2:Same H (A0 H2 d (.dK (C2 ts fun t=>.ref (ad t)))):=S.thaw hd;have U9:A0 H2 d (.dK (C2 ts fun t=>.ref (ad t))) d=some (.dK (C2 ts fun t=>.ref (ad t))):=A3;have Q3:A0 H2 d (.dK (C2 ts fun t=>.ref (ad t))) c=some (.dK (C2 ts fun _=>.int 0)):=by rw [A7 ndc.symm];exact hc
   generalize A0 H2 d (.dK (C2 ts fun t=>.ref (ad t)))=H3 at S2 U9 Q3;walk_at "rd";refine ⟨_,U9,fun o=>forD (fun i Y H4=>∃ (u v:Option V),Y=[some (.ref d),some (.ref c),u,v]/\H4 d=some (.frz o (.dK (C2 ts fun t=>.ref (ad t))))/\SameBut d H H4/\H4 c=some (.dK (C2 ts fun t=>.int (cntIn E (ts.take i) t:Nat))))
    ⟨u,w,rfl,A3,fun b o hb h=>by rw [A7 hb];exact S2 b o h,?_⟩ (by rintro i Y H2 ⟨_,_,_,h,_⟩;exact h) ?_ ?_⟩
   .rw [A7 ndc.symm,Q3];exact congrArg (fun x=>some (HO.dK x)) (U6 fun t _=>by rw [dI,aj2];rfl)
   .rintro i k v Y H4 hk ⟨u,w,rfl,hf,S4,lT⟩;obtain ⟨t,ht,rfl,rfl⟩:=amK hk;have pF:t∈ts:=K8 ht;have hl4:H4 (ad t)=some (.lst ((F6 E t).map V.str)):=S4 _ _ (fun e=>by have:=E2 t pF;rw [e,hd] at this;cases this) (E2 t pF);walk_at "rd";refine ⟨V.ref (ad t),.inl ⟨_,Sum.inr t,.inr ⟨o,hf⟩,rfl,by rw [P8,if_pos pF]⟩,ad t,rfl,⟨_,.of hl4⟩,forL (xs:=(F6 E t).map V.str) (fun j Y H5=>∃ (v:Option V),Y=[some (.ref d),some (.ref c),some (kV (Sum.inr t)),v]/\H5 d=some (.frz o (.dK (C2 ts fun t=>.ref (ad t))))/\SameBut d H H5/\
     H5 c=some (.dK (C2 ts fun q=>.int (cntIn E (ts.take i) q+((F6 E t).take j).count q:Nat)))) ⟨w,rfl,hf,S4,by rw [lT];rfl⟩ (fun j Y H5 _ ⟨_,_,_,S5,_⟩=>.of (S5 _ _ (fun e=>by have:=E2 t pF;rw [e,hd] at this;cases this) (E2 t pF))) ?_ ?_⟩
    .rintro j v5 Y H5 zQ ⟨v,rfl,zR,S5,g3⟩;obtain ⟨y,hy2,rfl⟩:=G9 zQ;have fG:y∈ts:=by
      have:=K8 hy2
      unfold F6 at this;obtain ⟨e,he,rfl⟩:=D8.mp this;exact (hE e (W9.mp he).1).2
     walk_at "rd";refine ⟨V.int (cntIn E (ts.take i) y+((F6 E t).take j).count y:Nat),.inl ⟨_,Sum.inr y,.inl g3,rfl,by rw [P8,if_pos fG]⟩,_,_,rfl,rfl,_,bU (k:=Sum.inr y) g3 (by rw [j0];exact L1 (by lia)),?_,S5.put nc,?_⟩
     .rw [A7 ndc];exact zR
     .rw [A3,mX _ fG];refine congrArg (fun x=>some (HO.dK x)) (U6 fun q _=>?_);rw [M0 hy2,List.count_append,List.count_singleton]
      by_cases e:q=y
      .rw [if_pos e,e,if_pos (by simp)];exact congrArg V.int (by lia)
      .rw [if_neg e,if_neg (by simpa using fun z:y=q=>e z.symm)];rfl
    .rintro Y H5 ⟨v,rfl,zR,S5,g3⟩;walk_at "rd";refine ⟨zR,S5,?_⟩;rw [A6,L6] at g3;rw [g3];refine congrArg (fun x=>some (HO.dK x)) (U6 fun q _=>?_);rw [M0 ht,aiE (vV tnd ht)]
   .rintro Y H4 ⟨u,w,rfl,hf,S4,lT⟩;rw [j0,L6] at lT;walk_at "rd";refine q c _ nc (S4.thaw hd) ?_;rw [A7 ndc.symm,lT];exact congrArg (fun x=>some (HO.dK x)) (U6 fun t _=>by rw [aj1 (fun e he=>(hE e he).1)])
theorem sc_lined_up:FnScope ["rows", "after", "ahead", "pieces", "numbers", "free", "line", "number", "other"] ["rows"] (C1 Q8):=E5
abbrev cH:List Str:=["rows", "after", "ahead", "pieces", "numbers", "free", "line", "number", "other"]
theorem vaA:VS cH Q8 "rows" 0:=vq
theorem xH:VS cH Q8 "after" 1:=vq
theorem vaC:VS cH Q8 "ahead" 2:=vq
theorem nY:VS cH Q8 "pieces" 3:=vq
theorem vaE:VS cH Q8 "numbers" 4:=vq
theorem rR:VS cH Q8 "free" 5:=vq
theorem xI:VS cH Q8 "line" 6:=vq
theorem xJ:VS cH Q8 "number" 7:=vq
theorem xK:VS cH Q8 "other" 8:=vq
theorem vaJ:LS Q8 "after":=lq
theorem vaK:LS Q8 "ahead":=lq
theorem vaL:LS Q8 "pieces":=lq
theorem vaM:LS Q8 "numbers":=lq
theorem vaN:LS Q8 "free":=lq
theorem vaO:LS Q8 "line":=lq
theorem vaP:LS Q8 "number":=lq
theorem vaQ:LS Q8 "other":=lq
theorem ahl(F:FunD K "lined_up" "lined_up" Q8 f fd)(T:Txt P w K mg C)(G_followers:FO P w K mg base 2 "followers" ["rows"] [] spFol)(G_count_ahead:FO P w K mg base 1 "count_ahead" ["after"] [] aj3):FnOk P w K mg base D9 3 f fd ["rows"] aj4:=by
 refine F.ok sc_lined_up ?_ ?_
 .rintro _ _ _ _ ⟨a,rs,zss,rank,rfl,_⟩;rfl
 .intro cdv A outer s H vs Q E hr h;have B5:=hu_of hr;have hu:=hr.units;refine ⟨_,QSs.out (A5 (C6 (n:=1) sc_lined_up.nd rfl vaJ (D1 G_followers (hm hr) (qa_c (vi vaA) A2)))
   (A5 (C6 (n:=2) sc_lined_up.nd rfl vaK (D1 G_count_ahead (hm hr) (qa_c (vi xH) A2)))
   (A5 (C6 (n:=3) sc_lined_up.nd rfl vaL (qe_cT (mU (K:=K) (calm:=true)) T.b_list jY (qa_c (vi xH) A2)))
   (A5 (C6 (n:=4) sc_lined_up.nd rfl vaM (qe_cT (ajY (K:=K) (calm:=true)) T.b_dict ajK (qa_c (b8  (U7:CompOk ["rows", "after", "ahead", "pieces", "numbers", "free", "line", "number", "other"] (C1 Q8).names _ ["number", "piece"] 2 []) (vW T.b_enumerate (qa_c (vi nY) A2)) (fun _ _ _ _ _=>(aF (K:=K) (n:=2) (P7 (D3 (n:=0) (show List.Nodup (["number", "piece"]:List Str) by decide +kernel) rfl (Or.inl rfl)) (P7 (D3 (n:=1) (show List.Nodup (["number", "piece"]:List Str) by decide +kernel) rfl (Or.inl rfl)) aE)))) (fun _ _ _ _ _=>i8) (fun _ _ _ _ _=>(G3 (qa_c (qv 1) (qa_c (qv 0) A2))))) A2)))
   (A5 (mT (n:=5) sc_lined_up.nd rfl vaN (U7:CompOk ["rows", "after", "ahead", "pieces", "numbers", "free", "line", "number", "other"] (C1 Q8).names _ ["piece", "numbers", "ahead"] 1 [4,2]) (P0 (K:=K) (vi nY)) (fun _ _ _ _ _=>D3 (n:=0) (show List.Nodup (["piece", "numbers", "ahead"]:List Str) by decide +kernel) rfl (Or.inl rfl)) (fun _ _ _ _ _=>(kC (E1 (q_eq (K:=K) hu) (Z9 B5 (qv 2) (qv 0)) A1))) (fun _ _ _ _ _=>(Z9 B5 (qv 1) (qv 0))))
   (A5 (C6 (n:=6) sc_lined_up.nd rfl vaO (R1 A2))
   (A5 (qP PassesOwn.never (Q7 (K:=K) (vi rR)) (A5 (C6 (n:=7) sc_lined_up.nd rfl vaP (qe_cB (are (calm:=true)) T.b_min aqS (qa_c (vi rR) A2)))
   (A5 (U0 (qe_mB (K:=K) W1 PySem.F.slot_list_remove PySem.F.type_list_remove akg (vi rR) (qa_c (vi xJ) A2)))
   (A5 (U0 (qe_mB (K:=K) W1 g9 g8 i9 (vi xI) (qa_c (qe_ix (K:=K) (vi nY) (vi xJ)) A2)))
   (A4 (M7 PassesOwn.never (P0 (K:=K) (Z9 B5 (vi xH) (qe_ix (K:=K) (vi nY) (vi xJ)))) (D3 (n:=8) sc_lined_up.nd rfl vaQ (.inl rfl)) (A5 (ajQ B5 (vi vaC) (vi xK) A1 aqZ)
   (A4 (qs_if (E1 (q_eq (K:=K) hu) (Z9 B5 (vi vaC) (vi xK)) A1) (A4 (U0 (qe_mB (K:=K) W1 g9 g8 i9 (vi rR) (qa_c (Z9 B5 (vi vaE) (vi xK)) A2)))) G4)))))))))
   (A5 (qs_if (E1 q_lt (qe_cB (q_len (K:=K)) T.b_len Z8 (qa_c (vi xI) A2)) (qe_cB (q_len (K:=K)) T.b_len Z8 (qa_c (vi nY) A2))) (A4 kA) G4)
   (A4 (C7 (vi xI))))))))))),?_⟩
  obtain ⟨a,rs,zss,rank,rfl,hR,hz,x0,q⟩:=h;walk_at "rd";have A8:(toldL zss).length<=100000:=N4 (mS zss) hz;have hElen:(edges zss).length<=100000:=N4 (agl zss) hz;have tnd:=kE zss;have etold:∀ e∈edges zss,e.1∈toldL zss/\e.2∈toldL zss:=fun e he=>aiG he
  refine ⟨a,rs,zss,rfl,hR,hz,fun d ad H1 nd S1 hd dl=>?_⟩;generalize bC:toldL zss=ts at *;generalize hEE:edges zss=E at *;refine ⟨d,ts,ad,E,rfl,hd,tnd,A8,hElen,dl.row,etold,fun c H2 nc S2 hc=>?_⟩;walk_at "rd";refine rListR.d (.of (S2 _ _ hd)) fun w nw=>?_
  rw [alZ];have fH:=S1.trans S2;have ncH:H c=none:=S1.free nc;have U9:=S2 _ _ hd;have ncd:c≠d:=fun e=>by rw [e,hd] at nc;cases nc
  have nac:∀ t∈ts,ad t≠c:=fun t ht e=>by have:=dl.row t ht;rw [e,nc] at this;cases this
  have sY:A0 H2 w (.lst (ts.map V.str)) w=some (.lst (ts.map V.str)):=A3;have Sw:Same H2 (A0 H2 w (.lst (ts.map V.str))):=Same.new nw;generalize A0 H2 w (.lst (ts.map V.str))=H3 at sY Sw ⊢
  have idx:∀ {i:Nat} {z:Str},ts[i]?=some z->ts.idxOf z=i:=fun {i z} h=>by
   obtain ⟨hi,rfl⟩:=E9.mp h;exact List.Nodup.idxOf_getElem tnd i hi
  refine ⟨w,rfl,⟨_,sY⟩,compE (xs:=ts.map V.str) [] rfl (fun D i ys H4=>∃ qs:List Addr,ys=qs.map V.ref/\Same H3 H4/\Paired (fun q t=>H4 q=some (.tup [.str t,.int (ts.idxOf t:Nat)])) qs (ts.take i)) (fun D nD=>⟨[],rfl,Same.new nD,.nil⟩) (by rintro D i ys H4 nD _ ⟨_,_,S,_⟩;exact S _ _ sY) ?_ ?_⟩
  .rintro D i x t ys H4 nD hi hx ⟨qs,rfl,S,P4⟩ hD hy nt;obtain ⟨z,hz,rfl⟩:=G9 hx;rw [A6] at hi hy;walk_at "rd";refine ⟨by decide,fun p np=>⟨C8 (C8 hD nt) np,by rw [A6];exact L1 (by lia),kH.put (by rw [A6];exact hi) (by rw [A6];exact hy) ⟨qs++[p],by rw [C9];rfl,((S.trans (Same.new nt)).trans (Same.new np)).put nD,?_⟩⟩⟩;rw [M0 hz];refine Paired.snoc (N5 P4 fun q t' h=>?_) ?_
   .rw [A7 (fun e=>by rw [e,hD] at h;cases h)];exact C8 (C8 h nt) np
   .rw [A7 (fun e=>by rw [e,C8 hD nt] at np;cases np),A3,idx hz]
  rintro D ys H4 nD ⟨qs,rfl,zS,P4⟩ hD hy;rw [A6,L6] at P4;refine ⟨rfl,D,qs,_,rfl,.of hD,ah0 (f:=fun t=>.int (ts.idxOf t:Nat)) P4,fun nm nnm=>?_⟩;rw [show X4 [] (C2 ts fun t=>V.int (ts.idxOf t:Nat))=C2 ts fun t=>V.int (ts.idxOf t:Nat) from agq (pre:=[]) (by simpa using tnd)];have S5:Same H2 (A0 H4 nm (.dK (C2 ts fun t=>V.int (ts.idxOf t:Nat)))):=(Sw.trans zS).trans (Same.new nnm);have cT:A0 H4 nm (.dK (C2 ts fun t=>V.int (ts.idxOf t:Nat))) w=some (.lst (ts.map V.str)):=C8 (zS _ _ sY) nnm;have zT:A0 H4 nm (.dK (C2 ts fun t=>V.int (ts.idxOf t:Nat))) nm=some (.dK (C2 ts fun t=>V.int (ts.idxOf t:Nat))):=A3;have lT:H4 c=some (.dK (C2 ts fun t=>.int (cnt E [] t:Nat))):=zS _ _ (Sw _ _ hc);have ncn:c≠nm:=fun e=>by rw [<- e,lT] at nnm;cases nnm
  generalize A0 H4 nm (.dK (C2 ts fun t=>V.int (ts.idxOf t:Nat)))=H5 at S5 cT zT ⊢
  have g3:=S5 _ _ hc;have hd5:=S5 _ _ U9;have lM:∀ t∈ts,H5 (ad t)=some (.lst ((F6 E t).map V.str)):=fun t ht=>S5 _ _ (S2 _ _ (dl.row t ht))
  have S05:=fH.trans S5;have ncw:c≠w:=fun e=>by rw [e,cT] at g3;cases g3
  refine ⟨w,rfl,⟨_,.of cT⟩,compL (xs:=ts.map V.str) [some (.ref nm),some (.ref c)] rfl (fun D i ys H6=>∃ fr:List Int,ys=fr.map V.int/\Same H5 H6/\FS (ts.take i) [] (fun q=>cnt E [] q=0) fr) (fun D nD=>⟨[],rfl,Same.new nD,FS.nil _⟩) (by rintro D i ys H6 nD _ ⟨_,_,S,_⟩;exact .of (S _ _ cT)) ?_ ?_⟩
  .rintro D i x ys H6 nD hi hx ⟨fr,rfl,S,F⟩ hD hy;obtain ⟨z,hz,rfl⟩:=G9 hx;have hzt:z∈ts:=K8 hz;have k9:i<ts.length:=(E9.mp hz).1;rw [A6] at hy;have hs:=F.snoc (i:=i) (q:=z) (by rw [L4];lia) (by simp);rw [<- M0 hz] at hs;walk_at "rd";refine ⟨V.int (cnt E [] z:Nat),.inl ⟨_,Sum.inr z,.inl (S _ _ g3),rfl,by rw [P8,if_pos hzt]⟩,?_⟩
   try walk_at "rd"
   refine iteD (fun h0=>⟨V.int (ts.idxOf z:Nat),.inl ⟨_,Sum.inr z,.inl (S _ _ zT),rfl,by rw [P8,if_pos hzt]⟩,hD,by rw [A6];exact L1 (by lia),CW.put hi (by rw [A6];exact hy) ⟨fr++[(i:Int)],by rw [C9,idx hz];rfl,S.put nD,hs.1 (by lia)⟩⟩) fun h0=>⟨hD,vC hi (by rw [A6];exact hy) ⟨fr,rfl,S,hs.2 (by lia)⟩⟩
  rintro f ys H6 nf ⟨fr,rfl,zU,F0⟩ zV hy;rw [A6,L6] at F0;intro ln nln;have nln5:H5 ln=none:=zU.free nln;have cU:f≠ln:=fun e=>by rw [e,nln] at zV;cases zV
  have frlen:∀ {line fr z},FS ts line z fr->fr.length<=ts.length:=fun {line fr z} F=>by
   have h1:∀ n∈fr,n∈(U1 ts.length).map fun (n:Nat)=>(n:Int):=fun n hn=>by
    obtain ⟨m,q,e,h2,_⟩:=(F.2 n).mp hn;exact D8.mpr ⟨m,g7.mpr (E9.mp h2).1,e.symm⟩
   have:=afa F.1 h1
   simpa using this
  refine qR (fun m Y H7=>∃ (u v:Option V) (line:List Str) (fr:List Int),Y=[some (.ref a),some (.ref d),some (.ref c),some (.ref w),some (.ref nm),some (.ref f),some (.ref ln),u,v]/\SameBut c H5 H7/\
    H7 c=some (.dK (C2 ts fun t=>.int (cnt E line t:Nat)))/\H7 f=some (.lst (fr.map V.int))/\FS ts line (fun q=>cnt E line q=0) fr/\H7 ln=some (.lst (line.map V.str))/\U5 E ts line/\m=ts.length-line.length) ts.length
   ⟨none,none,[],fr,rfl,fun b o _ h=>C8 (zU _ _ h) nln,C8 (zU _ _ g3) nln,C8 zV nln,F0,A3,U5.nil _ _,rfl⟩ ?_
  rintro m Y H7 ⟨u,v,line,fr,rfl,B7,hc7,sZ,F,lU,run,rfl⟩;have S07:Same H H7:=B7.same S05 ncH;walk_at "rd";refine ⟨_,vN sZ,?_⟩
  by_cases cV:fr=[]
  .have cM:∀ p∈ts,p∈line:=fun p hp=>Classical.byContradiction fun hn=>by
    obtain ⟨q',hq⟩:=alY (line:=line) x0 (fun e he=>(etold e he).1) ⟨p,hp,hn⟩;obtain ⟨h1,h2,h3⟩:=kD hq;obtain ⟨k,hk⟩:=List.mem_iff_getElem?.mp h1
    have:=(F.2 (k:Int)).mpr ⟨k,q',rfl,hk,h2,h3⟩
    rw [cV] at this
    cases this
   have zW:=qU tnd run cM;rw [cV];refine iteF ?_
   try walk_at "rd"
   refine ⟨line.length,.inl ⟨_,.of lU,by rw [A6]⟩,ts.length,.inl ⟨_,.of (B7 _ _ ncw.symm cT),by rw [A6]⟩,?_⟩
   try walk_at "rd"
   exact iteD (fun h=>absurd h (by lia)) fun _=>q ln line H7 (S05.free nln5) S07 lU run cM
  rw [show (!(fr.map V.int).isEmpty)=true by cases fr with | nil=>exact absurd rfl cV | cons=>rfl];refine iteT ⟨fun σ' H'=>∃ (u v:Option V) (line':List Str) (fr:List Int),σ'=[some (.ref a),some (.ref d),some (.ref c),some (.ref w),some (.ref nm),some (.ref f),some (.ref ln),u,v]/\SameBut c H5 H'/\
    H' c=some (.dK (C2 ts fun t=>.int (cnt E line' t:Nat)))/\H' f=some (.lst (fr.map V.int))/\FS ts line' (fun q=>cnt E line' q=0) fr/\H' ln=some (.lst (line'.map V.str))/\U5 E ts line'/\ts.length-line'.length<ts.length-line.length,?_,?_⟩
  .rintro σ' H' ⟨u,v,line',fr',rfl,h1,h2,h3,h4,h5,h6,h7⟩;exact ⟨_,h7,⟨_,_,rfl⟩,h1,line',h2,fr',h3,h4,h5,h6,rfl⟩
  try walk_at "rd"
  refine ⟨fr,sZ,cV,fun M hM iM=>?_⟩;obtain ⟨mm,p,rfl,hpm,g4⟩:=ag8 F hM iM;obtain ⟨pG,aY,tD⟩:=kD g4;have hll:line.length<ts.length:=by
   have h1:(line++[p]).Nodup:=(run.snoc g4).nodup;have h3:=agm h1 fun x hx=>(run.snoc g4).sub hx
   rw [D7,Z0] at h3;lia
  have F1:=F.take tnd hpm
  try walk_at "rd"
  refine ⟨V5 sZ,ard sZ hM ?_⟩;have hwf:w≠f:=fun e=>by rw [e,nf] at cT;cases cT
  have zX:c≠f:=fun e=>by rw [e,nf] at g3;cases g3
  have hcl:c≠ln:=fun e=>by rw [e,nln5] at g3;cases g3
  have B8:SameBut c H5 (A0 H7 f (.lst ((fr.erase (mm:Int)).map V.int))):=B7.put nf;have tE:A0 H7 f (.lst ((fr.erase (mm:Int)).map V.int)) ln=some (.lst (line.map V.str)):=by rw [A7 cU.symm];exact lU
  have hf8:A0 H7 f (.lst ((fr.erase (mm:Int)).map V.int)) f=some (.lst ((fr.erase (mm:Int)).map V.int)):=A3;have hc8:A0 H7 f (.lst ((fr.erase (mm:Int)).map V.int)) c=some (.dK (C2 ts fun t=>.int (cnt E line t:Nat))):=by rw [A7 zX];exact hc7
  generalize A0 H7 f (.lst ((fr.erase (mm:Int)).map V.int))=H8 at B8 tE hf8 hc8 ⊢
  have atp:G2 (ts.map V.str) (mm:Int)=some (V.str p):=K9 (by rw [T8,hpm];rfl);refine ⟨V5 tE,_,.inl (.of (B8 _ _ ncw.symm cT)),V.str p,atp,appOk tE (by rw [A6];exact L1 (by lia)) ?_⟩;have B9:SameBut c H5 (A0 H8 ln (.lst (line.map V.str++[V.str p]))):=B8.put nln5;have hl9:A0 H8 ln (.lst (line.map V.str++[V.str p])) ln=some (.lst ((line++[p]).map V.str)):=by rw [A3,C9];rfl
  have hf9:A0 H8 ln (.lst (line.map V.str++[V.str p])) f=some (.lst ((fr.erase (mm:Int)).map V.int)):=by rw [A7 cU];exact hf8
  have hc9:A0 H8 ln (.lst (line.map V.str++[V.str p])) c=some (.dK (C2 ts fun t=>.int (cnt E line t:Nat))):=by rw [A7 hcl];exact hc8
  generalize A0 H8 ln (.lst (line.map V.str++[V.str p]))=H9 at B9 hl9 hf9 hc9 ⊢
  refine ⟨_,.inl (.of (B9 _ _ ncw.symm cT)),V.str p,atp,V.ref (ad p),.inl ⟨_,Sum.inr p,.inl (B9 _ _ ncd.symm hd5),rfl,by rw [P8,if_pos pG]⟩,ad p,rfl,⟨_,.of (B9 _ _ (nac p pG) (lM p pG))⟩,
   forL (xs:=(F6 E p).map V.str) (fun j Y H7=>∃ (x:Option V) (fr:List Int),Y=[some (.ref a),some (.ref d),some (.ref c),some (.ref w),some (.ref nm),some (.ref f),some (.ref ln),some (.int (mm:Int)),x]/\SameBut c H5 H7/\
    H7 c=some (.dK (C2 ts fun t=>.int ((cnt E line t:Nat)-(((F6 E p).take j).count t:Nat))))/\H7 f=some (.lst (fr.map V.int))/\FS ts (line++[p]) (fun q=>cnt E line q=((F6 E p).take j).count q) fr/\H7 ln=some (.lst ((line++[p]).map V.str)))
   ⟨v,_,rfl,B9,?_,hf9,F1.congr fun q=>(by simp),hl9⟩ (by rintro j Y H7 _ ⟨_,_,_,B,_⟩;exact .of (B _ _ (nac p pG) (lM p pG))) ?_ ?_⟩
  .rw [hc9];exact congrArg (fun x=>some (HO.dK x)) (U6 fun t _=>congrArg V.int (by simp))
  .rintro j v5 Y k5 zQ ⟨x,fr,rfl,B,x3,iR,F,iS⟩;obtain ⟨y,hy,rfl⟩:=G9 zQ;have fG:y∈ts:=by
    have:=K8 hy
    unfold F6 at this;obtain ⟨e,he,rfl⟩:=D8.mp this;exact (etold e (W9.mp he).1).2
   have cP:((F6 E p).take j).count y<cnt E line y:=by
    have h1:=ahX (E:=E) (q:=y) aY;have h2:(F6 E p).count y=((F6 E p).take (j+1)).count y+((F6 E p).drop (j+1)).count y:=by rw [<- List.count_append,p9]
    rw [M0 hy,List.count_append,List.count_singleton,if_pos (by simp)] at h2;lia
   have hyb:y∉line++[p]:=fun hm=>by
    rcases G0.mp hm with hm | hm
    .have:=al8 run hm;lia
    .rw [E4.mp hm] at cP;lia
   obtain ⟨my,hmy⟩:=List.mem_iff_getElem?.mp fG;have pH:∀ q,((F6 E p).take (j+1)).count q=((F6 E p).take j).count q+if y=q then 1 else 0:=fun q=>by
    rw [M0 hy,List.count_append,List.count_singleton]
    by_cases e:y=q
    .rw [if_pos e,if_pos (by simpa using e)]
    .rw [if_neg e,if_neg (by simpa using e)]
   have turn:=F.turn (z':=fun q=>cnt E line q=((F6 E p).take (j+1)).count q) tnd (y:=y) (fun q hq=>by rw [pH,if_neg (fun e=>hq e.symm),Nat.add_zero]) (by lia) hmy hyb;have R9:C2 ts (fun t=>V.int (if t=y then (cnt E line y:Nat)-(((F6 E p).take j).count y:Nat)-1 else (cnt E line t:Nat)-(((F6 E p).take j).count t:Nat)))=C2 ts (fun t=>V.int ((cnt E line t:Nat)-(((F6 E p).take (j+1)).count t:Nat))):=U6 fun q _=>by
    rw [pH]
    by_cases e:q=y
    .rw [if_pos e,e,if_pos rfl];exact congrArg V.int (by lia)
    .rw [if_neg e,if_neg (fun z=>e z.symm)];exact congrArg V.int (by lia)
   walk_at "rd";refine ⟨_,.inl ⟨_,Sum.inr y,.inl x3,rfl,by rw [P8,if_pos fG]⟩,_,_,rfl,rfl,_,bU (k:=Sum.inr y) x3 (by rw [j0];exact L1 (by lia)),?_⟩;have cW:A0 k5 c (.dK (putK (C2 ts fun t=>V.int ((cnt E line t:Nat)-(((F6 E p).take j).count t:Nat))) (Sum.inr y) (V.int ((cnt E line y:Nat)-(((F6 E p).take j).count y:Nat)-1)))) c=some (.dK (C2 ts (fun t=>V.int ((cnt E line t:Nat)-(((F6 E p).take (j+1)).count t:Nat))))):=by
    rw [A3,mX _ fG,<- R9];refine congrArg (fun x=>some (HO.dK x)) (U6 fun q _=>?_)
    by_cases e:q=y
    .rw [if_pos e,if_pos e]
    .rw [if_neg e,if_neg e]
   have B11:SameBut c H5 (A0 k5 c (.dK (putK (C2 ts fun t=>V.int ((cnt E line t:Nat)-(((F6 E p).take j).count t:Nat))) (Sum.inr y) (V.int ((cnt E line y:Nat)-(((F6 E p).take j).count y:Nat)-1))))):=B.at;have cX:A0 k5 c (.dK (putK (C2 ts fun t=>V.int ((cnt E line t:Nat)-(((F6 E p).take j).count t:Nat))) (Sum.inr y) (V.int ((cnt E line y:Nat)-(((F6 E p).take j).count y:Nat)-1)))) f=some (.lst (fr.map V.int)):=by rw [A7 zX.symm];exact iR
   have iT:A0 k5 c (.dK (putK (C2 ts fun t=>V.int ((cnt E line t:Nat)-(((F6 E p).take j).count t:Nat))) (Sum.inr y) (V.int ((cnt E line y:Nat)-(((F6 E p).take j).count y:Nat)-1)))) ln=some (.lst ((line++[p]).map V.str)):=by rw [A7 hcl.symm];exact iS
   generalize A0 k5 c (.dK (putK (C2 ts fun t=>V.int ((cnt E line t:Nat)-(((F6 E p).take j).count t:Nat))) (Sum.inr y) (V.int ((cnt E line y:Nat)-(((F6 E p).take j).count y:Nat)-1))))=H11 at cW B11 cX iT ⊢
   refine ⟨V.int ((cnt E line y:Nat)-(((F6 E p).take (j+1)).count y:Nat)),.inl ⟨_,Sum.inr y,.inl cW,rfl,by rw [P8,if_pos fG]⟩,?_⟩
   try walk_at "rd"
   have zY:=frlen F;refine iteD (fun h0=>⟨V5 cX,V.int (ts.idxOf y:Nat),.inl ⟨_,Sum.inr y,.inl (B11 _ _ ncn.symm zT),rfl,by rw [P8,if_pos fG]⟩,appOk cX (by rw [A6];exact L1 (by lia)) ?_⟩) fun h0=>?_
   .refine ⟨B11.put nf,?_,fr++[(my:Int)],?_,turn.1 (by lia),?_⟩
    .rw [A7 zX];exact cW
    .rw [A3,C9,idx hmy];rfl
    .rw [A7 cU.symm];exact iT
   .exact ⟨B11,cW,fr,cX,turn.2 (by lia),iT⟩
  .rintro Y k5 ⟨x,fr,rfl,B,x3,iR,F,iS⟩;rw [A6,L6] at x3 F;have fI:∀ q,cnt E line q=cnt E (line++[p]) q+(F6 E p).count q:=fun q=>ahX (E:=E) (q:=q) aY
   refine ⟨⟨_,_,rfl⟩,B,line++[p],?_,fr,iR,F.congr fun q=>?_,iS,run.snoc g4,by rw [D7,Z0];lia⟩
   .rw [x3];exact congrArg (fun x=>some (HO.dK x)) (U6 fun q _=>congrArg V.int (by have:=fI q;lia))
   .have:=fI q
    lia
theorem agI:FnScope ["sign"] ["sign"] (C1 rF):=E5
abbrev ahm:List Str:=["sign"]
theorem vaR:VS ahm rF "sign" 0:=vq
theorem agJ(F:FunD K "is_figure" "is_figure" rF f fd)(T:Txt P w K mg C):FnOk P w K mg base D9 1 f fd ["sign"] kI:=by
 refine F.ok agI ?_ ?_
 .rintro _ _ _ _ ⟨c,rfl,_⟩;rfl
 .intro cdv A outer s H vs Q E hr h;have B5:=hu_of hr;have hu:=hr.units;refine ⟨_,QSs.out (A4 (C7 (alM q_le q_le N7 (vi vaR) N7))),?_⟩;obtain ⟨c,rfl,q⟩:=h;walk_at "rd";have e1:(Str.ofString "0").cps.toList=[48]:=by decide +kernel
  have e2:(Str.ofString "9").cps.toList=[57]:=by decide +kernel
  rw [e1,e2];simp only [aq9];refine iteN (fun h1=>?_) fun h1=>?_
  .have e:figO c=!decide (57<c):=by
    unfold figO;rw [decide_eq_true (by lia:48<=c)]
    by_cases h2:c<=57
    .rw [decide_eq_true h2,decide_eq_false (by lia:¬ 57<c)];rfl
    .rw [decide_eq_false h2,decide_eq_true (by lia:57<c)];rfl
   rw [e] at q;exact q
  .have e:figO c=false:=by unfold figO;rw [decide_eq_false (by lia:¬ 48<=c)];rfl
   rw [e] at q;exact q
theorem ahn:FnScope ["rules", "word"] ["rules", "word"] (C1 nN):=E5
abbrev ai0:List Str:=["rules", "word"]
theorem vaS:VS ai0 nN "rules" 0:=vq
theorem aho(F:FunD K "has_rule" "has_rule" nN f fd)(T:Txt P w K mg C):FnOk P w K mg base D9 1 f fd ["rules", "word"] (spHas K):=by
 refine F.ok ahn ?_ ?_
 .rintro _ _ _ _ ⟨a,ts,R,w,rfl,_⟩;rfl
 .intro cdv A outer s H vs Q E hr h;have B5:=hu_of hr;have hu:=hr.units;refine ⟨_,QSs.out (A4 (C7 (qe_cB (q_any (calm:=true)) T.b_any amG (qa_c (b8  (U7:CompOk ["rules", "word"] (C1 nN).names _ ["rule", "word"] 1 [1]) (P0 (K:=K) (vi vaS)) (fun _ _ _ _ _=>D3 (n:=0) (show List.Nodup (["rule", "word"]:List Str) by decide +kernel) rfl (Or.inl rfl)) (fun _ _ _ _ _=>i8) (fun _ _ _ _ _=>(aB (q_eq (K:=K) hu) (qe_ix (K:=K) (qv 0) A1) (qv 1)))) A2)))),?_⟩;obtain ⟨a,ts,R,w,rfl,hR,hl,q⟩:=h;walk_at "rd";refine ⟨⟨_,.of hR.top⟩,compL (xs:=ts.map V.ref) [some (.str w)] rfl (fun D i ys H4=>ys=((R.take i).map fun z=>decide (z.1=w)).map V.bl/\Same H H4) (fun D nD=>⟨rfl,Same.new nD⟩) (by rintro D i ys H4 nD _ ⟨_,S⟩;exact .of (S _ _ hR.top)) ?_ ?_⟩
  .rintro D i x ys H4 nD hi hx ⟨rfl,S⟩ hD hy;obtain ⟨t,ht,rfl⟩:=G9 hx;obtain ⟨z,hz,E2⟩:=Paired.at hR.row ht;have aZ:i<R.length:=(E9.mp hz).1;walk_at "rd";refine ⟨_,.inr (.of (S _ _ E2)),V.str z.1,L3 _ _,?_⟩;walk_at "rd";refine ⟨hD,by rw [A6,A6,L4];exact L1 (by lia),CW.put hi hy ⟨?_,S.put nD⟩⟩;rw [q0,hz]
   simp
  rintro D ys H4 nD ⟨rfl,S⟩ hD hy;rw [A6,hR.len,L6] at hD;refine ⟨_,rfl,hD,?_⟩;have e:((R.map fun z=>decide (z.1=w)).any id)=hasW R w:=by
   unfold hasW;rw [List.any_map];rfl
  rw [e];exact q H4 S
theorem aeO:FnScope ["rule"] ["rule"] (C1 rG):=E5
abbrev afO:List Str:=["rule"]
theorem kY:VS afO rG "rule" 0:=vq
theorem aeP(F:FunD K "pieces_told" "pieces_told" rG f fd)(T:Txt P w K mg C):FnOk P w K mg base D9 1 f fd ["rule"] (aj6 K):=by
 refine F.ok aeO ?_ ?_
 .rintro _ _ _ _ ⟨t,z,rfl,_⟩;rfl
 .intro cdv A outer s H vs Q E hr h;have B5:=hu_of hr;have hu:=hr.units;obtain ⟨a_JOBS,m_JOBS,M_JOBS⟩:=T.x_JOBS;refine ⟨_,QSs.out (A5 (qs_if (E1 (q_eq (K:=K) hu) (qe_ix (K:=K) (vi kY) A1) N7) (A4 (C7 (O6 (K:=K) (vi kY) (L9 A1) R3))) G4)
   (A5 (qs_if (E1 (q_eq (K:=K) hu) (qe_ix (K:=K) (vi kY) A1) N7) (A4 (C7 (O6 (K:=K) (vi kY) (L9 A1) (L9 A1)))) G4)
   (A4 (C7 (ahS (E1 (q_inM M_JOBS) (qe_ix (K:=K) (vi kY) A1) (jZ m_JOBS)) (O6 (K:=K) (vi kY) (L9 A1) R3) (G3 A2)))))),?_⟩
  obtain ⟨t,z,rfl,ht,q⟩:=h;have hT:B1 K H t ((z.1::z.2).map V.str):=.of ht;have A8:1<=((z.1::z.2).map V.str).length:=by rw [A6,J9];lia
  walk_at "rd";refine ⟨_,.inr hT,V.str z.1,L3 _ _,?_⟩;walk_at "rd";refine iteD (fun e=>?_) fun n1=>⟨_,.inr hT,V.str z.1,L3 _ _,?_⟩
  .refine rSlR.t hT (aH (k:=2) (by decide) A8) fun p np=>q p _ (Same.new np) (.of ?_)
   rw [A3,show ((2:Int))=((2:Nat):Int) from rfl,t8,E6,List.drop_succ_cons,<- fU];unfold O7;rw [if_pos e]
  walk_at "rd";refine iteD (fun e=>?_) fun n2=>⟨_,.inr hT,V.str z.1,L3 _ _,?_⟩
  .refine rSlR.t hT (aH (k:=1) (by decide) A8) fun p np=>q p _ (Same.new np) (.of ?_)
   have ecut:cutV ((z.1::z.2).map V.str) (some 1) (some 2)=(z.2.take 1).map V.str:=by
    unfold cutV
    cases z.2 with
    | nil=>rfl
    | cons y r=>
     have e1:HT.sIx ((z.1::y::r).map V.str).length 0 (some 1)=1:=by
      rw [show ((1:Int))=((1:Nat):Int) from rfl,HT.sIx_nat,A6,J9,J9];lia
     have e2:HT.sIx ((z.1::y::r).map V.str).length ((z.1::y::r).map V.str).length (some 2)=2:=by
      rw [show ((2:Int))=((2:Nat):Int) from rfl,HT.sIx_nat,A6,J9,J9];lia
     rw [e1,e2];rfl
   rw [A3,ecut];unfold O7;rw [if_neg n1,if_pos e]
  walk_at "rd"
  by_cases hj:gK z.1
  .rw [vY hj];refine iteT (rSlR.t hT (aH (k:=1) (by decide) A8) fun p np=>q p _ (Same.new np) (.of ?_));rw [A3,E6,vO];unfold O7;have h3:z.1=("row" : Str)\/z.1=("marks" : Str)\/z.1=("over" : Str):=by
    rcases hj with h | h | h | h | h
    .exact .inl h
    .exact .inr (.inl h)
    .exact absurd h n1
    .exact absurd h n2
    .exact .inr (.inr h)
   rw [if_neg n1,if_neg n2,if_pos h3]
  .rw [al4 hj];refine iteF fun p np=>q p _ (Same.new np) (.of ?_)
   rw [A3];unfold O7;rw [if_neg n1,if_neg n2,if_neg (fun h=>hj (by
    rcases h with h | h | h
    .exact .inl h
    .exact .inr (.inl h)
    .exact .inr (.inr (.inr (.inr h)))))]
   rfl
theorem ahp:FnScope ["jobs", "piece", "job", "figures"] ["jobs", "piece", "job", "figures"] (C1 eJ):=E5
abbrev rS:List Str:=["jobs", "piece", "job", "figures"]
theorem vaU:VS rS eJ "jobs" 0:=vq
theorem xL:VS rS eJ "piece" 1:=vq
theorem vaW:VS rS eJ "job" 2:=vq
theorem vaX:VS rS eJ "figures" 3:=vq
theorem ahq(F:FunD K "is_clash" "is_clash" eJ f fd)(T:Txt P w K mg C)(G_is_figure:FO P w K mg base 1 "is_figure" ["sign"] [] kI):FnOk P w K mg base D9 2 f fd ["jobs", "piece", "job", "figures"] aj7:=by
 refine F.ok ahp ?_ ?_
 .rintro _ _ _ _ ⟨d,p,j,fg,ks,g,rfl,_⟩;rfl
 .intro cdv A outer s H vs Q E hr h;have B5:=hu_of hr;have hu:=hr.units;obtain ⟨a_AGAIN,m_AGAIN,M_AGAIN⟩:=T.x_AGAIN;refine ⟨_,QSs.out (A5 (qs_if (QW.pt (eB (E1 (q_in (K:=K) hu) (vi xL) (vi vaU)) (gI (QW.pt (qw_or (E1 (q_ne (K:=K) hu) (Z9 B5 (vi vaU) (vi xL)) (vi vaW)) (eA (E1 (vL (K:=K) hu) (vi vaW) (jZ m_AGAIN)))))))) (A4 (C7 qe_bl)) G4)
   (A4 (C7 (aqX (vi vaX) (aqW (qe_cB (q_any (calm:=true)) T.b_any amG (qa_c (b8  (U7:CompOk ["jobs", "piece", "job", "figures"] (C1 eJ).names _ ["sign"] 1 []) (vK (vi xL)) (fun _ _ _ _ _=>D3 (n:=0) (show List.Nodup (["sign"]:List Str) by decide +kernel) rfl (Or.inl rfl)) (fun _ _ _ _ _=>i8) (fun _ _ _ _ _=>(D1 G_is_figure (hm hr) (qa_c (qv 0) A2)))) A2))))))),?_⟩
  obtain ⟨d,p,j,fg,ks,g,rfl,hd,hp,h1,h2,q⟩:=h;walk_at "rd";have tail:(if fg=true then dW (gD p) 1 [] (gName 0) tYes (tCall kI [] E0 (tCons (tVar 0) tNil)) [some (V.ref d),some (V.str p),some (V.str j),some (V.bl fg)] (fun x H1=>rAnyB true [x] H1 Q) H else Q (V.bl false) H):=by
   by_cases hf:fg=true
   .rw [if_pos hf];refine compS [] rfl (fun D i ys H4=>ys=((p.cps.toList.take i).map figO).map V.bl/\Same H H4) (fun D nD=>⟨rfl,Same.new nD⟩) ?_ ?_
    .rintro D i x ys H4 nD hi hx ⟨rfl,S⟩ hD hy;walk_at "rd";refine ⟨x,rfl,hD,?_,CW.put hi hy ⟨?_,S.put nD⟩⟩
     .rw [A6,A6,L4];exact L1 (by have:p.cps.size=p.length:=rfl;lia)
     .rw [q0,hx]
      simp
    .rintro D ys H4 nD ⟨rfl,S⟩ hD hy;walk_at "rd";refine ⟨_,hD,?_⟩;have e:((p.cps.toList.take p.cps.size).map figO).any id=false:=by
      rw [List.any_eq_false];intro b hb;obtain ⟨c,hc,rfl⟩:=D8.mp hb;rw [h2 hf c (List.mem_of_mem_take hc)];decide
     rw [e];exact q H4 S
   .rw [if_neg hf];exact q H (dU H)
  refine rInR.d (Z7 (k:=Sum.inr p) hd) ⟨_,rfl,?_⟩;rw [P8,fV]
  by_cases hk:p∈ks
  .obtain ⟨e1,e2⟩:=h1 hk;rw [if_pos hk];refine iteT ⟨V.str (g p),.inl ⟨_,Sum.inr p,.inl hd,rfl,by rw [P8,if_pos hk]⟩,?_⟩;walk_at "rd";rw [decide_eq_true e1];refine iteF (rInR.l (.inr (M_AGAIN _)) rfl rfl ⟨_,rfl,?_⟩);have e3:bS (.str j) [V.str "letter",V.str "mark",V.str "over"]=true:=by
    have:=vG j mZ
    rw [decide_eq_true e2] at this;exact this
   rw [e3];exact iteF tail
  .rw [if_neg hk];exact iteF tail
theorem sc_jobs_of:FnScope ["rules", "figures", "jobs", "rule", "piece"] ["rules"] (C1 m9):=E5
abbrev nZ:List Str:=["rules", "figures", "jobs", "rule", "piece"]
theorem xM:VS nZ m9 "rules" 0:=vq
theorem vaZ:VS nZ m9 "figures" 1:=vq
theorem rT:VS nZ m9 "jobs" 2:=vq
theorem xN:VS nZ m9 "rule" 3:=vq
theorem va2:VS nZ m9 "piece" 4:=vq
theorem va3:LS m9 "figures":=lq
theorem va4:LS m9 "jobs":=lq
theorem va5:LS m9 "rule":=lq
theorem va6:LS m9 "piece":=lq
theorem ai1(F:FunD K "jobs_of" "jobs_of" m9 f fd)(T:Txt P w K mg C)(G_has_rule:FO P w K mg base 1 "has_rule" ["rules", "word"] [] (spHas K))(G_pieces_told:FO P w K mg base 1 "pieces_told" ["rule"] [] (aj6 K))(G_is_clash:FO P w K mg base 2 "is_clash" ["jobs", "piece", "job", "figures"] [] aj7):FnOk P w K mg base D9 3 f fd ["rules"] (amL K):=by
 refine F.ok sc_jobs_of ?_ ?_
 .rintro _ _ _ _ ⟨a,ts,R,g,rfl,_⟩;rfl
 .intro cdv A outer s H vs Q E hr h;have B5:=hu_of hr;have hu:=hr.units;obtain ⟨a_JOBS,m_JOBS,M_JOBS⟩:=T.x_JOBS;refine ⟨_,QSs.out (A5 (C6 (n:=1) sc_jobs_of.nd rfl va3 (D1 G_has_rule (hm hr) (qa_c (vi xM) (qa_c N7 A2))))
   (A5 (C6 (n:=2) sc_jobs_of.nd rfl va4 gH)
   (A5 (M7 PassesOwn.never (P0 (K:=K) (vi xM)) (D3 (n:=3) sc_jobs_of.nd rfl va5 (.inl rfl)) (A4 (M7 PassesOwn.never (eC (K:=K) (D1 G_pieces_told (hm hr) (qa_c (vi xN) A2))) (D3 (n:=4) sc_jobs_of.nd rfl va6 (.inl rfl)) (A5 (qs_if (Q7 (K:=K) (D1 G_is_clash (hm hr) (qa_c (vi rT) (qa_c (vi va2) (qa_c (ahU M_JOBS (jZ m_JOBS) (qe_ix (K:=K) (vi xN) A1)) (qa_c (vi vaZ) A2)))))) (A4 kA) G4)
   (A4 (m7 B5 (vi rT) (vi va2) (ahU M_JOBS (jZ m_JOBS) (qe_ix (K:=K) (vi xN) A1))))))))
   (A5 (qs_if (Q7 (K:=K) (D1 G_has_rule (hm hr) (qa_c (vi xM) (qa_c N7 A2)))) (A4 (m7 B5 (vi rT) N7 N7)) G4)
   (A4 (C7 (vi rT))))))),?_⟩
  obtain ⟨a,ts,R,g,rfl,hR,hl,X9,hnc,hbl,q⟩:=h;walk_at "rd";refine ⟨a,ts,R, "figures",rfl,hR,hl,fun H1 S1=>?_⟩;generalize hasW R "figures"=fg at hnc;intro d nd;have tF:H d=none:=S1.free nd;have S2:Same H (A0 H1 d (.dK [])):=fun b o h=>C8 (S1 b o h) nd
  refine ⟨⟨_,.of (S2 _ _ hR.top)⟩,forL (xs:=ts.map V.ref) (fun i Y H2=>∃ (u v:Option V),Y=[some (.ref a),some (.bl fg),some (.ref d),u,v]/\Same H H2/\H2 d=some (.dK (C2 (keysP (C5 (R.take i))) fun t=>.str (g t))))
   ⟨none,none,rfl,S2,by rw [A3];rfl⟩ (by rintro i Y H2 _ ⟨_,_,_,S,_⟩;exact .of (S _ _ hR.top)) ?_ ?_⟩
  .rintro i x Y H2 hx ⟨u,v,rfl,S,hd⟩;obtain ⟨t,ht,rfl⟩:=G9 hx;obtain ⟨z,hz,E2⟩:=Paired.at hR.row ht;walk_at "rd";refine ⟨t,z,rfl,S _ _ E2,fun p H3 S3 hp=>⟨p,rfl,⟨_,hp⟩,forT (xs:=(O7 z).map V.str) (fun j Y H4=>∃ (v:Option V),Y=[some (.ref a),some (.bl fg),some (.ref d),some (.ref t),v]/\B1 K H4 p ((O7 z).map V.str)/\Same H H4/\H4 d=some (.dK (C2 (keysP (C5 (R.take i)++((O7 z).take j).map fun p=>(p,jobD z.1))) fun t=>.str (g t))))
    ⟨v,rfl,hp,S.trans S3,by rw [dI,List.map_nil,M3];exact S3 _ _ hd⟩ (by rintro j Y H4 _ ⟨_,_,h,_⟩;exact h) ?_ ?_⟩⟩
   .rintro j x Y H4 lV ⟨v,rfl,l6,S4,V8⟩;obtain ⟨pc,zZ,rfl⟩:=G9 lV;obtain ⟨e1,e2⟩:=aq8 hz zZ;obtain ⟨n1,n2,n3,n4⟩:=hnc _ _ _ e1;rw [e2] at n2;have hw:=nA (K8 zZ);have W6:B1 K H4 t ((z.1::z.2).map V.str):=.of (S4 _ _ E2);have k0:(keysP (C5 (R.take i)++((O7 z).take j).map fun p=>(p,jobD z.1))).length<=10000:=by
     have h1:=vX (C5 (R.take i)++((O7 z).take j).map fun p=>(p,jobD z.1));have h2:=congrArg Z3 e2;rw [L4] at h2;lia
    walk_at "rd";refine ⟨_,.inr W6,V.str z.1,L3 _ _,Sum.inr z.1,rfl,V.str (jobD z.1),vY hw,d,pc,jobD z.1,fg,_,g,rfl,V8,n4,fun hk=>⟨n1.symm,n2 ((qX _ _).mp hk)⟩,n3,fun H5 S5=>⟨false,rfl,iteF ⟨_,.inr (W6.same S5),V.str z.1,L3 _ _,Sum.inr z.1,rfl,V.str (jobD z.1),vY hw,_,bU (k:=Sum.inr pc) (S5 _ _ V8) (by rw [j0];exact L1 (by lia)),(l6.same S5).dput (S5 _ _ V8),(S4.trans S5).put tF,?_⟩⟩⟩;rw [A3,M0 zZ,C9,<- V9];rw [show ([pc].map fun p=>(p,jobD z.1))=[(pc,jobD z.1)] from rfl,aiI];unfold dd
    by_cases E8:pc∈keysP (C5 (R.take i)++((O7 z).take j).map fun p=>(p,jobD z.1))
    .rw [if_pos E8,mX _ E8];refine congrArg (fun x=>some (HO.dK x)) (U6 fun t _=>?_)
     by_cases e:t=pc
     .rw [if_pos e,e,n1]
     .rw [if_neg e]
    .rw [if_neg E8,eE _ E8];refine congrArg (fun x=>some (HO.dK x)) (U6 fun t _=>?_)
     by_cases e:t=pc
     .rw [if_pos e,e,n1]
     .rw [if_neg e]
   .rintro Y H4 ⟨v,rfl,l6,S4,V8⟩;walk_at "rd";refine ⟨S4,?_⟩;rw [ae8 hz];rw [A6,L6] at V8;exact V8
  .rintro Y H2 ⟨u,v,rfl,S,hd⟩;rw [A6,hR.len,L6] at hd;walk_at "rd";refine ⟨a,ts,R, "blanks",rfl,hR.same S,hl,fun H3 S3=>⟨hasW R "blanks",rfl,?_⟩⟩;have Q4:=S3 _ _ hd;have hkn:(" " : Str)∉keysP (C5 R):=fun h=>hbl ((qX _ _).mp h)
   have k0:=vX (C5 R);have hg:∀ t∈keysP (C5 R),V.str (g t)=jobG g t:=fun t ht=>by
    unfold jobG;rw [if_neg (fun e=>hkn (by rw [<- e];exact ht))]
   by_cases hb:hasW R "blanks"=true
   .rw [hb];refine iteT ⟨_,bU (k:=Sum.inr (" " : Str)) Q4 (by rw [j0];exact L1 (by lia)),q d _ tF ((S.trans S3).put tF) ?_⟩;rw [A3,eE _ hkn];unfold V7;rw [if_pos hb];refine congrArg (fun x=>some (HO.dK x)) (U6 fun t ht=>?_);unfold jobG
    by_cases e:t=(" " : Str)
    .simp only [if_pos e]
    .simp only [if_neg e]
   .rw [bK] at hb;rw [hb];refine iteF (q d _ tF (S.trans S3) ?_);unfold V7;rw [hb,if_neg L5,M3,Q4];exact congrArg (fun x=>some (HO.dK x)) (U6 hg)
theorem sc_misused:FnScope ["rule", "jobs", "first"] ["rule", "jobs"] (C1 bX):=E5
abbrev agK:List Str:=["rule", "jobs", "first"]
theorem oA:VS agK bX "rule" 0:=vq
theorem va8:VS agK bX "first" 2:=vq
theorem va9:LS bX "first":=lq
theorem ai2(F:FunD K "misused" "misused" bX f fd)(T:Txt P w K mg C):FnOk P w K mg base D9 1 f fd ["rule", "jobs"] (amO K):=by
 refine F.ok sc_misused ?_ ?_
 .rintro _ _ _ _ ⟨t,d,z,ks,g,rfl,_⟩;rfl
 .intro cdv A outer s H vs Q E hr h;have B5:=hu_of hr;have hu:=hr.units;refine ⟨_,QSs.out (A5 (qs_if (E1 (q_eq (K:=K) hu) (qe_ix (K:=K) (vi oA) A1) N7) (A4 (C7 (b8  (U7:CompOk ["rule", "jobs", "first"] (C1 bX).names _ ["piece", "jobs"] 1 [1]) (eC (K:=K) (O6 (K:=K) (vi oA) (L9 A1) (L9 A1))) (fun _ _ _ _ _=>D3 (n:=0) (show List.Nodup (["piece", "jobs"]:List Str) by decide +kernel) rfl (Or.inl rfl)) (fun _ _ _ _ _=>(kC (E1 (q_ne (K:=K) hu) (qW B5 (qv 1) (qv 0)) N7))) (fun _ _ _ _ _=>(qv 0))))) G4)
   (A5 (qs_if (E1 (q_eq (K:=K) hu) (qe_ix (K:=K) (vi oA) A1) N7) (A5 (mT (n:=2) sc_misused.nd rfl va9 (U7:CompOk ["rule", "jobs", "first"] (C1 bX).names _ ["piece", "jobs"] 1 [1]) (eC (K:=K) (O6 (K:=K) (vi oA) (L9 A1) (L9 A1))) (fun _ _ _ _ _=>D3 (n:=0) (show List.Nodup (["piece", "jobs"]:List Str) by decide +kernel) rfl (Or.inl rfl)) (fun _ _ _ _ _=>(kC (E1 (q_ne (K:=K) hu) (qW B5 (qv 1) (qv 0)) N7))) (fun _ _ _ _ _=>(qv 0)))
   (A4 (C7 (qe_op (q_add (K:=K)) (vi va8) (b8  (U7:CompOk ["rule", "jobs", "first"] (C1 bX).names _ ["piece", "jobs"] 1 [1]) (eC (K:=K) (O6 (K:=K) (vi oA) (L9 A1) R3)) (fun _ _ _ _ _=>D3 (n:=0) (show List.Nodup (["piece", "jobs"]:List Str) by decide +kernel) rfl (Or.inl rfl)) (fun _ _ _ _ _=>(kC (E1 (vL (K:=K) hu) (qW B5 (qv 1) (qv 0)) (G3 (qa_c N7 (qa_c N7 A2)))))) (fun _ _ _ _ _=>(qv 0))))))) G4)
   (A4 (C7 (R1 A2))))),?_⟩
  obtain ⟨t,d,z,ks,g,rfl,ht,hd,us,hl,q⟩:=h;have hT:B1 K H t ((z.1::z.2).map V.str):=.of ht;walk_at "rd";refine ⟨_,.inr hT,V.str z.1,L3 _ _,?_⟩;walk_at "rd"
  by_cases h1:z.1=("great" : Str)
  .rw [decide_eq_true h1];have A8:1<=((z.1::z.2).map V.str).length:=by rw [A6,J9];lia
   refine iteT (rSlR.t hT (aH (k:=1) (by decide) A8) fun s ns=>?_);have ecut:cutV ((z.1::z.2).map V.str) (some 1) (some 2)=(z.2.take 1).map V.str:=by
    rw [show cutV ((z.1::z.2).map V.str) (some 1) (some 2)=_ from ah2 ((z.1::z.2).map V.str) (i:=1) (j:=2) (by decide),E6,List.drop_succ_cons,List.drop_zero,<- dJ]
   rw [ecut];have S1:Same H (A0 H s (.tup ((z.2.take 1).map V.str))):=Same.new ns;have hs:A0 H s (.tup ((z.2.take 1).map V.str)) s=some (.tup ((z.2.take 1).map V.str)):=A3;generalize A0 H s (.tup ((z.2.take 1).map V.str))=H1 at S1 hs;refine ⟨s,rfl,⟨_,.of hs⟩,compT (xs:=(z.2.take 1).map V.str) [some (.ref d)] rfl (fun D i ys H2=>ys=[]/\Same H1 H2) (fun D nD=>⟨rfl,Same.new nD⟩) (by rintro D i ys H2 nD _ ⟨_,S⟩;exact .of (S _ _ hs)) ?_ ?_⟩
   .rintro D i y ys H2 nD hi hy ⟨rfl,S⟩ hD P5;obtain ⟨p,hp,rfl⟩:=G9 hy;obtain ⟨m1,m2⟩:=us.gr h1 p (K8 hp);have U9:=S _ _ (S1 _ _ hd);walk_at "rd";refine ⟨.inl ⟨_,.inl U9⟩,_,Z7 (k:=Sum.inr p) U9,?_⟩;rw [P8,if_pos m1,Option.getD_some,m2];refine ⟨_,rfl,?_⟩;rw [show ∀ v:Str,(!decide (v=v))=false by intro v;simp];exact iteF ⟨hD,hi,F7 _,⟨_,rfl⟩,rfl,S⟩
   .rintro D ys H2 nD ⟨rfl,S⟩ hD P5;exact q D H2 (S1.free nD) (S1.trans S) hD
  rw [decide_eq_false h1];refine iteF ⟨_,.inr hT,V.str z.1,L3 _ _,?_⟩;walk_at "rd"
  by_cases h2:z.1=("as" : Str)
  .rw [decide_eq_true h2];have A8:1<=((z.1::z.2).map V.str).length:=by rw [A6,J9];lia
   refine iteT (rSlR.t hT (aH (k:=2) (by decide) A8) fun s ns=>?_);have ecut:cutV ((z.1::z.2).map V.str) (some 2) (some 3)=((z.2.drop 1).take 1).map V.str:=by
    rw [show cutV ((z.1::z.2).map V.str) (some 2) (some 3)=_ from ah2 ((z.1::z.2).map V.str) (i:=2) (j:=3) (by decide),E6,List.drop_succ_cons,<- fU,<- dJ]
   rw [ecut];have S1:Same H (A0 H s (.tup (((z.2.drop 1).take 1).map V.str))):=Same.new ns;have hs:A0 H s (.tup (((z.2.drop 1).take 1).map V.str)) s=some (.tup (((z.2.drop 1).take 1).map V.str)):=A3;generalize A0 H s (.tup (((z.2.drop 1).take 1).map V.str))=H1 at S1 hs;refine ⟨s,rfl,⟨_,.of hs⟩,compT (xs:=((z.2.drop 1).take 1).map V.str) [some (.ref d)] rfl (fun D i ys H2=>ys=[]/\Same H1 H2) (fun D nD=>⟨rfl,Same.new nD⟩) (by rintro D i ys H2 nD _ ⟨_,S⟩;exact .of (S _ _ hs)) ?_ ?_⟩
   .rintro D i y ys H2 nD hi hy ⟨rfl,S⟩ hD P5;obtain ⟨p,hp,rfl⟩:=G9 hy;obtain ⟨m1,m2⟩:=us.a1 h2 p (K8 hp);have U9:=S _ _ (S1 _ _ hd);walk_at "rd";refine ⟨.inl ⟨_,.inl U9⟩,_,Z7 (k:=Sum.inr p) U9,?_⟩;rw [P8,if_pos m1,Option.getD_some,m2];refine ⟨_,rfl,?_⟩;rw [show ∀ v:Str,(!decide (v=v))=false by intro v;simp];exact iteF ⟨hD,hi,F7 _,⟨_,rfl⟩,rfl,S⟩
   rintro D ys H2 nD ⟨rfl,S⟩ hD P5;have S2:=S1.trans S;have hT2:B1 K H2 t ((z.1::z.2).map V.str):=.of (S2 _ _ ht);refine rSlR.t hT2 (aH (k:=3) (by decide) A8) fun s2 ns2=>?_
   have ecut2:cutV ((z.1::z.2).map V.str) (some 3) none=(z.2.drop 2).map V.str:=by
    rw [show cutV ((z.1::z.2).map V.str) (some 3) none=_ from t8 ((z.1::z.2).map V.str) 3,E6,List.drop_succ_cons,<- fU]
   rw [ecut2];have S3:Same H2 (A0 H2 s2 (.tup ((z.2.drop 2).map V.str))):=Same.new ns2;have cJ:A0 H2 s2 (.tup ((z.2.drop 2).map V.str)) s2=some (.tup ((z.2.drop 2).map V.str)):=A3;generalize A0 H2 s2 (.tup ((z.2.drop 2).map V.str))=H3 at S3 cJ;refine ⟨s2,rfl,⟨_,.of cJ⟩,compT (xs:=(z.2.drop 2).map V.str) [some (.ref d)] rfl (fun D i ys H4=>ys=[]/\Same H3 H4) (fun D nD=>⟨rfl,Same.new nD⟩) (by rintro D i ys H4 nD _ ⟨_,S⟩;exact .of (S _ _ cJ)) ?_ ?_⟩
   .rintro D2 i y ys H4 nD2 hi hy ⟨rfl,S4⟩ hD2 hyl2;obtain ⟨p,hp,rfl⟩:=G9 hy;obtain ⟨m1,m2⟩:=us.a2 h2 p (K8 hp);have V8:=S4 _ _ (S3 _ _ (S2 _ _ hd));walk_at "rd";refine ⟨.inl ⟨_,.inl V8⟩,_,Z7 (k:=Sum.inr p) V8,?_⟩;rw [P8,if_pos m1,Option.getD_some];refine ⟨by decide,fun v nv=>?_⟩;have fin:bS (g p) [V.str (Str.ofString "letter"),V.str (Str.ofString "mark")]=true/\flatV (g p)=true:=by
     rcases m2 with m2 | m2 <;> rw [m2] <;> exact ⟨by decide +kernel,rfl⟩
    refine rInR.l (.inr (.of A3)) fin.2 rfl ?_;rw [fin.1,Bool.true_xor];exact ⟨_,rfl,iteF ⟨C8 hD2 nv,hi,F7 _,⟨_,rfl⟩,rfl,S4.trans (Same.new nv)⟩⟩
   rintro D2 ys H4 nD2 ⟨rfl,S4⟩ hD2 hyl2;have hD4:=S4 _ _ (S3 _ _ hD);refine rAddR.l hD4 hD2 (by decide) fun l nl=>?_
   exact q l _ ((S2.trans (S3.trans S4)).free nl) ((S2.trans (S3.trans S4)).trans (Same.new nl)) A3
  rw [decide_eq_false h2];exact iteF fun p np=>q p _ np (Same.new np) A3
theorem sc_check_letters:FnScope ["rules", "jobs", "rule", "wrong"] ["rules", "jobs"] (C1 bY):=E5
abbrev rV:List Str:=["rules", "jobs", "rule", "wrong"]
theorem vba:VS rV bY "rules" 0:=vq
theorem vbb:VS rV bY "jobs" 1:=vq
theorem vbc:VS rV bY "rule" 2:=vq
theorem vbd:VS rV bY "wrong" 3:=vq
theorem vbe:LS bY "rule":=lq
theorem vbf:LS bY "wrong":=lq
theorem ad7(F:FunD K "check_letters" "check_letters" bY f fd)(T:Txt P w K mg C)(G_misused:FO P w K mg base 1 "misused" ["rule", "jobs"] [] (amO K)):FnOk P w K mg base D9 2 f fd ["rules", "jobs"] (ah3 K):=by
 refine F.ok sc_check_letters ?_ ?_
 .rintro _ _ _ _ ⟨a,d,ts,R,ks,g,rfl,_⟩;rfl
 .intro cdv A outer s H vs Q E hr h;have B5:=hu_of hr;have hu:=hr.units;refine ⟨_,QSs.out (A4 (M7 PassesOwn.never (P0 (K:=K) (vi vba)) (D3 (n:=2) sc_check_letters.nd rfl vbe (.inl rfl)) (A5 (C6 (n:=3) sc_check_letters.nd rfl vbf (D1 G_misused (hm hr) (qa_c (vi vbc) (qa_c (vi vbb) A2))))
   (A4 (qs_if (Q7 (K:=K) (vi vbd)) (A4 kA) G4))))),?_⟩
  obtain ⟨a,d,ts,R,ks,g,rfl,hR,hd,hw,q⟩:=h;walk_at "rd";refine ⟨⟨_,.of hR.top⟩,forL (xs:=ts.map V.ref) (fun i Y H2=>∃ (u v:Option V),Y=[some (.ref a),some (.ref d),u,v]/\Same H H2) ⟨none,none,rfl,dU H⟩ (by rintro i Y H2 _ ⟨_,_,_,S⟩;exact .of (S _ _ hR.top)) ?_ ?_⟩
  .rintro i x Y H2 hx ⟨u,v,rfl,S⟩;obtain ⟨t,ht,rfl⟩:=G9 hx;obtain ⟨z,hz,E2⟩:=Paired.at hR.row ht;obtain ⟨n1,n2⟩:=hw z (K8 hz);walk_at "rd";refine ⟨t,d,z,ks,g,rfl,S _ _ E2,S _ _ hd,n1,n2,fun p H3 np S3 hp=>⟨_,vN hp,iteF (S.trans S3)⟩⟩
  .rintro Y H2 ⟨u,v,rfl,S⟩;exact q H2 S
theorem ai3:FnScope ["rules", "word"] ["rules", "word"] (C1 nO):=E5
abbrev akU:List Str:=["rules", "word"]
theorem vbg:VS akU nO "rules" 0:=vq
theorem ai4(F:FunD K "line_of" "line_of" nO f fd)(T:Txt P w K mg C)(G_lined_up:FO P w K mg base 3 "lined_up" ["rows"] [] aj4):FnOk P w K mg base D9 4 f fd ["rules", "word"] (amM K):=by
 refine F.ok ai3 ?_ ?_
 .rintro _ _ _ _ ⟨a,ts,R,w,rank,rfl,_⟩;rfl
 .intro cdv A outer s H vs Q E hr h;have B5:=hu_of hr;have hu:=hr.units;refine ⟨_,QSs.out (A4 (C7 (D1 G_lined_up (hm hr) (qa_c (b8  (U7:CompOk ["rules", "word"] (C1 nO).names _ ["rule", "word"] 1 [1]) (P0 (K:=K) (vi vbg)) (fun _ _ _ _ _=>D3 (n:=0) (show List.Nodup (["rule", "word"]:List Str) by decide +kernel) rfl (Or.inl rfl)) (fun _ _ _ _ _=>(kC (E1 (q_eq (K:=K) hu) (qe_ix (K:=K) (qv 0) A1) (qv 1)))) (fun _ _ _ _ _=>(qe_cT (mU (K:=K) (calm:=true)) T.b_list jY (qa_c (O6 (K:=K) (qv 0) (L9 A1) R3) A2)))) A2)))),?_⟩;obtain ⟨a,ts,R,w,rank,rfl,hR,hl,cU,x0,q⟩:=h;walk_at "rd";refine ⟨⟨_,.of hR.top⟩,compL (xs:=ts.map V.ref) [some (.str w)] rfl (fun D i ys H4=>∃ qs:List Addr,ys=qs.map V.ref/\RowsAt H H4 D qs (rowsW (R.take i) w)) (fun D nD=>⟨[],rfl,⟨⟨A3,.nil⟩,by simp,fun r hr=>by rw [E4.mp hr];exact nD,Same.new nD⟩⟩)
   (by rintro D i ys H4 nD _ ⟨qs,_,RA⟩;exact .of (RA.same _ _ hR.top)) ?_ ?_⟩
  .rintro D i x ys H4 nD hi hx ⟨qs,rfl,RA⟩ hD hy;obtain ⟨t,ht,rfl⟩:=G9 hx;obtain ⟨z,hz,E2⟩:=Paired.at hR.row ht;have aZ:i<R.length:=(E9.mp hz).1;have W6:B1 K H4 t ((z.1::z.2).map V.str):=.of (RA.same _ _ E2);have A8:1<=((z.1::z.2).map V.str).length:=by rw [A6,J9];lia
   walk_at "rd";refine ⟨_,.inr W6,V.str z.1,L3 _ _,?_⟩;walk_at "rd";refine iteD (fun e=>rSlR.t W6 (aH (k:=1) (by decide) A8) fun p np=>?_) fun e=>⟨hD,vC hi hy ⟨qs,rfl,?_⟩⟩
   .rw [E6,vO];walk_at "rd";refine rListR.l (.inr (.of A3)) fun p2 np2=>⟨C8 (C8 hD np) np2,?_,CW.put hi hy ⟨qs++[p2],by rw [C9];rfl,?_⟩⟩
    .rw [A6] at hy;rw [A6];exact L1 (by lia)
    .rw [ae9 hz,if_pos e];have n2:H4 p2=none:=(Same.new np).free np2;exact RA.grow (fun b o h=>C8 (C8 h np) np2) n2 A3
   .rw [ae9 hz,if_neg e];exact RA
  rintro D ys H4 nD ⟨qs,rfl,RA⟩ hD hy;rw [A6,hR.len,L6] at RA;refine ⟨D,qs,rowsW R w,rank,rfl,RA.rows,cU,x0,fun l line H5 nl S5 hl5 run cov=>?_⟩;exact q l line H5 (RA.same.free nl) (RA.same.trans S5) hl5 run cov
theorem sc_forms_of:FnScope ["rules", "forms", "rule"] ["rules"] (C1 eK):=E5
abbrev xO:List Str:=["rules", "forms", "rule"]
theorem vbh:VS xO eK "rules" 0:=vq
theorem vbi:VS xO eK "forms" 1:=vq
theorem xP:VS xO eK "rule" 2:=vq
theorem vbk:LS eK "forms":=lq
theorem vbl:LS eK "rule":=lq
theorem ahr(F:FunD K "forms_of" "forms_of" eK f fd)(T:Txt P w K mg C):FnOk P w K mg base D9 1 f fd ["rules"] (ah1 K):=by
 refine F.ok sc_forms_of ?_ ?_
 .rintro _ _ _ _ ⟨a,ts,R,rfl,_⟩;rfl
 .intro cdv A outer s H vs Q E hr h;have B5:=hu_of hr;have hu:=hr.units;refine ⟨_,QSs.out (A5 (C6 (n:=1) sc_forms_of.nd rfl vbk gH)
   (A5 (M7 PassesOwn.never (P0 (K:=K) (vi vbh)) (D3 (n:=2) sc_forms_of.nd rfl vbl (.inl rfl)) (A4 (qs_if (E1 (q_eq (K:=K) hu) (qe_ix (K:=K) (vi xP) A1) N7) (A4 (U0 (qe_mB (K:=K) W1 PySem.F.slot_list_extend PySem.F.type_list_extend (aj8 (K:=K)) (alU (vi vbi) (qe_ix (K:=K) (vi xP) A1) (R1 A2)) (qa_c (O6 (K:=K) (vi xP) (L9 A1) R3) A2)))) G4)))
   (A4 (C7 (vi vbi))))),?_⟩
  obtain ⟨a,ts,R,rfl,hR,hg,hl,hf,q⟩:=h;walk_at "rd";intro d nd;refine ⟨⟨_,.of (C8 hR.top nd)⟩,forL (xs:=ts.map V.ref) (fun i Y H2=>∃ (u:Option V) (ad:Str->Addr),Y=[some (.ref a),some (.ref d),u]/\Same H H2/\H2 d=some (.dK (C2 (E3 (R.take i)) fun y=>.ref (ad y)))/\DL (A0 H d (.dK [])) H2 (E3 (R.take i)) ad (D6 (R.take i))) ⟨none,fun _=>d,rfl,Same.new nd,A3,⟨by simp [E3,J5,G7],by simp [E3,J5,G7],by simp [E3,J5,G7]⟩⟩ (by rintro i Y H2 _ ⟨_,_,_,S,_⟩;exact .of (S _ _ hR.top)) ?_ ?_⟩
  .rintro i x Y H2 hx ⟨u,ad,rfl,S,hd,dl⟩;obtain ⟨t,ht,rfl⟩:=G9 hx;obtain ⟨z,hz,E2⟩:=Paired.at hR.row ht;have hT:B1 K H2 t ((z.1::z.2).map V.str):=.of (S _ _ E2);walk_at "rd";refine ⟨_,.inr hT,V.str z.1,L3 _ _,?_⟩;walk_at "rd"
   by_cases W7:z.1=("great" : Str)
   .rw [decide_eq_true W7];refine iteT ?_;obtain ⟨w,ps⟩:=z;obtain rfl:w=("great" : Str):=W7;obtain ⟨y,fs,rfl⟩:∃ y fs,ps=y::fs:=by
     cases ps with
     | nil=>exact absurd rfl (hg _ (K8 hz) rfl)
     | cons y fs=>exact ⟨y,fs,rfl⟩
    have etk:R.take (i+1)=R.take i++[(("great" : Str),y::fs)]:=M0 hz;have cU:(D6 (R.take i) y).length+fs.length<=10000:=by
     have:=hf (i+1) y
     rw [etk,wE,if_pos rfl,D7] at this;exact this
    have k0:(C2 (E3 (R.take i)) fun y=>V.ref (ad y)).length<=1000:=by
     rw [j0];unfold E3;have h1:=mR ((J5 (R.take i)).map (·.1)) [];have h2:(J5 (R.take i)).length<=(R.take i).length:=List.length_filterMap_le _ _;rw [A6,Z2] at h1;rw [L4] at h2;lia
    have V0:G2 (((("great" : Str),y::fs).1::(("great" : Str),y::fs).2).map V.str) 1=some (V.str y):=K9 (j:=1) rfl;have cY:cutV (((("great" : Str),y::fs).1::(("great" : Str),y::fs).2).map V.str) (some 2) none=fs.map V.str:=t8 _ 2;refine ⟨.inl ⟨_,.inl hd⟩,_,.inr hT,V.str y,V0,fun p np=>⟨_,C8 hd np,Nat.lt_of_le_of_lt k0 (by decide),Sum.inr y,rfl,fun v hv=>?_,fun hn=>?_⟩⟩
    .rw [P8] at hv
     by_cases hy:y∈E3 (R.take i)
     .rw [if_pos hy] at hv;cases hv;have fJ:=dl.row y hy;have ndy:ad y≠d:=fun e=>by have:=dl.new y hy;rw [e,A3] at this;cases this
      have nHy:H (ad y)=none:=by have:=dl.new y hy;rw [A7 ndy] at this;exact this
      have T1:Same H2 (A0 H2 p (.lst [])):=Same.new np;generalize A0 H2 p (.lst [])=H3 at T1;refine ⟨V5 (T1 _ _ fJ),rSlR.t (hT.same T1) (aH (k:=2) (by decide) (by simp)) fun s ns=>?_⟩;rw [cY];have T2:Same H3 (A0 H3 s (.tup (fs.map V.str))):=Same.new ns;have hs:A0 H3 s (.tup (fs.map V.str)) s=some (.tup (fs.map V.str)):=A3;generalize A0 H3 s (.tup (fs.map V.str))=H4 at T2 hs;have T:=T1.trans T2;refine ⟨ad y,s,_,_,rfl,rfl,T _ _ fJ,.of hs,by rw [A6,A6];exact P6 (by lia),(S.trans T).put nHy,ad,?_,?_⟩
      .rw [A7 ndy.symm,T _ _ hd,etk,qZ];unfold dd;rw [if_pos hy]
      .rw [etk,qZ];unfold dd;rw [if_pos hy,<- C9];refine ((dl.same T).app hy (D6 (R.take i) y++fs)).congr fun x _=>?_
       rw [wE]
       by_cases bF:x=y
       .subst bF;simp
       .simp [bF]
     .rw [if_neg hy] at hv;cases hv
    .have hy:y∉E3 (R.take i):=fun hy=>by rw [P8,if_pos hy] at hn;cases hn
     have ndp:d≠p:=fun e=>by rw [<- e,hd] at np;cases np
     have n0:A0 H d (.dK []) p=none:=by rw [A7 ndp.symm];exact S.free np
     have dl2:=dl.more hy np n0;have bE:=dl2.put (b:=d) (o:=.dK (C2 (E3 (R.take i)++[y]) fun t=>if t=y then V.ref p else V.ref (ad t))) (u:=.dK []) A3;rw [eE (V.ref p) hy];have tD:A0 (A0 H2 p (.lst [])) d (.dK (C2 (E3 (R.take i)++[y]) fun t=>if t=y then V.ref p else V.ref (ad t))) p=some (.lst []):=by rw [A7 ndp.symm,A3]
     have Q4:A0 (A0 H2 p (.lst [])) d (.dK (C2 (E3 (R.take i)++[y]) fun t=>if t=y then V.ref p else V.ref (ad t))) d=some (.dK (C2 (E3 (R.take i)++[y]) fun t=>if t=y then V.ref p else V.ref (ad t))):=A3;have S3:Same H (A0 (A0 H2 p (.lst [])) d (.dK (C2 (E3 (R.take i)++[y]) fun t=>if t=y then V.ref p else V.ref (ad t)))):=(S.trans (Same.new np)).put nd;generalize A0 (A0 H2 p (.lst [])) d (.dK (C2 (E3 (R.take i)++[y]) fun t=>if t=y then V.ref p else V.ref (ad t)))=H3 at bE tD Q4 S3;have hT3:B1 K H3 t (((("great" : Str),y::fs).1::(("great" : Str),y::fs).2).map V.str):=.of (S3 _ _ E2);refine ⟨V5 tD,rSlR.t hT3 (aH (k:=2) (by decide) (by simp)) fun s ns=>?_⟩;rw [cY];have T2:Same H3 (A0 H3 s (.tup (fs.map V.str))):=Same.new ns;have hs:A0 H3 s (.tup (fs.map V.str)) s=some (.tup (fs.map V.str)):=A3;generalize A0 H3 s (.tup (fs.map V.str))=H4 at T2 hs;refine ⟨p,s,_,_,rfl,rfl,T2 _ _ tD,.of hs,by rw [A6];exact P6 (by simp;lia),(S3.trans T2).put (S.free np),fun t=>if t=y then p else ad t,?_,?_⟩
     .rw [A7 ndp,T2 _ _ Q4,etk,qZ];unfold dd;rw [if_neg hy];refine congrArg (fun z=>some (HO.dK z)) (U6 fun x _=>?_);show (if x=y then V.ref p else V.ref (ad x))=V.ref (if x=y then p else ad x)
      by_cases bF:x=y
      .rw [if_pos bF,if_pos bF]
      .rw [if_neg bF,if_neg bF]
     .rw [etk,qZ];unfold dd;rw [if_neg hy,dH]
      have:=((bE.same T2).app (z:=y) (by simp) fs).congr (G:=D6 (R.take i++[(("great" : Str),y::fs)])) fun x _=>by
       rw [wE]
       by_cases bF:x=y
       .subst bF;have e0:D6 (R.take i) x=[]:=by
         unfold D6;rw [mC.mpr fun e he=>?_]
         .rfl
         .intro h;have h:e.1=x:=by simpa using h
          refine hy ?_;unfold E3;rw [aG];exact .inr (D8.mpr ⟨e,he,h⟩)
        simp [e0]
       .simp [bF]
      rw [if_pos rfl] at this;exact this
   .rw [decide_eq_false W7];refine iteF ⟨S,ad,?_,?_⟩
    .rw [show E3 (R.take (i+1))=E3 (R.take i) by unfold E3;rw [wC hz,eG W7,M3]];exact hd
    .rw [show E3 (R.take (i+1))=E3 (R.take i) by unfold E3;rw [wC hz,eG W7,M3]];refine dl.congr fun x _=>?_
     unfold D6;rw [wC hz,eG W7,M3]
  .rintro Y H2 ⟨u,ad,rfl,S,hd,dl⟩;walk_at "rd";rw [A6,hR.len,L6] at hd dl;exact q d ad H2 nd S hd (dl.old (Same.new nd))
theorem sc_steps_of:FnScope ["rules", "letters", "marks", "steps", "place", "letter", "mark", "forms", "case", "form", "rule"] ["rules", "letters", "marks"] (C1 Q1):=E5
abbrev v7:List Str:=["rules", "letters", "marks", "steps", "place", "letter", "mark", "forms", "case", "form", "rule"]
theorem vbm:VS v7 Q1 "rules" 0:=vq
theorem vbn:VS v7 Q1 "letters" 1:=vq
theorem vbo:VS v7 Q1 "marks" 2:=vq
theorem kZ:VS v7 Q1 "steps" 3:=vq
theorem vbq:VS v7 Q1 "place" 4:=vq
theorem xQ:VS v7 Q1 "letter" 5:=vq
theorem vbs:VS v7 Q1 "mark" 6:=vq
theorem vbt:VS v7 Q1 "forms" 7:=vq
theorem vbu:VS v7 Q1 "case" 8:=vq
theorem vbv:VS v7 Q1 "form" 9:=vq
theorem xR:VS v7 Q1 "rule" 10:=vq
theorem vbx:LS Q1 "steps":=lq
theorem vby:LS Q1 "place":=lq
theorem vbz:LS Q1 "letter":=lq
theorem vbA:LS Q1 "mark":=lq
theorem vbB:LS Q1 "forms":=lq
theorem vbC:LS Q1 "case":=lq
theorem vbD:LS Q1 "form":=lq
theorem vbE:LS Q1 "rule":=lq
theorem ahs(F:FunD K "steps_of" "steps_of" Q1 f fd)(T:Txt P w K mg C)(G_forms_of:FO P w K mg base 1 "forms_of" ["rules"] [] (ah1 K)):FnOk P w K mg base D9 2 f fd ["rules", "letters", "marks"] (ah5 K):=by
 refine F.ok sc_steps_of ?_ ?_
 .rintro _ _ _ _ ⟨a,b,c,ts,R,L,M,F,rfl,_⟩;rfl
 .intro cdv A outer s H vs Q E hr h;have B5:=hu_of hr;have hu:=hr.units;refine ⟨_,QSs.out (A5 (C6 (n:=3) sc_steps_of.nd rfl vbx gH)
   (A5 (M7 PassesOwn.never (vW T.b_enumerate (qa_c (vi vbn) A2)) (aF (K:=K) (n:=2) (P7 ((D3 (n:=4) sc_steps_of.nd rfl vby (.inl rfl))) (P7 ((D3 (n:=5) sc_steps_of.nd rfl vbz (.inl rfl))) aE))) (A4 (m7 B5 (vi kZ) (vi xQ) (G3 (qa_c (G3 (qa_c (gG T.g_LETTER) (qa_c (vi vbq) (qa_c A1 A2)))) A2)))))
   (A5 (M7 PassesOwn.never (vW T.b_enumerate (qa_c (vi vbo) A2)) (aF (K:=K) (n:=2) (P7 ((D3 (n:=4) sc_steps_of.nd rfl vby (.inl rfl))) (P7 ((D3 (n:=6) sc_steps_of.nd rfl vbA (.inl rfl))) aE))) (A4 (m7 B5 (vi kZ) (vi vbs) (G3 (qa_c (G3 (qa_c (gG T.g_MARK) (qa_c (vi vbq) (qa_c A1 A2)))) A2)))))
   (A5 (C6 (n:=7) sc_steps_of.nd rfl vbB (D1 G_forms_of (hm hr) (qa_c (vi vbm) A2)))
   (A5 (vQ PassesOwn.never (vi vbt) (D3 (n:=5) sc_steps_of.nd rfl vbz (.inl rfl)) (A4 (M7 PassesOwn.never (al6 T.b_enumerate (qa_c (Z9 B5 (vi vbt) (vi xQ)) A2)) (aF (K:=K) (n:=2) (P7 ((D3 (n:=8) sc_steps_of.nd rfl vbC (.inl rfl))) (P7 ((D3 (n:=9) sc_steps_of.nd rfl vbD (.inl rfl))) aE))) (A4 (m7 B5 (vi kZ) (vi vbv) (G3 (qa_c (G3 (qa_c (gG T.g_LETTER) (qa_c (qe_ix (K:=K) (qe_ix (K:=K) (Z9 B5 (vi kZ) (vi xQ)) A1) A1) (qa_c (vi vbu) A2)))) A2)))))))
   (A5 (M7 PassesOwn.never (P0 (K:=K) (vi vbm)) (D3 (n:=10) sc_steps_of.nd rfl vbE (.inl rfl)) (A4 (qs_if (E1 (q_eq (K:=K) hu) (qe_ix (K:=K) (vi xR) A1) N7) (A4 (m7 B5 (vi kZ) (qe_ix (K:=K) (vi xR) A1) (qe_cT (mV (K:=K)) T.b_tuple gF (qa_c (b8  (U7:CompOk ["rules", "letters", "marks", "steps", "place", "letter", "mark", "forms", "case", "form", "rule"] (C1 Q1).names _ ["part", "steps"] 1 [3]) (eC (K:=K) (O6 (K:=K) (vi xR) (L9 A1) R3)) (fun _ _ _ _ _=>D3 (n:=0) (show List.Nodup (["part", "steps"]:List Str) by decide +kernel) rfl (Or.inl rfl)) (fun _ _ _ _ _=>i8) (fun _ _ _ _ _=>(qe_ix (K:=K) (Z9 B5 (qv 1) (qv 0)) A1))) A2)))) G4)))
   (A4 (C7 (vi kZ))))))))),?_⟩
  obtain ⟨a,b,c,ts,R,L,M,F,rfl,hR,md,hb,hc,O9,hRl,cU,lW,q⟩:=h;have A8:L.length+M.length+((E3 R).flatMap (D6 R)).length+(asKs R).length<=50000:=by
   unfold allKs at lW;simp only [D7] at lW;exact lW
  walk_at "rd";intro d nd;have ndR:∀ {x:Addr} {o:HO},H x=some o->x≠d:=fun h e=>by rw [e,nd] at h;cases h
  refine ⟨⟨_,C8 hb nd⟩,forE (xs:=L.map V.str) (fun i Y H2=>∃ (u v w x y z r:Option V),Y=[some (.ref a),some (.ref b),some (.ref c),some (.ref d),u,v,w,x,y,z,r]/\StI H H2 d (L.take i) F)
   ⟨none,none,none,none,none,none,none,rfl,Same.new nd,fun _=>d,A3,by simp [G7]⟩ (by rintro i Y H2 ⟨_,_,_,_,_,_,_,_,S⟩;exact S.same _ _ hb) ?_ ?_⟩
  .rintro i x t Y H2 hx ⟨u,v,w,x',y,z,r,rfl,S⟩ nt;obtain ⟨l,hl,rfl⟩:=G9 hx;have hi:i<L.length:=(E9.mp hl).1;walk_at "rd";refine ⟨_,.of A3,rfl,_,_,rfl,_,_,rfl,rfl,by decide,fun p np=>⟨by decide,fun p1 W8=>?_⟩⟩;rw [M0 hl];exact StI.put nd (((S.more (Same.new nt)).more (Same.new np)).more (Same.new W8)) (by rw [L4];lia) (by
    rw [md.lt i l hl];exact StepAt.one A3 (C8 A3 W8))
  rintro Y H2 ⟨u,v,w,x',y,z,r,rfl,S⟩;rw [A6,L6] at S;walk_at "rd";refine ⟨⟨_,S.same _ _ hc⟩,forE (xs:=M.map V.str) (fun i Y H2=>∃ (u v w x y z r:Option V),Y=[some (.ref a),some (.ref b),some (.ref c),some (.ref d),u,v,w,x,y,z,r]/\StI H H2 d (L++M.take i) F)
   ⟨u,v,w,x',y,z,r,rfl,by rw [dI,M3];exact S⟩ (by rintro i Y H2 ⟨_,_,_,_,_,_,_,_,S⟩;exact S.same _ _ hc) ?_ ?_⟩
  .clear S;rintro i x t Y H2 hx ⟨u,v,w,x',y,z,r,rfl,S⟩ nt;obtain ⟨l,hl,rfl⟩:=G9 hx;have hi:i<M.length:=(E9.mp hl).1;walk_at "rd";refine ⟨_,.of A3,rfl,_,_,rfl,_,_,rfl,rfl,by decide,fun p np=>⟨by decide,fun p1 W8=>?_⟩⟩;rw [M0 hl,<- V9];exact StI.put nd (((S.more (Same.new nt)).more (Same.new np)).more (Same.new W8)) (by rw [D7,L4];lia) (by
    rw [md.mr i l hl];exact StepAt.one A3 (C8 A3 W8))
  clear S H2 u v w x' y z r;rintro Y H2 ⟨u,v,w,x',y,z,r,rfl,S⟩;rw [A6,L6] at S;walk_at "rd";refine ⟨a,ts,R,rfl,hR.same S.same,fun z hz e=>md.ne z hz (.inr e),hRl,cU,fun fd af H3 nfd S3 tG dl=>?_⟩;have nf0:H fd=none:=S.same.free nfd;have nf1:fd≠d:=fun e=>by
   obtain ⟨ad,h1,_⟩:=S.made;rw [<- e,nfd] at h1;cases h1
  have S':=S.more S3;have E2:=dl.row;clear S S3 dl nfd H2;refine ⟨fd,rfl,_,tG,fun o=>forD (fun i Y H4=>∃ (u v w y z r:Option V),Y=[some (.ref a),some (.ref b),some (.ref c),some (.ref d),u,v,w,some (.ref fd),y,z,r]/\FoI H H4 d fd o (E3 R) af (D6 R) (L++M++((E3 R).take i).flatMap (D6 R)) F)
   ⟨u,v,w,y,z,r,rfl,⟨A3,fun y hy=>by rw [A7 (fun e=>by have:=E2 y hy;rw [e,tG] at this;cases this)];exact E2 y hy,by rw [dI,List.flatMap_nil,M3];exact S'.frz tG nf0 nf1⟩⟩ (by rintro i Y H4 ⟨_,_,_,_,_,_,_,h⟩;exact h.frz) ?_ ?_⟩
  .rintro i k v' Y H4 hk ⟨u,v,w,y,z,r,rfl,J⟩;obtain ⟨l,hl,e⟩:=G9 (f:=fun t=>((Sum.inr t:B3),V.ref (af t))) hk;obtain ⟨rfl,rfl⟩:=Prod.mk.inj e;have pI:l∈E3 R:=K8 hl;have hlL:=md.gl l pI;have zY:(((E3 R).take i).flatMap (D6 R)).length+(D6 R l).length<=((E3 R).flatMap (D6 R)).length:=by
    have e:(E3 R).flatMap (D6 R)=((E3 R).take i).flatMap (D6 R)++D6 R l++((E3 R).drop (i+1)).flatMap (D6 R):=by
     have:=p9 (i+1) (E3 R)
     rw [M0 hl] at this;rw [<- this,Z1,Z1,m3,List.flatMap_nil,M3];rw [this]
    rw [e,D7,D7];lia
   walk_at "rd";refine ⟨V.ref (af l),.inl ⟨_,Sum.inr l,.inr ⟨o,J.frz⟩,rfl,by rw [P8,if_pos pI]⟩,af l,rfl,⟨_,J.rows l pI⟩,forE1 (xs:=(D6 R l).map V.str) (fun j Y H5=>∃ (y z r:Option V),Y=[some (.ref a),some (.ref b),some (.ref c),some (.ref d),u,some (kV (Sum.inr l)),w,some (.ref fd),y,z,r]/\FoI H H5 d fd o (E3 R) af (D6 R) (L++M++((E3 R).take i).flatMap (D6 R)++(D6 R l).take j) F) ⟨y,z,r,rfl,by rw [dI,M3];exact J⟩ (by rintro j Y H5 ⟨_,_,_,_,h⟩;exact h.rows l pI) ?_ ?_⟩
   .clear J y z r;rintro j x t Y H5 hx ⟨y,z,r,rfl,J⟩ nt;obtain ⟨f,hf,rfl⟩:=G9 hx;have hj:j<(D6 R l).length:=(E9.mp hf).1;have T1:Same H5 (A0 H5 t (.tup [.int ((j+1:Nat):Int),.str f])):=Same.new nt;have ht:A0 H5 t (.tup [.int ((j+1:Nat):Int),.str f]) t=some (.tup [.int ((j+1:Nat):Int),.str f]):=A3;generalize A0 H5 t (.tup [.int ((j+1:Nat):Int),.str f])=H6 at T1 ht ⊢
    have J6:=J.more T1;obtain ⟨ad,h1,h2⟩:=J6.st.made;have E8:l∈G7 [] (L++M++((E3 R).take i).flatMap (D6 R)++(D6 R l).take j):=by
     rw [aG];exact .inr (Q5 _ (Q5 _ (Q5 _ hlL)))
    obtain ⟨tt,e1,e2⟩:=(h2 l E8).ex;rw [md.letter hlL] at e2;obtain ⟨t0,rfl,e3⟩:∃ t0,tt=[t0]/\H6 t0=some (tupT (2,(L.idxOf l:Int),0)):=by
     cases e2 with
     | cons h t=>cases t;exact ⟨_,rfl,h⟩
    walk_at "rd";refine ⟨_,.of ht,rfl,_,_,rfl,_,_,rfl,rfl,V.ref (ad l),.inl ⟨_,Sum.inr l,.inl h1,rfl,by rw [P8,if_pos E8]⟩,?_⟩;walk_at "rd";refine ⟨_,.inr (.of e1),V.ref t0,L3 _ _,?_⟩;walk_at "rd";refine ⟨_,.inr (.of e3),V.int (L.idxOf l:Int),K9 (j:=1) rfl,by decide,fun p np=>⟨by decide,fun p1 W8=>?_⟩⟩;rw [M0 hf,<- V9];exact FoI.put nd ((J6.more (Same.new np)).more (Same.new W8)) (by simp only [D7,L4];lia) (by
     rw [md.gr l pI j f hf];exact StepAt.one A3 (C8 A3 W8))
   .rintro Y H5 ⟨y,z,r,rfl,J⟩;rw [A6,L6] at J;refine ⟨⟨_,_,_,_,_,_,rfl⟩,?_⟩;rw [M0 hl,Z1,m3,List.flatMap_nil,M3,<- V9];exact J
  rintro Y H4 ⟨u,v,w,y,z,r,rfl,J⟩;rw [j0,L6] at J;have S5:=J.st.thaw (o:=.dK (C2 (E3 R) fun y=>V.ref (af y))) J.frz nf0 nf1;generalize A0 H4 fd (.dK (C2 (E3 R) fun y=>V.ref (af y)))=H5 at S5 ⊢
  clear J tG E2;walk_at "rd";refine ⟨⟨_,.of (S5.same _ _ hR.top)⟩,forL (xs:=ts.map V.ref) (fun i Y H6=>∃ (r:Option V),Y=[some (.ref a),some (.ref b),some (.ref c),some (.ref d),u,v,w,some (.ref fd),y,z,r]/\StI H H6 d (L++M++(E3 R).flatMap (D6 R)++asKs (R.take i)) F) ⟨r,rfl,by rw [dI];rw [show asKs []=[] from rfl,M3];exact S5⟩ (by rintro i Y H6 _ ⟨_,_,S⟩;exact .of (S.same _ _ hR.top)) ?_ ?_⟩
  .clear S5 r;rintro i x Y H6 hx ⟨r,rfl,S⟩;obtain ⟨t,ht,rfl⟩:=G9 hx;obtain ⟨zz,hz,E2⟩:=Paired.at hR.row ht;have fK:=K8 hz;have hT:B1 K H6 t ((zz.1::zz.2).map V.str):=.of (S.same _ _ E2);walk_at "rd";refine ⟨_,.inr hT,V.str zz.1,L3 _ _,?_⟩;walk_at "rd"
   by_cases has:zz.1=("as" : Str)
   .rw [decide_eq_true has];refine iteT ?_;obtain ⟨w1,ps⟩:=zz;obtain rfl:w1=("as" : Str):=has;obtain ⟨p,qs,rfl⟩:∃ p qs,ps=p::qs:=by
     cases ps with
     | nil=>exact absurd rfl (md.ne _ fK (.inl rfl))
     | cons p qs=>exact ⟨p,qs,rfl⟩
    have cY:cutV (((("as" : Str),p::qs).1::(("as" : Str),p::qs).2).map V.str) (some 2) none=qs.map V.str:=t8 _ 2;have hql:qs.length<=1000:=by have:=O9 _ fK;simp only [J9] at this;lia
    have hasl:=ama (R.take i);rw [L4] at hasl;refine rSlR.t hT (aH (k:=2) (by decide) (by simp)) fun s ns=>?_
    rw [cY];have T1:Same H6 (A0 H6 s (.tup (qs.map V.str))):=Same.new ns;have hs:A0 H6 s (.tup (qs.map V.str)) s=some (.tup (qs.map V.str)):=A3;generalize A0 H6 s (.tup (qs.map V.str))=H7 at T1 hs;have S7:=S.more T1;have hT7:B1 K H7 t (((("as" : Str),p::qs).1::(("as" : Str),p::qs).2).map V.str):=B1.same T1 hT;clear hT S;refine ⟨s,rfl,⟨_,.of hs⟩,compT (xs:=qs.map V.str) [some (.ref d)] rfl (fun D j ys H8=>∃ fL:List Addr,ys=fL.map V.ref/\AsI H H7 H8 d (L++M++(E3 R).flatMap (D6 R)++asKs (R.take i)) F fL ((qs.take j).map fun q=>(F q).headD (0,0,0))) (fun D nD=>⟨[],rfl,S7.more (Same.new nD),.nil,Same.new nD⟩) (by rintro D j ys H8 nD _ ⟨_,_,h⟩;exact .of (h.sm _ _ hs)) ?_ ?_⟩
    .rintro D j yv ys H8 nD hi hy ⟨fL,rfl,J⟩ hD P5;obtain ⟨qq,hq,rfl⟩:=G9 hy;have hqb:=md.pt _ fK rfl qq (K8 hq);obtain ⟨st,Y7⟩:=md.base hqb;obtain ⟨ad,h1,h2⟩:=J.st.made;have E8:qq∈G7 [] (L++M++(E3 R).flatMap (D6 R)++asKs (R.take i)):=by
      rw [aG];refine .inr (Q5 _ (Q5 _ (G0.mpr hqb)))
     obtain ⟨tt,e1,e2⟩:=(h2 qq E8).ex;rw [Y7] at e2;obtain ⟨t0,rfl,e3⟩:∃ t0,tt=[t0]/\H8 t0=some (tupT st):=by
      cases e2 with
      | cons h t=>cases t;exact ⟨_,rfl,h⟩
     walk_at "rd";refine ⟨V.ref (ad qq),.inl ⟨_,Sum.inr qq,.inl h1,rfl,by rw [P8,if_pos E8]⟩,?_⟩;walk_at "rd";have tE:fL.length<=1000:=by
      have:=Paired.length J.pr
      rw [A6,L4] at this;lia
     refine ⟨_,.inr (.of e1),V.ref t0,L3 _ _,hD,by rw [A6];exact L1 (by lia),CW.put hi P5 ⟨fL++[t0],by rw [C9];rfl,?_⟩⟩;refine AsI.putL (f:=D) ⟨J.st,?_,J.sm⟩ hD (S7.same.free nD) nD;rw [M0 hq,C9];refine Paired.snoc J.pr ?_;show H8 t0=some (tupT ((F qq).headD (0,0,0)));rw [Y7];exact e3
    rintro D ys H8 nD ⟨fL,rfl,J⟩ hD P5;rw [A6,L6] at J;rw [tup_r];refine rTupR.l (.of hD) fun p1 W8=>?_
    have V0:G2 (((("as" : Str),p::qs).1::(("as" : Str),p::qs).2).map V.str) 1=some (V.str p):=K9 (j:=1) rfl;have S8:Same H8 (A0 H8 p1 (.tup (fL.map V.ref))):=Same.new W8;refine ⟨_,.inr (B1.same (J.sm.trans S8) hT7),V.str p,V0,?_⟩;rw [agr hz,ah4,<- V9];refine StI.put nd (J.st.more S8) (by simp only [D7];lia) ?_;rw [md.as _ fK rfl p qs rfl];exact ⟨fL,A3,N5 J.pr fun t s e=>S8 _ _ e⟩
   .rw [decide_eq_false has];refine iteF ?_;rw [agr hz,aki has,M3];exact S
  rintro Y H6 ⟨r,rfl,S⟩;rw [A6,hR.len,L6] at S;walk_at "rd";exact q d H6 nd S.same S.made
theorem adT:FnScope ["self", "rules"] ["self", "rules"] (C1 eL):=E5
abbrev acM:List Str:=["self", "rules"]
theorem cI:VS acM eL "self" 0:=vq
theorem gU:VS acM eL "rules" 1:=vq
theorem adU(F:FunD K "__init__" "Order.__init__" eL f fd)(T:Txt P w K mg C)(G_has_rule:FO P w K mg base 1 "has_rule" ["rules", "word"] [] (spHas K))(G_jobs_of:FO P w K mg base 3 "jobs_of" ["rules"] [] (amL K))(G_check_letters:FO P w K mg base 2 "check_letters" ["rules", "jobs"] [] (ah3 K))(G_line_of:FO P w K mg base 4 "line_of" ["rules", "word"] [] (amM K))(G_steps_of:FO P w K mg base 2 "steps_of" ["rules", "letters", "marks"] [] (ah5 K)):FnOk P w K mg base D9 5 f fd ["self", "rules"] (rD C):=by
 refine F.ok adT ?_ ?_
 .rintro _ _ _ _ ⟨x,dx,a,ts,R,g,r1,r2,rfl,_⟩;rfl
 .intro cdv A outer s H vs Q E hr h;have B5:=hu_of hr;have hu:=hr.units;refine ⟨_,QSs.out (A5 (kB (K:=K) (vi cI) (D1 G_has_rule (hm hr) (qa_c (vi gU) (qa_c N7 A2))))
   (A5 (kB (K:=K) (vi cI) (D1 G_has_rule (hm hr) (qa_c (vi gU) (qa_c N7 A2))))
   (A5 (kB (K:=K) (vi cI) (D1 G_jobs_of (hm hr) (qa_c (vi gU) A2)))
   (A5 (U0 (D1 G_check_letters (hm hr) (qa_c (vi gU) (qa_c (aD (K:=K) (vi cI)) A2))))
   (A5 (kB (K:=K) (vi cI) (D1 G_line_of (hm hr) (qa_c (vi gU) (qa_c N7 A2))))
   (A5 (kB (K:=K) (vi cI) (D1 G_line_of (hm hr) (qa_c (vi gU) (qa_c N7 A2))))
   (A4 (kB (K:=K) (vi cI) (D1 G_steps_of (hm hr) (qa_c (vi gU) (qa_c (aD (K:=K) (vi cI)) (qa_c (aD (K:=K) (vi cI)) A2)))))))))))),?_⟩
  obtain ⟨x,dx,a,ts,R,g,r1,r2,rfl,hx,hR,pl,q⟩:=h;have lp:∀ (f:Str) (y:V) (fs:List (Str×V)),(putF f y fs).length<=fs.length+1:=uE;walk_at "rd";refine ⟨a,ts,R, "figures",rfl,hR,pl.len,fun H1 S1=>⟨C,dx,[],S1 _ _ hx,T.cl,T.na_figures,by decide,?_⟩⟩;generalize hF1:putF (Str.ofString "figures") (V.bl (hasW R (Str.ofString "figures"))) []=F1;have l1:F1.length<=1:=by rw [<- hF1];exact lp _ _ _
  have B2:SameBut x H (A0 H1 x (.ins C dx F1)):=(Same.but S1).at;have hx2:A0 H1 x (.ins C dx F1) x=some (.ins C dx F1):=A3;generalize A0 H1 x (.ins C dx F1)=H2 at B2 hx2;have hR2:=hR.but B2 hx;refine ⟨a,ts,R, "behind",rfl,hR2,pl.len,fun H3 S3=>⟨C,dx,F1,S3 _ _ hx2,T.cl,T.na_behind,by lia,?_⟩⟩;generalize hF2:putF (Str.ofString "behind") (V.bl (hasW R (Str.ofString "behind"))) F1=F2;have l2:F2.length<=2:=by rw [<- hF2];exact N4 (lp _ _ _) (by lia)
  have B4:SameBut x H2 (A0 H3 x (.ins C dx F2)):=(Same.but S3).at;have lV:A0 H3 x (.ins C dx F2) x=some (.ins C dx F2):=A3;generalize A0 H3 x (.ins C dx F2)=H4 at B4 lV;have hR4:=hR2.but B4 hx2;refine ⟨a,ts,R,g,rfl,hR4,pl.len,pl.plen,pl.nc,pl.nb,fun j H5 nj S5 hj=>?_⟩;have njx:j≠x:=fun e=>by rw [e,lV] at nj;cases nj
  generalize hF3:putF (Str.ofString "jobs") (V.ref j) F2=F3;have l3:F3.length<=3:=by rw [<- hF3];exact N4 (lp _ _ _) (by lia)
  have k3:F3.lookup (Str.ofString "jobs")=some (V.ref j):=by rw [<- hF3,O3,if_pos rfl]
  refine ⟨C,dx,F2,S5 _ _ lV,T.cl,T.na_jobs,by lia,?_⟩;rw [hF3];have B6:SameBut x H4 (A0 H5 x (.ins C dx F3)):=(Same.but S5).at;have pJ:A0 H5 x (.ins C dx F3) x=some (.ins C dx F3):=A3;have hj6:A0 H5 x (.ins C dx F3) j=some (.dK (C2 (keysP (C5 R)++V7 R) (jobG g))):=by rw [A7 njx];exact hj
  generalize A0 H5 x (.ins C dx F3)=H6 at B6 pJ hj6;have hR6:=hR4.but B6 lV;refine ⟨C,dx,F3,pJ,T.cl,T.na_jobs,_,k3,a,j,ts,R,_,_,rfl,hR6,hj6,fun z hz=>⟨pl.used hz,pl.zl z hz⟩,fun H7 S7=>?_⟩;refine ⟨a,ts,R, "row",r1,rfl,hR6.same S7,pl.len,N4 pl.f1 (by decide),pl.a1,fun ll L H8 nll S8 hll run cov=>?_⟩;have sX:=S8 _ _ (S7 _ _ pJ);have nlx:ll≠x:=fun e=>by rw [e,S7 _ _ pJ] at nll;cases nll
  have llen:L.length<=10000:=by
   rw [qU (kE _) run cov];exact N4 (mS _) pl.f1
  generalize hF4:putF (Str.ofString "letter_line") (V.ref ll) F3=F4;have l4:F4.length<=4:=by rw [<- hF4];exact N4 (lp _ _ _) (by lia)
  refine ⟨C,dx,F3,sX,T.cl,T.na_letter_line,by lia,?_⟩;rw [hF4];have B9:SameBut x H6 (A0 H8 x (.ins C dx F4)):=(Same.but (S7.trans S8)).at;have tH:A0 H8 x (.ins C dx F4) x=some (.ins C dx F4):=A3;have pK:A0 H8 x (.ins C dx F4) ll=some (.lst (L.map V.str)):=by rw [A7 nlx];exact hll
  generalize A0 H8 x (.ins C dx F4)=H9 at B9 tH pK;have hR9:=hR6.but B9 pJ;refine ⟨a,ts,R, "marks",r2,rfl,hR9,pl.len,N4 pl.f2 (by decide),pl.a2,fun ml M k5 nml S10 hml run2 cov2=>?_⟩;have nmx:ml≠x:=fun e=>by rw [e,tH] at nml;cases nml
  have mlen:M.length<=10000:=by
   rw [qU (kE _) run2 cov2];exact N4 (mS _) pl.f2
  generalize hF5:putF (Str.ofString "mark_line") (V.ref ml) F4=F5;have l5:F5.length<=5:=by rw [<- hF5];exact N4 (lp _ _ _) (by lia)
  refine ⟨C,dx,F4,S10 _ _ tH,T.cl,T.na_mark_line,by lia,?_⟩;rw [hF5];have B11:SameBut x H9 (A0 k5 x (.ins C dx F5)):=(Same.but S10).at;have l9:A0 k5 x (.ins C dx F5) x=some (.ins C dx F5):=A3;have x4:A0 k5 x (.ins C dx F5) ml=some (.lst (M.map V.str)):=by rw [A7 nmx];exact hml
  have x5:A0 k5 x (.ins C dx F5) ll=some (.lst (L.map V.str)):=by rw [A7 nlx];exact S10 _ _ pK
  generalize A0 k5 x (.ins C dx F5)=H11 at B11 l9 x4 x5;have hR11:=hR9.but B11 tH;have kl:F5.lookup (Str.ofString "letter_line")=some (V.ref ll):=by rw [<- hF5,O3,if_neg (by decide +kernel),<- hF4,O3,if_pos rfl]
  have km:F5.lookup (Str.ofString "mark_line")=some (V.ref ml):=by rw [<- hF5,O3,if_pos rfl]
  refine ⟨C,dx,F5,l9,T.cl,T.na_letter_line,_,kl,C,dx,F5,l9,T.cl,T.na_mark_line,_,km,a,ll,ml,ts,R,L,M,stepF R L M,rfl,hR11,nH pl ⟨run,cov⟩ ⟨run2,cov2⟩,x5,x4,pl.zl,pl.len,akl pl,N4 (aou pl ⟨run,cov⟩ ⟨run2,cov2⟩) (by decide),fun md H12 nmd fH hmd=>⟨C,dx,F5,fH _ _ l9,T.cl,T.na_made,by lia,?_⟩⟩;have nmdx:md≠x:=fun e=>by rw [e,l9] at nmd;cases nmd
  have B:SameBut x H (A0 H12 x (.ins C dx (putF (Str.ofString "made") (V.ref md) F5))):=((B2.trans B4).trans ((B6.trans B9).trans (B11.trans (Same.but fH)))).at;have fr:∀ {H':Hp} {y:Addr},SameBut x H H'->H' y=none->y≠x->H y=none:=fun {H' y} b n nx=>by
   cases e:H y with
   | none=>rfl
   | some o=>have:=b _ _ nx e;rw [n] at this;cases this
  have B44:=B2.trans B4;refine q j ll ml md L M _ (fr B44 nj njx) (fr ((B44.trans B6).trans (Same.but S7)) nll nlx) (fr ((B44.trans B6).trans B9) nml nmx) (fr (((B44.trans B6).trans B9).trans B11) nmd nmdx) B ⟨⟨dx,?_⟩,?_,?_,?_,hmd.mod (fH _ _ l9) (by intro xs e;cases e) nmdx,⟨run,cov⟩,⟨run2,cov2⟩⟩
  .rw [A3,<- hF5,<- hF4,<- hF3,<- hF2,<- hF1];rfl
  .rw [A7 njx];exact fH _ _ (B11 _ _ njx (B9 _ _ njx hj6))
  .rw [A7 nlx];exact fH _ _ x5
  .rw [A7 nmx];exact fH _ _ x4
theorem agL:FnScope ["self", "piece"] ["self", "piece"] (C1 eM):=E5
abbrev aeI:List Str:=["self", "piece"]
theorem vbH:VS aeI eM "self" 0:=vq
theorem vbI:VS aeI eM "piece" 1:=vq
theorem agM(F:FunD K "job" "Order.job" eM f fd)(T:Txt P w K mg C):FnOk P w K mg base D9 1 f fd ["self", "piece"] (wG C):=by
 refine F.ok agL ?_ ?_
 .rintro _ _ _ _ ⟨x,j,ll,ml,md,p,g,R,L,M,rfl,_⟩;rfl
 .intro cdv A outer s H vs Q E hr h;have B5:=hu_of hr;have hu:=hr.units;refine ⟨_,QSs.out (A4 (C7 (qW B5 (aD (K:=K) (vi vbH)) (vi vbI)))),?_⟩;obtain ⟨x,j,ll,ml,md,p,g,R,L,M,rfl,hO,q⟩:=h;obtain ⟨dx,h1⟩:=hO.ob;walk_at "rd";refine ⟨_,_,_,h1,T.cl,T.na_jobs,_,agp _ _ _ _ _ _,j,rfl,.inl ⟨_,.inl hO.jobs⟩,_,Z7 (k:=Sum.inr p) hO.jobs,?_⟩;rw [P8]
  by_cases hp:p∈keysP (C5 R)++V7 R
  .rw [if_pos hp] at q ⊢
   exact q
  .rw [if_neg hp] at q ⊢
   exact q
theorem sc_figures_at:FnScope ["text", "at", "end"] ["text", "at"] (C1 gL):=E5
abbrev xS:List Str:=["text", "at", "end"]
theorem xT:VS xS gL "text" 0:=vq
theorem vbK:VS xS gL "at" 1:=vq
theorem xU:VS xS gL "end" 2:=vq
theorem vbM:LS gL "end":=lq
theorem afP(F:FunD K "figures_at" "figures_at" gL f fd)(T:Txt P w K mg C)(G_is_figure:FO P w K mg base 1 "is_figure" ["sign"] [] kI):FnOk P w K mg base D9 2 f fd ["text", "at"] akp:=by
 refine F.ok sc_figures_at ?_ ?_
 .rintro _ _ _ _ ⟨z,pre,rest,rfl,_⟩;rfl
 .intro cdv A outer s H vs Q E hr h;have B5:=hu_of hr;have hu:=hr.units;refine ⟨_,QSs.out (A5 (C6 (n:=2) sc_figures_at.nd rfl vbM (vi vbK))
   (A5 (qP PassesOwn.never (QW.pt (eB (E1 q_lt (vi xU) (qe_cB (q_len (K:=K)) T.b_len Z8 (qa_c (vi xT) A2))) (gI (Q7 (K:=K) (D1 G_is_figure (hm hr) (qa_c (qe_ix (K:=K) (vi xT) (vi xU)) A2)))))) (A4 (vJ (n:=2) sc_figures_at.nd rfl vbM A1 vM)))
   (A4 (C7 (O6 (K:=K) (vi xT) (L9 (vi vbK)) (L9 (vi xU))))))),?_⟩
  obtain ⟨z,pre,rest,rfl,hz,O9,q⟩:=h;walk_at "rd";have A8:z.length=pre.length+rest.length:=by
   have:=congrArg Z3 O9
   simp [Str.length] at this ⊢
   lia
  have hsz:z.length<=sizeLine:=P6 (by lia);refine qR (fun m Y H2=>∃ (run left:List Nat),Y=[some (.str z),some (.int pre.length),some (.int ((pre++run).length:Nat))]/\H2=H/\rest=run++left/\rest.takeWhile figO=run++left.takeWhile figO/\m=left.length) rest.length ⟨[],rest,by simp,rfl,rfl,rfl,rfl⟩ ?_;rintro m Y H2 ⟨run,left,rfl,rfl,hr,htw,rfl⟩;have cZ:z.cps.toList=pre++(run++left):=by rw [O9,hr]
  have hrl:rest.length=run.length+left.length:=by rw [hr,D7]
  have ecut:cutS z (some (pre.length:Int)) (some (((pre++run).length:Nat):Int))=⟨run.toArray⟩:=by
   have:=wI (y:=run) (rest:=left) cZ
   rw [show (((pre++run).length:Nat):Int)=(pre.length:Int)+(run.length:Int) by rw [D7];lia];exact this
  have tI:(pre++run).length=pre.length+run.length:=D7;walk_at "rd";refine ⟨hsz,iteD (fun C4=>⟨hsz,?_⟩) fun zN=>⟨hsz,?_⟩⟩
  .cases left with
   | nil=>simp at hrl;lia
   | cons c l2=>
    refine ⟨c,?_,c,rfl,figO c,rfl,?_⟩
    .rw [cZ,<- V9];exact ako
    by_cases hf:figO c=true
    .rw [hf];refine iteT ⟨_,fun _ _ h=>h,l2.length,by simp,run++[c],by simp;lia,rfl,l2,by rw [hr];simp,?_,rfl⟩;rw [htw,List.takeWhile_cons_of_pos hf]
     simp
    .rw [bK] at hf;rw [hf];refine iteF ⟨hsz,?_⟩;rw [ecut];rw [htw,List.takeWhile_cons_of_neg (by simp [hf]),M3] at q;exact q
  .have iF:left=[]:=dF.mp (by lia);rw [htw,iF,List.takeWhile_nil,M3] at q;rw [ecut];exact q
theorem sc_part_at:FnScope ["known", "text", "at", "figures", "two"] ["known", "text", "at", "figures"] (C1 bZ):=E5
abbrev oB:List Str:=["known", "text", "at", "figures", "two"]
theorem vbN:VS oB bZ "known" 0:=vq
theorem oC:VS oB bZ "text" 1:=vq
theorem lA:VS oB bZ "at" 2:=vq
theorem vbQ:VS oB bZ "figures" 3:=vq
theorem vbR:VS oB bZ "two" 4:=vq
theorem vbS:LS bZ "two":=lq
theorem ai5(F:FunD K "part_at" "part_at" bZ f fd)(T:Txt P w K mg C)(G_is_figure:FO P w K mg base 1 "is_figure" ["sign"] [] kI)(G_figures_at:FO P w K mg base 2 "figures_at" ["text", "at"] [] akp):FnOk P w K mg base D9 3 f fd ["known", "text", "at", "figures"] akq:=by
 refine F.ok sc_part_at ?_ ?_
 .rintro _ _ _ _ ⟨d,z,g,pre,c,r,w,y,rfl,_⟩;rfl
 .intro cdv A outer s H vs Q E hr h;have B5:=hu_of hr;have hu:=hr.units;refine ⟨_,QSs.out (A5 (qs_if (QW.pt (eB (Q7 (K:=K) (vi vbQ)) (gI (Q7 (K:=K) (D1 G_is_figure (hm hr) (qa_c (qe_ix (K:=K) (vi oC) (vi lA)) A2)))))) (A4 (C7 (D1 G_figures_at (hm hr) (qa_c (vi oC) (qa_c (vi lA) A2))))) G4)
   (A5 (C6 (n:=4) sc_part_at.nd rfl vbS (O6 (K:=K) (vi oC) (L9 (vi lA)) (L9 (qe_op (q_add (K:=K)) (vi lA) A1))))
   (A5 (qs_if (E1 (q_in (K:=K) hu) (vi vbR) (vi vbN)) (A4 (C7 (vi vbR))) G4)
   (A5 (qs_if (E1 (q_in (K:=K) hu) (qe_ix (K:=K) (vi oC) (vi lA)) (vi vbN)) (A4 (C7 (qe_ix (K:=K) (vi oC) (vi lA)))) G4)
   (A4 kA))))),?_⟩
  obtain ⟨d,z,g,pre,c,r,w,y,rfl,hd,hz,O9,hp,q⟩:=h;have hsz:z.length<=sizeLine:=P6 (by lia);have ha:G2 z.cps.toList (pre.length:Int)=some c:=by rw [O9];exact ako
  rw [kN] at hp
  cases w with
  | false=>
   rw [Bool.false_and,if_neg L5] at hp;walk_at "rd"
   cases r with
   | nil=>
    rw [kL] at hp
    by_cases h1:one c∈g
    .rw [if_pos h1] at hp;obtain rfl:=Option.some.inj hp;rw [agx O9];refine ⟨hsz,rInR.d (Z7 (k:=Sum.inr (one c)) hd) ⟨_,rfl,?_⟩⟩;rw [kK,fV,decide_eq_true h1];exact iteT q
    .rw [if_neg h1] at hp;cases hp
   | cons e r=>
    rw [kM] at hp;have ec:cutS z (some (pre.length:Int)) (some ((pre.length:Int)+2))=two c e:=wI (y:=[c,e]) (rest:=r) O9;rw [ec];refine ⟨hsz,rInR.d (Z7 (k:=Sum.inr (two c e)) hd) ⟨_,rfl,?_⟩⟩;rw [kK,fV];refine iteD (fun h=>?_) fun h=>⟨hsz,c,ha,rInR.d (Z7 (k:=Sum.inr (one c)) hd) ⟨_,rfl,?_⟩⟩
    .rw [if_pos h] at hp;obtain rfl:=Option.some.inj hp;exact q
    .rw [if_neg h] at hp
     by_cases h1:one c∈g
     .rw [if_pos h1] at hp;obtain rfl:=Option.some.inj hp;rw [kK,fV,decide_eq_true h1];exact iteT ⟨hsz,c,ha,q⟩
     .rw [if_neg h1] at hp;cases hp
  | true=>
   rw [Bool.true_and] at hp;walk_at "rd";refine ⟨hsz,c,ha,c,rfl,figO c,rfl,?_⟩
   by_cases hf:figO c=true
   .rw [hf];rw [if_pos hf] at hp;obtain rfl:=Option.some.inj hp;exact iteT ⟨z,pre,c::r,rfl,hz,O9,q⟩
   rw [if_neg hf] at hp;rw [bK] at hf;rw [hf];refine iteF ?_
   cases r with
   | nil=>
    rw [kL] at hp
    by_cases h1:one c∈g
    .rw [if_pos h1] at hp;obtain rfl:=Option.some.inj hp;rw [agx O9];refine ⟨hsz,rInR.d (Z7 (k:=Sum.inr (one c)) hd) ⟨_,rfl,?_⟩⟩;rw [kK,fV,decide_eq_true h1];exact iteT q
    .rw [if_neg h1] at hp;cases hp
   | cons e r=>
    rw [kM] at hp;have ec:cutS z (some (pre.length:Int)) (some ((pre.length:Int)+2))=two c e:=wI (y:=[c,e]) (rest:=r) O9;rw [ec];refine ⟨hsz,rInR.d (Z7 (k:=Sum.inr (two c e)) hd) ⟨_,rfl,?_⟩⟩;rw [kK,fV];refine iteD (fun h=>?_) fun h=>⟨hsz,c,ha,rInR.d (Z7 (k:=Sum.inr (one c)) hd) ⟨_,rfl,?_⟩⟩
    .rw [if_pos h] at hp;obtain rfl:=Option.some.inj hp;exact q
    .rw [if_neg h] at hp
     by_cases h1:one c∈g
     .rw [if_pos h1] at hp;obtain rfl:=Option.some.inj hp;rw [kK,fV,decide_eq_true h1];exact iteT ⟨hsz,c,ha,q⟩
     .rw [if_neg h1] at hp;cases hp
theorem sc_cut:FnScope ["known", "text", "figures", "pieces", "parts", "at", "part"] ["known", "text", "figures"] (C1 s_cut):=E5
abbrev n_cut:List Str:=["known", "text", "figures", "pieces", "parts", "at", "part"]
theorem vbT:VS n_cut s_cut "known" 0:=vq
theorem vbU:VS n_cut s_cut "text" 1:=vq
theorem vbV:VS n_cut s_cut "figures" 2:=vq
theorem vbW:VS n_cut s_cut "pieces" 3:=vq
theorem vbX:VS n_cut s_cut "parts" 4:=vq
theorem vbY:VS n_cut s_cut "at" 5:=vq
theorem vbZ:VS n_cut s_cut "part" 6:=vq
theorem vb0:LS s_cut "pieces":=lq
theorem vb1:LS s_cut "parts":=lq
theorem vb2:LS s_cut "at":=lq
theorem vb3:LS s_cut "part":=lq
theorem am7(F:FunD K "cut" "cut" s_cut f fd)(T:Txt P w K mg C)(G_part_at:FO P w K mg base 3 "part_at" ["known", "text", "at", "figures"] [] akq):FnOk P w K mg base D9 4 f fd ["known", "text", "figures"] (rE K):=by
 refine F.ok sc_cut ?_ ?_
 .rintro _ _ _ _ ⟨a,z,ks,w,rfl,_⟩;rfl
 .intro cdv A outer s H vs Q E hr h;have B5:=hu_of hr;have hu:=hr.units;refine ⟨_,QSs.out (A5 (C6 (n:=3) sc_cut.nd rfl vb0 (qe_cT (ajY (K:=K) (calm:=true)) T.b_dict ajK (qa_c (b8  (U7:CompOk ["known", "text", "figures", "pieces", "parts", "at", "part"] (C1 s_cut).names _ ["piece"] 1 []) (P0 (K:=K) (vi vbT)) (fun _ _ _ _ _=>D3 (n:=0) (show List.Nodup (["piece"]:List Str) by decide +kernel) rfl (Or.inl rfl)) (fun _ _ _ _ _=>i8) (fun _ _ _ _ _=>(G3 (qa_c (qv 0) (qa_c qe_bl A2))))) A2)))
   (A5 (C6 (n:=4) sc_cut.nd rfl vb1 (R1 A2))
   (A5 (C6 (n:=5) sc_cut.nd rfl vb2 A1)
   (A5 (qP PassesOwn.never (E1 q_lt (vi vbY) (qe_cB (q_len (K:=K)) T.b_len Z8 (qa_c (vi vbU) A2))) (A5 (C6 (n:=6) sc_cut.nd rfl vb3 (D1 G_part_at (hm hr) (qa_c (vi vbW) (qa_c (vi vbU) (qa_c (vi vbY) (qa_c (vi vbV) A2))))))
   (A5 (U0 (qe_mB (K:=K) W1 g9 g8 i9 (vi vbX) (qa_c (vi vbZ) A2)))
   (A4 (vJ (n:=5) sc_cut.nd rfl vb2 (qe_cB (q_len (K:=K)) T.b_len Z8 (qa_c (vi vbZ) A2)) vM)))))
   (A4 (C7 (vi vbX))))))),?_⟩
  obtain ⟨a,z,ks,w,rfl,hS,k0,hz,hw,q⟩:=h;walk_at "rd";refine ⟨⟨_,hS⟩,compL (xs:=ks.map V.str) [] rfl (fun D i ys H4=>∃ ts:List Addr,ys=ts.map V.ref/\Paired (fun t k=>H4 t=some (.tup [V.str k,V.bl true])) ts (ks.take i)/\Same H H4) (fun D nD=>⟨[],rfl,.nil,Same.new nD⟩) (by rintro D i ys H4 nD _ ⟨_,_,_,S⟩;exact S.seq hS) ?_ ?_⟩
  .rintro D i x ys H4 nD hi hx ⟨ts,rfl,P,S⟩ hD hy;obtain ⟨k,hk,rfl⟩:=G9 hx;rw [A6] at hi;walk_at "rd";refine ⟨by decide,fun t nt=>⟨C8 hD nt,L1 (by lia),CW.put (by rw [A6];exact hi) hy ⟨ts++[t],by rw [C9];rfl,?_,Same.put (fun b o h=>C8 (S b o h) nt) nD⟩⟩⟩;have hDt:D≠t:=fun e=>by rw [e,nt] at hD;cases hD
   rw [q0,hk,Option.toList_some];refine Paired.snoc (N5 P fun r k h=>?_) (by rw [A7 hDt.symm,A3]);rw [A7 (fun e=>by rw [e,hD] at h;cases h)];exact C8 h nt
  rintro D ys H4 nD ⟨ts,rfl,P,S⟩ hD hy;rw [A6,L6] at P;have P2:Paired (fun t (kx:B3×V)=>B1 K H4 t [kV kx.1,kx.2]) ts (kvOf ks):=by
   clear hD hy nD S k0 hS q hw
   induction P with
   | nil=>exact .nil
   | cons h t ih=>exact .cons (.of h) ih
  refine ⟨rfl,D,ts,kvOf ks,rfl,.of hD,P2,fun d nd=>?_⟩;rw [show X4 [] (kvOf ks)=kvOf (G7 [] ks) from afc ks []];have S1:Same H (A0 H4 d (.dK (kvOf (G7 [] ks)))):=fun b o h=>C8 (S b o h) nd
  have hd:A0 H4 d (.dK (kvOf (G7 [] ks))) d=some (.dK (kvOf (G7 [] ks))):=A3;generalize A0 H4 d (.dK (kvOf (G7 [] ks)))=H5 at S1 hd;have hcg:∀ l,cutF w (G7 [] ks) l=cutF w ks l:=aiR fun x=>by rw [aG];simp
  generalize G7 [] ks=g at hd hcg;refine fun p np=>qR (fun m Y H6=>∃ (pre rest:List Nat) (ps:List Str) (u:Option V),Y=[some (.ref a),some (.str z),some (.bl w),some (.ref d),some (.ref p),some (.int pre.length),u]/\Same H5 H6/\H6 p=some (.lst (ps.map V.str))/\z.cps.toList=pre++rest/\(cutF w g z.cps.toList).1=pre.length+(cutF w g rest).1/\(cutF w g z.cps.toList).2=ps++(cutF w g rest).2/\ps.length<=pre.length/\m=rest.length) z.cps.toList.length
   ⟨[],z.cps.toList,[],none,rfl,Same.new np,A3,rfl,by simp,rfl,F7 _,rfl⟩ ?_
  rintro m Y H6 ⟨pre,rest,ps,u,rfl,S6,h6,O9,iQ,Q3,X9,rfl⟩;have A8:z.length=pre.length+rest.length:=by
   have:=congrArg Z3 O9
   simp [Str.length] at this ⊢
   lia
  walk_at "rd";refine ⟨P6 (by lia),iteD (fun C4=>?_) fun zN=>?_⟩
  .cases rest with
   | nil=>simp at A8;lia
   | cons c r=>
    cases hy:partF w g (c::r) with
    | none=>
     exfalso
     rw [nJ hy] at iQ;have hw2:=hw;unfold aJ at hw2;rw [<- hcg,iQ] at hw2;simp at A8 hw2;lia
    | some y=>
     refine ⟨_,fun _ _ h=>h,d,z,g,pre,c,r,w,y,rfl,S6 _ _ hd,hz,O9,hy,?_⟩;obtain ⟨rest',e1,e2,e3⟩:=kO hy;rw [e2] at iQ Q3;have el:y.cps.toList.length=y.length:=by simp [Str.length]
     have erl:(c::r).length=y.length+rest'.length:=by rw [e1,D7,el]
     refine ⟨V5 h6,appOk h6 (by rw [A6];exact L1 (by lia)) ?_⟩;walk_at "rd";refine ⟨P6 (by lia),rest'.length,by rw [J9] at erl;lia,pre++y.cps.toList,by rw [D7,el];lia,S6.put np,rest',ps++[y],by rw [A3,C9];rfl,O9.trans (by rw [V9];exact congrArg (pre++·) e1),by rw [D7,el,iQ];dsimp only;lia,by rw [Q3,V9];rfl,by rw [D7,D7,el,Z0];lia,rfl⟩
  .have hr:rest=[]:=dF.mp (by lia);rw [hr] at iQ Q3;refine q p H6 (S1.free np) (S1.trans S6) ?_;rw [h6,<- hcg,Q3];show some (HO.lst (ps.map V.str))=some (HO.lst ((ps++[]).map V.str));rw [M3]
theorem aeQ:FnScope ["self"] ["self"] (C1 gM):=E5
abbrev afQ:List Str:=["self"]
theorem vb4:VS afQ gM "self" 0:=vq
theorem aeR(F:FunD K "known" "Order.known" gM f fd)(T:Txt P w K mg C):FnOk P w K mg base D9 1 f fd ["self"] (wK C):=by
 refine F.ok aeQ ?_ ?_
 .rintro _ _ _ _ ⟨x,j,ll,ml,md,g,R,L,M,rfl,_⟩;rfl
 .intro cdv A outer s H vs Q E hr h;have B5:=hu_of hr;have hu:=hr.units;refine ⟨_,QSs.out (A4 (C7 (qe_cT (mU (K:=K) (calm:=true)) T.b_list jY (qa_c (aD (K:=K) (vi vb4)) A2)))),?_⟩;obtain ⟨x,j,ll,ml,md,g,R,L,M,rfl,hO,q⟩:=h;obtain ⟨dx,h1⟩:=hO.ob;walk_at "rd";refine ⟨_,_,_,h1,T.cl,T.na_jobs,_,agp _ _ _ _ _ _,?_⟩;walk_at "rd";refine rListR.d (.of hO.jobs) fun l nl=>?_
  rw [show (C2 (keysP (C5 R)++V7 R) (jobG g)).map (fun kv=>kV kv.1)=(G1 R).map V.str by unfold C2 G1;rw [Q6];rfl];exact q l nl
theorem aeS:FnScope ["self", "piece"] ["self", "piece"] (C1 eN):=E5
abbrev adE:List Str:=["self", "piece"]
theorem vb5:VS adE eN "self" 0:=vq
theorem vb6:VS adE eN "piece" 1:=vq
theorem aeT(F:FunD K "steps" "Order.steps" eN f fd)(T:Txt P w K mg C):FnOk P w K mg base D9 1 f fd ["self", "piece"] (nM C):=by
 refine F.ok aeS ?_ ?_
 .rintro _ _ _ _ ⟨x,j,ll,ml,md,p,g,R,L,M,rfl,_⟩;rfl
 .intro cdv A outer s H vs Q E hr h;have B5:=hu_of hr;have hu:=hr.units;refine ⟨_,QSs.out (A4 (C7 (alP B5 (aD (K:=K) (vi vb5)) (vi vb6) (G3 A2)))),?_⟩;obtain ⟨x,j,ll,ml,md,p,g,R,L,M,rfl,hO,q⟩:=h;obtain ⟨dx,h1⟩:=hO.ob;obtain ⟨ad,a1,a2⟩:=hO.made;walk_at "rd";refine ⟨_,_,_,h1,T.cl,T.na_made,_,akr _ _ _ _ _ _,md,rfl,.inl ⟨_,.inl a1⟩,fun e ne=>⟨_,Z7 (k:=Sum.inr p) (C8 a1 ne),?_⟩⟩;rw [P8];have S:Same H (A0 H e (.tup [])):=Same.new ne
  by_cases hp:p∈G7 [] (allKs R L M)
  .rw [if_pos hp];exact q _ _ S ((a2 p hp).same S)
  .rw [if_neg hp];refine q _ _ S ⟨[],A3,?_⟩;rw [aiS fun h=>hp ((aG _ _ _).mpr (.inr h))];exact .nil
theorem aht:FnScope ["order", "text"] ["order", "text"] (C1 nP):=E5
abbrev afl:List Str:=["order", "text"]
theorem vb7:VS afl nP "order" 0:=vq
theorem vb8:VS afl nP "text" 1:=vq
theorem ahu(F:FunD K "parts_of" "parts_of" nP f fd)(T:Txt P w K mg C)(G3_cut:FO P w K mg base 4 "cut" ["known", "text", "figures"] [] (rE K))(G_Order_known:MO P w K mg base 1 C "known" ["self"] (wK C)):FnOk P w K mg base D9 5 f fd ["order", "text"] (ah8 C):=by
 refine F.ok aht ?_ ?_
 .rintro _ _ _ _ ⟨x,j,ll,ml,md,z,g,R,L,M,rfl,_⟩;rfl
 .intro cdv A outer s H vs Q E hr h;have B5:=hu_of hr;have hu:=hr.units;refine ⟨_,QSs.out (A4 (C7 (D1 G3_cut (hm hr) (qa_c (al2 (vi vb7) G_Order_known (hm hr)) (qa_c (vi vb8) (qa_c (aD (K:=K) (vi vb7)) A2)))))),?_⟩;obtain ⟨x,j,ll,ml,md,z,g,R,L,M,rfl,hO,hk,hz,hw,q⟩:=h;obtain ⟨dx,h1⟩:=hO.ob;walk_at "rd";refine ⟨_,_,h1,nB _ _ _ _ _ _ (by decide +kernel),x,j,ll,ml,md,g,R,L,M,rfl,hO,fun l nl=>?_⟩;have S:Same H (A0 H l (.lst ((G1 R).map V.str))):=Same.new nl;exact ⟨_,_,_,S _ _ h1,T.cl,T.na_figures,_,ad5 _ _ _ _ _ _,l,z,G1 R,_,rfl,.of A3,hk,hz,hw,fun l2 H2 n2 S2 h2=>q l2 H2 (S.free n2) (S.trans S2) h2⟩
theorem ahv:FnScope ["order", "part"] ["order", "part"] (C1 nQ):=E5
abbrev afm:List Str:=["order", "part"]
theorem vb9:VS afm nQ "order" 0:=vq
theorem xV:VS afm nQ "part" 1:=vq
theorem ahw(F:FunD K "steps_by" "steps_by" nQ f fd)(T:Txt P w K mg C)(G_is_figure:FO P w K mg base 1 "is_figure" ["sign"] [] kI)(G_Order_steps:MO P w K mg base 1 C "steps" ["self", "piece"] (nM C)):FnOk P w K mg base D9 2 f fd ["order", "part"] (agy C):=by
 refine F.ok ahv ?_ ?_
 .rintro _ _ _ _ ⟨x,j,ll,ml,md,c,r,y,g,R,L,M,rfl,_⟩;rfl
 .intro cdv A outer s H vs Q E hr h;have B5:=hu_of hr;have hu:=hr.units;refine ⟨_,QSs.out (A5 (qs_if (QW.pt (eB (Q7 (K:=K) (aD (K:=K) (vi vb9))) (gI (Q7 (K:=K) (D1 G_is_figure (hm hr) (qa_c (qe_ix (K:=K) (vi xV) A1) A2)))))) (A4 (C7 (G3 (qa_c (G3 (qa_c (gG T.g_FIGURES) (qa_c (qe_cT amQ T.b_int amH (qa_c (vi xV) A2)) (qa_c A1 A2)))) A2)))) G4)
   (A4 (C7 (qV (vi vb9) G_Order_steps (hm hr) (qa_c (vi xV) A2))))),?_⟩
  obtain ⟨x,j,ll,ml,md,c,r,y,g,R,L,M,rfl,hy,P5,hO,hf,q⟩:=h;obtain ⟨dx,h1⟩:=hO.ob;have hhd:y.cps.toList.headD 0=c:=by rw [hy];rfl
  walk_at "rd";refine ⟨_,_,_,h1,T.cl,T.na_figures,_,ad5 _ _ _ _ _ _,?_⟩;walk_at "rd";have fin:stepY R L M y=stepF R L M y->∃ x_5 x_6,H x=some (HO.ins C x_5 x_6)/\dL (Str.ofString "steps") x_6=none/\nM C [V.ref x,V.str y] H Q E0:=fun e=>⟨_,_,h1,nB _ _ _ _ _ _ (by decide +kernel),x,j,ll,ml,md,y,g,R,L,M,rfl,hO,by rw [<- e];exact q⟩
  by_cases hw:hasW R "figures"=true
  .rw [if_pos hw];refine ⟨P6 (by lia),c,by rw [hy];exact L3 _ _,c,rfl,?_⟩
   by_cases hc:figO c=true
   .have hsy:stepY R L M y=[(1,((mI y.cps.toList:Nat):Int),0)]:=by unfold stepY;rw [hw,hhd,hc];rfl
    have hAD:=hf hw (by rw [hhd];exact hc);rw [hc];walk_at "rd";refine ⟨hAD,by rw [<- lenL,hy];simp,P5,by decide,fun p np=>⟨by decide,fun p1 W8=>?_⟩⟩;refine q p1 _ ((Same.new np).trans (Same.new W8)) ?_;rw [hsy];exact StepAt.one A3 (C8 A3 W8)
   .rw [bK] at hc;rw [hc];walk_at "rd";exact fin (by unfold stepY;rw [hhd,hc,Bool.and_false,if_neg L5])
  .rw [if_neg hw];rw [bK] at hw;exact fin (by rw [ah9 hw])
theorem ahx:FnScope ["made", "place"] ["made", "place"] (C1 nR):=E5
abbrev afn:List Str:=["made", "place"]
theorem xW:VS afn nR "made" 0:=vq
theorem vcc:VS afn nR "place" 1:=vq
theorem ahy(F:FunD K "add_mark" "add_mark" nR f fd)(T:Txt P w K mg C):FnOk P w K mg base D9 1 f fd ["made", "place"] (agz K):=by
 refine F.ok ahx ?_ ?_
 .rintro _ _ _ _ ⟨l,p,H0,es,U,rfl,_⟩;rfl
 .intro cdv A outer s H vs Q E hr h;have B5:=hu_of hr;have hu:=hr.units;refine ⟨_,QSs.out (eD (qs_if (dZ (Q7 (K:=K) (vi xW))) (A4 (U0 (qe_mB (K:=K) W1 g9 g8 i9 (vi xW) (qa_c (G3 (qa_c (gG T.g_MARK) (qa_c A1 (qa_c (R1 A2) (qa_c A1 A2))))) A2)))) G4)
   (A4 (U0 (qe_mB (K:=K) W1 g9 g8 i9 (qe_ix (K:=K) (qe_ix (K:=K) (vi xW) (qe_un q_neg A1)) A1) (qa_c (vi vcc) A2))))),?_⟩
  obtain ⟨l,p,H0,es,U,rfl,J,hU,hM,q⟩:=h;walk_at "rd";refine mid (fun Y H1=>∃ (es':List (Addr×Addr)) (e:Addr×Addr) (U':List G5) (u:G5),Y=[some (.ref l),some (.int p)]/\UnI H0 H1 l (es'++[e]) (U'++[u])/\addM U p=U'++[(u.1,u.2.1,u.2.2.1++[p],u.2.2.2)]/\u.2.2.1.length<=10000) ?_ ?_
  .walk_at "rd";refine ⟨_,vN J.top,?_⟩
   by_cases he:es=[]
   .subst he;have hU0:=aiV J.row;subst hU0;simp only [List.map_nil,List.isEmpty_nil,Bool.not_true,Bool.not_false,if_true];refine ⟨V5 J.top,fun m nm=>⟨by decide,fun t nt=>appOk ((Same.new nm).trans (Same.new nt) _ _ J.top) (by decide) ⟨[],(t,m),[],(0,0,[],0),?_,rfl,by decide⟩⟩⟩;exact J.push nm nt
   .obtain ⟨es',e,rfl⟩:=wN he;have hUn:U≠[]:=fun h=>by subst h;have:=Paired.length J.row;simp at this
    obtain ⟨U',u,rfl⟩:=wN hUn;have G8:((es'++[e]).map fun e=>V.ref e.1).isEmpty=false:=by simp
    rw [G8];simp only [Bool.not_false,Bool.not_true,mF,if_false];refine ⟨es',e,U',u,J,?_,hM u (by simp)⟩;unfold addM;rw [List.getLast?_append,List.getLast?_singleton]
    simp
  rintro Y H1 ⟨es',e,U',u,rfl,J1,ea,hul⟩;obtain ⟨hr,hu⟩:=vH J1.row;have V0:G2 ((es'++[e]).map fun e=>V.ref e.1) (-1)=some (V.ref e.1):=by rw [C9];exact alj _ _
  walk_at "rd";refine ⟨_,.inl (.of J1.top),_,V0,?_⟩;walk_at "rd";refine ⟨_,.inr (.of hu.1),V.ref e.2,K9 (j:=2) rfl,V5 hu.2,appOk hu.2 (by rw [A6];exact L1 (by lia)) ?_⟩;refine q (es'++[e]) _ ?_;rw [ea];exact J1.mark p
theorem sc_add_part:FnScope ["order", "made", "part", "kind", "worth", "case"] ["order", "made", "part"] (C1 n9):=E5
abbrev lB:List Str:=["order", "made", "part", "kind", "worth", "case"]
theorem vcd:VS lB n9 "order" 0:=vq
theorem vce:VS lB n9 "made" 1:=vq
theorem vcf:VS lB n9 "part" 2:=vq
theorem vcg:VS lB n9 "kind" 3:=vq
theorem vch:VS lB n9 "worth" 4:=vq
theorem vci:VS lB n9 "case" 5:=vq
theorem vcj:LS n9 "kind":=lq
theorem vck:LS n9 "worth":=lq
theorem vcl:LS n9 "case":=lq
theorem ahz(F:FunD K "add_part" "add_part" n9 f fd)(T:Txt P w K mg C)(G_steps_by:FO P w K mg base 2 "steps_by" ["order", "part"] [] (agy C))(G_add_mark:FO P w K mg base 1 "add_mark" ["made", "place"] [] (agz K)):FnOk P w K mg base D9 3 f fd ["order", "made", "part"] (agA C):=by
 refine F.ok sc_add_part ?_ ?_
 .rintro _ _ _ _ ⟨x,l,j,ll,ml,md,c,r,y,g,R,L,M,H0,es,U,rfl,_⟩;rfl
 .intro cdv A outer s H vs Q E hr h;have B5:=hu_of hr;have hu:=hr.units;refine ⟨_,QSs.out (A4 (M7 PassesOwn.never (eC (K:=K) (D1 G_steps_by (hm hr) (qa_c (vi vcd) (qa_c (vi vcf) A2)))) (aF (K:=K) (n:=3) (P7 ((D3 (n:=3) sc_add_part.nd rfl vcj (.inl rfl))) (P7 ((D3 (n:=4) sc_add_part.nd rfl vck (.inl rfl))) (P7 ((D3 (n:=5) sc_add_part.nd rfl vcl (.inl rfl))) aE)))) (A4 (qs_if (E1 (q_eq (K:=K) hu) (vi vcg) (gG T.g_MARK)) (A4 (U0 (D1 G_add_mark (hm hr) (qa_c (vi vce) (qa_c (vi vch) A2))))) (A4 (U0 (qe_mB (K:=K) W1 g9 g8 i9 (vi vce) (qa_c (G3 (qa_c (vi vcg) (qa_c (vi vch) (qa_c (R1 A2) (qa_c (vi vci) A2))))) A2)))))))),?_⟩;obtain ⟨x,l,j,ll,ml,md,c,r,y,g,R,L,M,H0,es,U,rfl,hy,P5,hO,hf,J,hs,hU,hM,q⟩:=h;walk_at "rd";refine ⟨x,j,ll,ml,md,c,r,y,g,R,L,M,rfl,hy,P5,hO.same J.same,hf,fun a H1 S1 Y7=>?_⟩;obtain ⟨ts,e1,e2⟩:=Y7.ex;obtain ⟨H0',B0,J0,tp⟩:=(J.more S1).cut;have e1':=tp _ _ e1;have e2':=N5 e2 fun t s (e:H1 t=some (tupT s))=>(show H0' t=some (tupT s) from tp _ _ e)
  generalize stepY R L M y=ss at hs e2 e2' q;refine ⟨a,rfl,⟨_,.of e1⟩,forT (xs:=ts.map V.ref) (fun i Y H2=>∃ (u v w:Option V) (es:List (Addr×Addr)),Y=[some (.ref x),some (.ref l),some (.str y),u,v,w]/\UnI H0' H2 l es ((ss.take i).foldl addS U)) ⟨none,none,none,es,rfl,J0⟩ (by rintro i Y H2 _ ⟨_,_,_,_,_,h⟩;exact .of (h.same _ _ e1')) ?_ ?_⟩
  .rintro i v Y H2 hv ⟨u1,u2,u3,es,rfl,J2⟩;obtain ⟨t,ht,rfl⟩:=G9 hv;obtain ⟨s',sU,bC⟩:=Paired.at e2' ht;have hi:i<ss.length:=(E9.mp sU).1;have f8:=wL (ss.take i) U;have cQ:=wM (ss.take i) U 9000 hM;rw [L4] at f8 cQ;have et:(ss.take (i+1)).foldl addS U=addS ((ss.take i).foldl addS U) s':=by rw [M0 sU,y3];rfl
   have htt:B1 K H2 t [V.int s'.1,V.int s'.2.1,V.int s'.2.2]:=.of (J2.same _ _ bC);walk_at "rd";refine ⟨_,htt,rfl,_,_,rfl,_,_,rfl,_,_,rfl,rfl,?_⟩;walk_at "rd";rw [et];generalize (ss.take i).foldl addS U=U2 at J2 f8 cQ;refine iteD (fun e=>⟨l,s'.2.1,H0',es,U2,rfl,J2,by lia,fun u hu=>by have:=cQ u hu;lia,fun es' H3 J3=>?_⟩) fun e=>⟨V5 J2.top,fun m nm=>⟨by decide,fun t2 iU=>appOk ((Same.new nm).trans (Same.new iU) _ _ J2.top) (by rw [A6,Paired.length J2.row];exact L1 (by lia)) ?_⟩⟩
   .unfold addS;rw [if_pos e];exact ⟨es',J3⟩
   .unfold addS;rw [if_neg e];exact ⟨_,J2.push nm iU⟩
  rintro Y H2 ⟨u1,u2,u3,es,rfl,J2⟩;rw [A6,Paired.length e2,L6] at J2;exact q es H2 (J2.base B0)
theorem sc_units:FnScope ["order", "text", "made", "part"] ["order", "text"] (C1 aN):=E5
abbrev rW:List Str:=["order", "text", "made", "part"]
theorem vcm:VS rW aN "order" 0:=vq
theorem vcn:VS rW aN "text" 1:=vq
theorem vco:VS rW aN "made" 2:=vq
theorem vcp:VS rW aN "part" 3:=vq
theorem vcq:LS aN "made":=lq
theorem vcr:LS aN "part":=lq
theorem amu(F:FunD K "units" "units" aN f fd)(T:Txt P w K mg C)(G_parts_of:FO P w K mg base 5 "parts_of" ["order", "text"] [] (ah8 C))(G_add_part:FO P w K mg base 3 "add_part" ["order", "made", "part"] [] (agA C)):FnOk P w K mg base D9 6 f fd ["order", "text"] (aks C):=by
 refine F.ok sc_units ?_ ?_
 .rintro _ _ _ _ ⟨x,j,ll,ml,md,z,g,R,L,M,rfl,_⟩;rfl
 .intro cdv A outer s H vs Q E hr h;have B5:=hu_of hr;have hu:=hr.units;refine ⟨_,QSs.out (A5 (C6 (n:=2) sc_units.nd rfl vcq (R1 A2))
   (A5 (M7 PassesOwn.never (P0 (K:=K) (D1 G_parts_of (hm hr) (qa_c (vi vcm) (qa_c (vi vcn) A2)))) (D3 (n:=3) sc_units.nd rfl vcr (.inl rfl)) (A4 (U0 (D1 G_add_part (hm hr) (qa_c (vi vcm) (qa_c (vi vco) (qa_c (vi vcp) A2)))))))
   (A4 (C7 (b8  (U7:CompOk ["order", "text", "made", "part"] (C1 aN).names _ ["kind", "worth", "marks", "case"] 4 []) (P0 (K:=K) (vi vco)) (fun _ _ _ _ _=>(aF (K:=K) (n:=4) (P7 (D3 (n:=0) (show List.Nodup (["kind", "worth", "marks", "case"]:List Str) by decide +kernel) rfl (Or.inl rfl)) (P7 (D3 (n:=1) (show List.Nodup (["kind", "worth", "marks", "case"]:List Str) by decide +kernel) rfl (Or.inl rfl)) (P7 (D3 (n:=2) (show List.Nodup (["kind", "worth", "marks", "case"]:List Str) by decide +kernel) rfl (Or.inl rfl)) (P7 (D3 (n:=3) (show List.Nodup (["kind", "worth", "marks", "case"]:List Str) by decide +kernel) rfl (Or.inl rfl)) aE)))))) (fun _ _ _ _ _=>i8) (fun _ _ _ _ _=>(G3 (qa_c (qv 0) (qa_c (qv 1) (qa_c (qe_cT (mV (K:=K)) T.b_tuple gF (qa_c (qv 2) A2)) (qa_c (qv 3) A2))))))))))),?_⟩
  obtain ⟨x,j,ll,ml,md,z,g,R,L,M,rfl,hO,hk,hz,hw,hs,q⟩:=h;have hf:=aia (w:=hasW R "figures") (g:=G1 R) _ z.cps.toList (C3 _);have G8:=akt (w:=hasW R "figures") (g:=G1 R) _ z.cps.toList (C3 _);have tJ:=(wJ (w:=hasW R "figures") (g:=G1 R) _ z.cps.toList (C3 _)).2.1;rw [lenL] at tJ;have x6:=agC (w:=hasW R "figures") (g:=G1 R) _ z.cps.toList (C3 _);rw [lenL] at x6;walk_at "rd";intro l nl;have S1:Same H (A0 H l (.lst [])):=Same.new nl;have k7:A0 H l (.lst []) l=some (.lst []):=A3;generalize A0 H l (.lst [])=H1 at S1 k7;refine ⟨x,j,ll,ml,md,z,g,R,L,M,rfl,hO.same S1,hk,by lia,hw,fun a H2 na S2 ha=>?_⟩;generalize (cutF (hasW R "figures") (G1 R) z.cps.toList).2=ps at ha hf G8 tJ x6 q;have nal:a≠l:=fun e=>by rw [e,k7] at na;cases na
  have C0:UnI (cutH H2 [l]) H2 l [] []:=⟨S2 _ _ k7,.nil,by simp,fun b hb=>by unfold cutH;exact if_pos (by simpa using hb),agB _ _⟩
  have S0:Same H (cutH H2 [l]):=fun b o hb=>by
   unfold cutH;rw [if_neg (fun e=>by rw [E4.mp e,nl] at hb;cases hb)];exact S2 _ _ (S1 _ _ hb)
  have ha0:cutH H2 [l] a=some (.lst (ps.map V.str)):=by
   unfold cutH;rw [if_neg (fun e=>nal (E4.mp e))];exact ha
  have hO0:=hO.same S0;generalize cutH H2 [l]=H0 at C0 S0 ha0 hO0;refine ⟨a,rfl,⟨_,.of ha⟩,forL (xs:=ps.map V.str) (fun i Y H3=>∃ (u:Option V) (es:List (Addr×Addr)),Y=[some (.ref x),some (.str z),some (.ref l),u]/\UnI H0 H3 l es (Q0 (stepY R L M) (ps.take i))) ⟨none,[],rfl,C0⟩ (by rintro i Y H3 _ ⟨_,_,_,h⟩;exact .of (h.same _ _ ha0)) ?_ ?_⟩
  .rintro i v Y H3 hv ⟨u,es,rfl,J⟩;obtain ⟨y,hy,rfl⟩:=G9 hv;have hi:i<ps.length:=(E9.mp hy).1;have hym:=K8 hy;obtain ⟨B5,eZ⟩:=wP (S:=stepY R L M) hs (ps.take i);rw [L4] at B5 eZ;obtain ⟨c,r,hcr⟩:∃ c r,y.cps.toList=c::r:=by
    have:=G8 y hym
    rw [<- lenL] at this;cases e:y.cps.toList with
    | nil=>rw [e] at this;simp at this
    | cons c r=>exact ⟨c,r,rfl⟩
   have P5:y.length<=640:=by have:=x6 y hym;lia
   walk_at "rd";refine ⟨x,l,j,ll,ml,md,c,r,y,g,R,L,M,H0,es,_,rfl,hcr,P5,hO0,hf y hym,J,by have:=hs y;lia,by lia,fun v hv=>by have:=eZ v hv;lia,fun es' H4 J4=>?_⟩;rw [<- ahd hy] at J4;exact ⟨es',J4⟩
  rintro Y H3 ⟨u,es,rfl,J⟩;rw [A6,L6] at J;obtain ⟨B5,eZ⟩:=wP (S:=stepY R L M) hs ps;have k8:=Paired.length J.row;generalize Q0 (stepY R L M) ps=U at J B5 eZ k8 q;walk_at "rd";refine ⟨⟨_,.of J.top⟩,arn (xs:=es.map fun e=>V.ref e.1) [] rfl (fun D i ys H4=>∃ fs:List (Addr×Addr),ys=fs.map (fun e=>V.ref e.1)/\Same H3 H4/\Paired (fun e (u:G5)=>H4 e.1=some (.tup [.int u.1,.int u.2.1,.ref e.2,.int u.2.2.2])/\H4 e.2=some (.tup (u.2.2.1.map V.int))) fs (U.take i)) (fun D nD=>⟨[],rfl,Same.new nD,.nil⟩) (by rintro D i ys H4 nD _ ⟨_,_,S,_⟩;exact .of (S _ _ J.top)) ?_ ?_⟩
  .rintro D i v ys H4 nD hi hv ⟨fs,rfl,S4,P⟩ hD P5;obtain ⟨e,he,rfl⟩:=G9 hv;obtain ⟨w,hw,fM⟩:=Paired.at J.row he;have cU:fs.length<=7500:=by
    have:=Paired.length P
    rw [L4] at this;lia
   refine ⟨e.1,_,_,_,_,rfl,.of (S4 _ _ fM.1),?_⟩;walk_at "rd";refine rTupR.l (.of (S4 _ _ fM.2)) fun m nm=>⟨by decide,fun t nt=>?_⟩
   have S5:Same H4 (A0 (A0 H4 m (.tup (w.2.2.1.map V.int))) t (.tup [V.int w.1,V.int w.2.1,V.ref m,V.int w.2.2.2])):=(Same.new nm).trans (Same.new nt);have hm5:A0 (A0 H4 m (.tup (w.2.2.1.map V.int))) t (.tup [V.int w.1,V.int w.2.1,V.ref m,V.int w.2.2.2]) m=some (.tup (w.2.2.1.map V.int)):=C8 A3 nt;have ht5:A0 (A0 H4 m (.tup (w.2.2.1.map V.int))) t (.tup [V.int w.1,V.int w.2.1,V.ref m,V.int w.2.2.2]) t=some (.tup [V.int w.1,V.int w.2.1,V.ref m,V.int w.2.2.2]):=A3;generalize A0 (A0 H4 m (.tup (w.2.2.1.map V.int))) t (.tup [V.int w.1,V.int w.2.1,V.ref m,V.int w.2.2.2])=H5 at S5 hm5 ht5;have hD5:=S5 _ _ hD;have dn:∀ {b:Addr} {xs:List V},H5 b=some (.tup xs)->b≠D:=fun h q=>by rw [q,hD5] at h;cases h
   refine ⟨hD5,by rw [A6];exact L1 (by lia),hi,by rw [D7,Z0];lia,⟨_,_,_,_,rfl⟩,fs++[(t,m)],by rw [C9];rfl,(S4.trans S5).put nD,?_⟩;rw [M0 hw];refine Paired.snoc (N5 P fun f w h=>⟨?_,?_⟩) ⟨?_,?_⟩
   .rw [A7 (dn (S5 _ _ h.1))];exact S5 _ _ h.1
   .rw [A7 (dn (S5 _ _ h.2))];exact S5 _ _ h.2
   .rw [A7 (dn ht5)];exact ht5
   .rw [A7 (dn hm5)];exact hm5
  rintro D ys H4 nD ⟨fs,rfl,S4,P⟩ hD P5;rw [A6,k8,L6] at P;have SS:Same H H3:=S0.trans J.same;exact q D H4 (SS.free nD) (SS.trans S4) ⟨fs,hD,P⟩
theorem sc_looks:FnScope ["order", "text", "made", "marks"] ["order", "text"] (C1 o0):=E5
abbrev rX:List Str:=["order", "text", "made", "marks"]
theorem vcs:VS rX o0 "order" 0:=vq
theorem vct:VS rX o0 "text" 1:=vq
theorem xX:VS rX o0 "made" 2:=vq
theorem vcv:VS rX o0 "marks" 3:=vq
theorem vcw:LS o0 "made":=lq
theorem vcx:LS o0 "marks":=lq
theorem amv(F:FunD K "looks" "looks" o0 f fd)(T:Txt P w K mg C)(G_units:FO P w K mg base 6 "units" ["order", "text"] [] (aks C)):FnOk P w K mg base D9 7 f fd ["order", "text"] (akz C):=by
 refine F.ok sc_looks ?_ ?_
 .rintro _ _ _ _ ⟨x,j,ll,ml,md,z,g,R,L,M,rfl,_⟩;rfl
 .intro cdv A outer s H vs Q E hr h;have B5:=hu_of hr;have hu:=hr.units;refine ⟨_,QSs.out (A5 (C6 (n:=2) sc_looks.nd rfl vcw (D1 G_units (hm hr) (qa_c (vi vcs) (qa_c (vi vct) A2))))
   (A5 (mT (n:=3) sc_looks.nd rfl vcx (U7:CompOk ["order", "text", "made", "marks"] (C1 o0).names _ ["unit"] 1 []) (P0 (K:=K) (vi xX)) (fun _ _ _ _ _=>D3 (n:=0) (show List.Nodup (["unit"]:List Str) by decide +kernel) rfl (Or.inl rfl)) (fun _ _ _ _ _=>i8) (fun _ _ _ _ _=>(qe_ix (K:=K) (qv 0) A1)))
   (eD (qs_if (Q7 (K:=K) (aD (K:=K) (vi vcs))) (A4 (U0 (qe_m0 (K:=K) W1 PySem.F.slot_list_reverse PySem.F.type_list_reverse ajT (vi vcv)))) G4)
   (A4 (C7 (R1 (qa_c (b8  (U7:CompOk ["order", "text", "made", "marks"] (C1 o0).names _ ["unit"] 1 []) (P0 (K:=K) (vi xX)) (fun _ _ _ _ _=>D3 (n:=0) (show List.Nodup (["unit"]:List Str) by decide +kernel) rfl (Or.inl rfl)) (fun _ _ _ _ _=>i8) (fun _ _ _ _ _=>(O6 (K:=K) (qv 0) R3 (L9 A1)))) (qa_c (vi vcv) (qa_c (b8  (U7:CompOk ["order", "text", "made", "marks"] (C1 o0).names _ ["unit"] 1 []) (P0 (K:=K) (vi xX)) (fun _ _ _ _ _=>D3 (n:=0) (show List.Nodup (["unit"]:List Str) by decide +kernel) rfl (Or.inl rfl)) (fun _ _ _ _ _=>i8) (fun _ _ _ _ _=>(qe_ix (K:=K) (qv 0) A1))) (qa_c (vi vct) A2)))))))))),?_⟩
  obtain ⟨x,j,ll,ml,md,z,g,R,L,M,rfl,hO,hk,hz,hw,hs,q⟩:=h;obtain ⟨b1,b2,b3⟩:=ahf hs (w:=hasW R "figures") (ks:=G1 R) (y:=z) hz;walk_at "rd";refine ⟨x,j,ll,ml,md,z,g,R,L,M,rfl,hO,hk,hz,hw,hs,fun u H1 nu S1 hU=>?_⟩;generalize Q0 (stepY R L M) (cutF (hasW R "figures") (G1 R) z.cps.toList).2=U at *;obtain ⟨es,e1,e2⟩:=hU;have k8:=Paired.length e2;walk_at "rd";refine ⟨⟨_,.of e1⟩,compL (xs:=es.map fun e=>V.ref e.1) [] rfl (fun D i ys H2=>Same H1 H2/\ys=(es.take i).map fun e=>V.ref e.2) (fun D nD=>⟨Same.new nD,rfl⟩) (by rintro D i ys H2 nD _ ⟨S,_⟩;exact .of (S _ _ e1)) ?_ ?_⟩
  .rintro D i y ys H2 nD hi hy ⟨S2,rfl⟩ hD P5;obtain ⟨e,he,rfl⟩:=G9 (f:=fun e:Addr×Addr=>V.ref e.1) hy;obtain ⟨w,tK,fM⟩:=Paired.at e2 he;have k9:i<es.length:=(E9.mp he).1;walk_at "rd";refine ⟨_,.inr (.of (S2 _ _ fM.1)),V.ref e.2,K9 (j:=2) rfl,hD,by simp only [A6,L4];exact L1 (by lia),CW.put hi P5 ⟨S2.put nD,?_⟩⟩;rw [M0 he,C9];rfl
  rintro D ys H2 nD ⟨S2,rfl⟩ hD _;rw [A6,L6] at hD;have fC:=ad6 e2;refine mid (fun Y H'=>Y=[some (.ref x),some (.str z),some (.ref u),some (.ref D)]/\Same H1 H'/\∃ tL:List Addr,H' D=some (.lst (tL.map V.ref))/\Paired (fun c (x:List Int)=>H1 c=some (.tup (x.map V.int))) tL ((if hasW R "behind"=true then U.reverse else U).map fun u=>u.2.2.1)) ?_ ?_
  .obtain ⟨dx,ho⟩:=hO.ob;walk_at "rd";refine ⟨_,_,_,S2 _ _ (S1 _ _ ho),T.cl,T.na_behind,_,aew _ _ _ _ _ _,_,rfl,?_⟩
   by_cases hb:hasW R "behind"=true
   .rw [if_pos hb,if_pos hb];refine ⟨V5 hD,D,_,rfl,rfl,hD,S2.put nD,(es.map (·.2)).reverse,?_,?_⟩
    .rw [A3,List.map_reverse,Q6];rfl
    .rw [List.map_reverse];exact wQ fC
   .rw [if_neg hb,if_neg hb];refine ⟨S2,es.map (·.2),?_,fC⟩;rw [hD,Q6];rfl
  rintro Y H3 ⟨rfl,S3,tL,hD3,hP3⟩;clear hD S2 fC;have lO:=S3 _ _ e1;walk_at "rd";refine ⟨⟨_,.of lO⟩,compL (xs:=es.map fun e=>V.ref e.1) [] rfl (fun D i ys H2=>Same H3 H2/\∃ as:List Addr,ys=as.map V.ref/\Paired (fun c (x:List Int)=>H2 c=some (.tup (x.map V.int))/\H3 c=none/\c≠D) as ((U.take i).map fun u=>[u.1,u.2.1])) (fun D nD=>⟨Same.new nD,[],rfl,.nil⟩) (by rintro D i ys H2 nD _ ⟨S,_⟩;exact .of (S _ _ lO)) ?_ ?_⟩
  .rintro D i y ys H2 nD2 hi hy ⟨S2,as,rfl,hP⟩ hD P5;obtain ⟨e,he,rfl⟩:=G9 (f:=fun e:Addr×Addr=>V.ref e.1) hy;obtain ⟨w,tK,fM⟩:=Paired.at e2 he;have k9:i<es.length:=(E9.mp he).1;have lW:=Paired.length hP;rw [A6,L4] at lW;walk_at "rd";refine rSlR.t (.of (S2 _ _ (S3 _ _ fM.1))) (by simp [HT.sIx]) fun p np=>?_
   rw [show cutV [V.int w.1,V.int w.2.1,V.ref e.2,V.int w.2.2.2] none (some 2)=[w.1,w.2.1].map V.int from bV _ 2];have S4:Same H2 (A0 H2 p (.tup ([w.1,w.2.1].map V.int))):=Same.new np;have l6:A0 H2 p (.tup ([w.1,w.2.1].map V.int)) p=some (.tup ([w.1,w.2.1].map V.int)):=A3;have hpD:p≠D:=fun e=>by rw [e,hD] at np;cases np
   generalize A0 H2 p (.tup ([w.1,w.2.1].map V.int))=H4 at S4 l6;refine ⟨S4 _ _ hD,by rw [A6];exact L1 (by lia),CW.put hi P5 ⟨(S2.trans S4).put nD2,as++[p],by rw [C9];rfl,?_⟩⟩;rw [M0 tK,C9];exact Paired.snoc (N5 hP fun c x ⟨h1,h2,h3⟩=>⟨by rw [A7 h3];exact S4 _ _ h1,h2,h3⟩) ⟨by rw [A7 hpD];exact l6,S2.free np,hpD⟩
  rintro D4 ys H4 nD4 ⟨S4,as1,rfl,hP4⟩ hD4 _;rw [A6,k8,L6] at hP4;have fN:=S4 _ _ lO;refine ⟨⟨_,.of fN⟩,compL (xs:=es.map fun e=>V.ref e.1) [] rfl (fun D i ys H2=>Same H4 H2/\ys=((U.take i).map fun u=>u.2.2.2).map V.int) (fun D nD=>⟨Same.new nD,rfl⟩) (by rintro D i ys H2 nD _ ⟨S,_⟩;exact .of (S _ _ fN)) ?_ ?_⟩
  .rintro D i y ys H2 nD2 hi hy ⟨S2,rfl⟩ hD P5;obtain ⟨e,he,rfl⟩:=G9 (f:=fun e:Addr×Addr=>V.ref e.1) hy;obtain ⟨w,tK,fM⟩:=Paired.at e2 he;have k9:i<es.length:=(E9.mp he).1;walk_at "rd";refine ⟨_,.inr (.of (S2 _ _ (S4 _ _ (S3 _ _ fM.1)))),V.int w.2.2.2,K9 (j:=3) rfl,hD,by simp only [A6,L4];exact L1 (by lia),CW.put hi P5 ⟨S2.put nD2,?_⟩⟩;rw [M0 tK,C9,C9];rfl
  rintro D5 ys H5 nD5 ⟨S5,rfl⟩ hD5 _;rw [A6,k8,L6] at hD5;refine ⟨by decide,fun p np=>?_⟩;have S6:Same H5 (A0 H5 p (.lst [V.ref D4,V.ref D,V.ref D5,V.str z])):=Same.new np;have S36:=S4.trans (S5.trans S6);refine q p _ ((S1.trans (S3.trans (S4.trans S5))).free np) (S1.trans (S3.trans S36)) ⟨_,A3,.cons ?_ (.cons ?_ (.cons ?_ (.cons rfl .nil)))⟩
  .exact ⟨D4,as1,rfl,(S5.trans S6) _ _ hD4,N5 hP4 fun c x h=>(S5.trans S6) _ _ h.1⟩
  .exact ⟨D,tL,rfl,S36 _ _ hD3,N5 hP3 fun c x h=>S36 _ _ (S3 _ _ h)⟩
  .exact ⟨D5,rfl,S6 _ _ hD5⟩
theorem sc_compare:FnScope ["order", "one", "other", "strength", "ours", "theirs", "level"] ["order", "one", "other", "strength"] (C1 X6):=E5
abbrev gW:List Str:=["order", "one", "other", "strength", "ours", "theirs", "level"]
theorem vcy:VS gW X6 "order" 0:=vq
theorem vcz:VS gW X6 "one" 1:=vq
theorem vcA:VS gW X6 "other" 2:=vq
theorem vcB:VS gW X6 "strength" 3:=vq
theorem vcC:VS gW X6 "ours" 4:=vq
theorem vcD:VS gW X6 "theirs" 5:=vq
theorem rY:VS gW X6 "level" 6:=vq
theorem vcF:LS X6 "ours":=lq
theorem vcG:LS X6 "theirs":=lq
theorem vcH:LS X6 "level":=lq
theorem afo(F:FunD K "compare" "compare" X6 f fd)(T:Txt P w K mg C)(G_looks:FO P w K mg base 7 "looks" ["order", "text"] [] (akz C)):FnOk P w K mg base D9 8 f fd ["order", "one", "other", "strength"] (nU C):=by
 refine F.ok sc_compare ?_ ?_
 .rintro _ _ _ _ ⟨x,j,ll,ml,md,z,z',n,g,R,L,M,rfl,_⟩;rfl
 .intro cdv A outer s H vs Q E hr h;have B5:=hu_of hr;have hu:=hr.units;refine ⟨_,QSs.out (A5 (C6 (n:=4) sc_compare.nd rfl vcF (D1 G_looks (hm hr) (qa_c (vi vcy) (qa_c (vi vcz) A2))))
   (A5 (C6 (n:=5) sc_compare.nd rfl vcG (D1 G_looks (hm hr) (qa_c (vi vcy) (qa_c (vi vcA) A2))))
   (A5 (M7 PassesOwn.never (qi_r1 T.b_range (qa_c (vi vcB) A2)) (D3 (n:=6) sc_compare.nd rfl vcH (.inl rfl)) (A4 (qs_if (E1 (q_ne (K:=K) hu) (qe_ix (K:=K) (vi vcC) (vi rY)) (qe_ix (K:=K) (vi vcD) (vi rY))) (A4 (C7 (ahS (E1 (q_ltK hu (K:=K)) (qe_ix (K:=K) (vi vcC) (vi rY)) (qe_ix (K:=K) (vi vcD) (vi rY))) (qe_un q_neg A1) A1))) G4)))
   (A4 (C7 A1))))),?_⟩
  obtain ⟨x,j,ll,ml,md,z,z',n,g,R,L,M,rfl,hn,hO,hk,hz,Y9,hw,hw',hs,q⟩:=h;walk_at "rd";refine ⟨x,j,ll,ml,md,z,g,R,L,M,rfl,hO,hk,hz,hw,hs,fun l H1 nl S1 hl=>?_⟩;refine ⟨x,j,ll,ml,md,z',g,R,L,M,rfl,hO.same S1,hk,Y9,hw',hs,fun l' H2 nl' S2 hl'=>?_⟩;have tM:=ahj (hasW R "behind") (hasW R "behind") (Q0 (stepY R L M) (cutF (hasW R "figures") (G1 R) z.cps.toList).2) (Q0 (stepY R L M) (cutF (hasW R "figures") (G1 R) z'.cps.toList).2) z z';have f8:=hl.same S2;have A8:(e8 (hasW R "behind") (Q0 (stepY R L M) (cutF (hasW R "figures") (G1 R) z.cps.toList).2) z).length=4:=rfl;have hlen':(e8 (hasW R "behind") (Q0 (stepY R L M) (cutF (hasW R "figures") (G1 R) z'.cps.toList).2) z').length=4:=rfl;unfold e9 at q;generalize e8 (hasW R "behind") (Q0 (stepY R L M) (cutF (hasW R "figures") (G1 R) z.cps.toList).2) z=ds at *;generalize e8 (hasW R "behind") (Q0 (stepY R L M) (cutF (hasW R "figures") (G1 R) z'.cps.toList).2) z'=ds' at *;obtain ⟨vs,v1,v2⟩:=f8;obtain ⟨vs',w1,w2⟩:=hl';have z1:=Paired.length v2;have z2:=Paired.length w2;refine ⟨by lia,by lia,forRs (fun i Y H'=>(∃ u:Option V,Y=[some (.ref x),some (.str z),some (.str z'),some (.int n),some (.ref l),some (.ref l'),u])/\H'=H2/\∀ k<i,ds[k]?=ds'[k]?) ⟨⟨none,rfl⟩,rfl,by simp⟩ ?_ ?_⟩
  .rintro P' Bk hP i Y H' hi ⟨⟨u,rfl⟩,rfl,fB⟩;have E8:i<n:=by simpa using hi
   have a1:vs[i]?=some vs[i]:=J7 (by lia);have a2:vs'[i]?=some vs'[i]:=J7 (by lia);obtain ⟨d,hd,ld⟩:=Paired.at v2 a1;obtain ⟨d',hX,ld'⟩:=Paired.at w2 a2;have kd:=tM i d d' hd hX;generalize vs[i]=v at *;generalize vs'[i]=v' at *;have i1:G2 vs (0+(i:Int))=some v:=by rw [bP];exact K9 a1
   have i2:G2 vs' (0+(i:Int))=some v':=by rw [bP];exact K9 a2
   walk_at "rd";refine ⟨_,.inl (.of v1),_,i1,_,.inl (.of w1),_,i2,LvAt.ne ld ld' kd ⟨_,rfl,?_⟩⟩
   by_cases pL:d=d'
   .rw [if_neg (by simp [pL])];refine hP _ _ _ ⟨⟨_,rfl⟩,rfl,fun k hk=>?_⟩
    by_cases iP:k=i
    .rw [iP,hd,hX,pL]
    .exact fB k (by lia)
   .rw [if_pos (by simp [pL])];have hq:=q H' (S1.trans S2);rw [amn E8 hd hX fB pL] at hq;unfold cmpD at hq;rw [if_neg pL] at hq;refine ⟨_,.inl (.of v1),_,i1,_,.inl (.of w1),_,i2,LvAt.lt ld ld' kd ⟨_,rfl,?_⟩⟩
    by_cases C4:d.lt d'=true
    .rw [if_pos C4] at hq ⊢
     exact hq
    .rw [if_neg C4] at hq ⊢
     exact hq
  rintro Y H' ⟨⟨u,rfl⟩,rfl,fB⟩;walk_at "rd"
  have:=q H' (S1.trans S2)
  rw [akA (by simpa using fB)] at this;exact this
theorem sc_difference:FnScope ["order", "x", "y", "strength", "level", "sign"] ["order", "x", "y", "strength"] (C1 c0):=E5
abbrev lC:List Str:=["order", "x", "y", "strength", "level", "sign"]
theorem vcI:VS lC c0 "order" 0:=vq
theorem vcJ:VS lC c0 "x" 1:=vq
theorem vcK:VS lC c0 "y" 2:=vq
theorem vcL:VS lC c0 "strength" 3:=vq
theorem vcM:VS lC c0 "level" 4:=vq
theorem vcN:VS lC c0 "sign" 5:=vq
theorem vcO:LS c0 "level":=lq
theorem vcP:LS c0 "sign":=lq
theorem adF(F:FunD K "difference" "difference" c0 f fd)(T:Txt P w K mg C)(G3_compare:FO P w K mg base 8 "compare" ["order", "one", "other", "strength"] [] (nU C)):FnOk P w K mg base D9 9 f fd ["order", "x", "y", "strength"] (spDif C):=by
 refine F.ok sc_difference ?_ ?_
 .rintro _ _ _ _ ⟨x,z,z',n,R,L,M,rfl,_⟩;rfl
 .intro cdv A outer s H vs Q E hr h;have B5:=hu_of hr;have hu:=hr.units;refine ⟨_,QSs.out (A5 (M7 PassesOwn.never (qi_r2 T.b_range (qa_c A1 (qa_c (qe_op (q_add (K:=K)) (vi vcL) A1) A2))) (D3 (n:=4) sc_difference.nd rfl vcO (.inl rfl)) (A5 (C6 (n:=5) sc_difference.nd rfl vcP (D1 G3_compare (hm hr) (qa_c (vi vcI) (qa_c (vi vcJ) (qa_c (vi vcK) (qa_c (vi vcM) A2))))))
   (A4 (qs_if (E1 (q_ne (K:=K) hu) (vi vcN) A1) (A4 (C7 (G3 (qa_c (vi vcM) (qa_c (vi vcN) A2))))) G4))))
   (A4 (C7 (G3 (qa_c A1 (qa_c A1 A2)))))),?_⟩
  obtain ⟨x,z,z',n,R,L,M,rfl,hn,hO,hz,Y9,q⟩:=h;walk_at "rd";refine ⟨by decide,by decide,by lia,by lia,?_⟩;rw [show ((n:Int)+1-1).toNat=n by lia];refine forRs (fun i Y H2=>(∃ u v:Option V,Y=[some (.ref x),some (.str z),some (.str z'),some (.int n),u,v])/\Same H H2/\∀ k<i,cmpF (k+1) (e9 R L M z) (e9 R L M z')=0) ⟨⟨none,none,rfl⟩,dU _,by simp⟩ ?_ ?_
  .rintro P' Bk hP i Y H2 hi ⟨⟨u,v,rfl⟩,S,h0⟩;obtain ⟨j,ll,ml,md,O⟩:=hO.ex;walk_at "rd";refine ⟨x,j,ll,ml,md,z,z',i+1,_,R,L,M,by rw [show (1+(i:Int))=((i+1:Nat):Int) by lia],by lia,O.same S,hO.kn,hz.1,Y9.1,hz.2,Y9.2,hO.st,fun H3 S3=>?_⟩;walk_at "rd";refine iteN (fun G8=>⟨by decide,fun p np=>?_⟩) fun he=>hP _ _ _ ⟨⟨_,_,rfl⟩,S.trans S3,fun k hk=>?_⟩
   .refine q p _ ((S.trans S3).free np) ((S.trans S3).trans (Same.new np)) ?_;unfold difR;rw [A3,wV hi h0 G8,show (1+(i:Int))=((i+1:Nat):Int) by lia]
   .by_cases iP:k=i
    .rw [iP];exact he
    .exact h0 k (by lia)
  rintro Y H2 ⟨⟨u,v,rfl⟩,S,h0⟩;walk_at "rd";refine ⟨by decide,fun p np=>q p _ (S.free np) (S.trans (Same.new np)) ?_⟩;unfold difR;rw [A3,wW h0]
theorem aeU:FnScope ["one", "other", "x", "y", "strength"] ["one", "other", "x", "y", "strength"] (C1 u7):=E5
abbrev oE:List Str:=["one", "other", "x", "y", "strength"]
theorem vcQ:VS oE u7 "one" 0:=vq
theorem vcR:VS oE u7 "other" 1:=vq
theorem vcS:VS oE u7 "x" 2:=vq
theorem vcT:VS oE u7 "y" 3:=vq
theorem vcU:VS oE u7 "strength" 4:=vq
theorem adm(F:FunD K "differences" "differences" u7 f fd)(T:Txt P w K mg C)(G3_difference:FO P w K mg base 9 "difference" ["order", "x", "y", "strength"] [] (spDif C)):FnOk P w K mg base D9 10 f fd ["one", "other", "x", "y", "strength"] (rK C):=by
 refine F.ok aeU ?_ ?_
 .rintro _ _ _ _ ⟨x,y,z,z',n,R,R',L,M,L',M',rfl,_⟩;rfl
 .intro cdv A outer s H vs Q E hr h;have B5:=hu_of hr;have hu:=hr.units;refine ⟨_,QSs.out (A4 (C7 (qe_op (q_add (K:=K)) (D1 G3_difference (hm hr) (qa_c (vi vcQ) (qa_c (vi vcS) (qa_c (vi vcT) (qa_c (vi vcU) A2))))) (D1 G3_difference (hm hr) (qa_c (vi vcR) (qa_c (vi vcS) (qa_c (vi vcT) (qa_c (vi vcU) A2)))))))),?_⟩;obtain ⟨x,y,z,z',n,R,R',L,M,L',M',rfl,hn,hO,hO',h1,h2,h3,h4,q⟩:=h;walk_at "rd";refine ⟨x,z,z',n,R,L,M,rfl,hn,hO,h1,h2,fun t H1 nt S1 ht=>⟨y,z,z',n,R',L',M',rfl,hn,hO'.same S1,h3,h4,fun t' H2 nt' S2 ht'=>?_⟩⟩;walk_at "rd";refine rAddR.t (.of (S2 _ _ ht)) (.of ht') (by simp) (by simp only [J9,Z2];exact P6 (by lia)) (fun e=>by cases e) fun _ p np=>q p _ ((S1.trans S2).free np) ((S1.trans S2).trans (Same.new np)) ?_
  rw [A3];rfl
theorem akV:FnScope ["order", "so_far", "apart"] ["order", "so_far", "apart"] (C1 kP):=E5
abbrev xY:List Str:=["order", "so_far", "apart"]
theorem vcV:VS xY kP "order" 0:=vq
theorem oF:VS xY kP "so_far" 1:=vq
theorem lD:VS xY kP "apart" 2:=vq
theorem akW(F:FunD K "stands" "stands" kP f fd)(T:Txt P w K mg C):FnOk P w K mg base D9 1 f fd ["order", "so_far", "apart"] (aif K C):=by
 refine F.ok akV ?_ ?_
 .rintro _ _ _ _ ⟨x,p,q',s,a,R,L,M,rfl,_⟩;rfl
 .intro cdv A outer s H vs Q E hr h;have B5:=hu_of hr;have hu:=hr.units;refine ⟨_,QSs.out (A5 (qs_if (E1 (q_eq (K:=K) hu) (qe_ix (K:=K) (vi lD) A1) A1) (A4 (C7 (vi oF))) G4)
   (A5 (qs_if (QW.pt (qw_or (E1 (q_eq (K:=K) hu) (qe_ix (K:=K) (vi oF) A1) A1) (eA (E1 q_gt (qe_ix (K:=K) (vi oF) A1) (qe_ix (K:=K) (vi lD) A1))))) (A4 (C7 (vi lD))) G4)
   (A5 (qs_if (QW.pt (eB (E1 (q_eq (K:=K) hu) (qe_ix (K:=K) (vi oF) A1) (qe_ix (K:=K) (vi lD) A1)) (eB (E1 (q_eq (K:=K) hu) (qe_ix (K:=K) (vi lD) A1) A1) (gI (Q7 (K:=K) (aD (K:=K) (vi vcV))))))) (A4 (C7 (vi lD))) G4)
   (A4 (C7 (vi oF)))))),?_⟩
  obtain ⟨x,p,q',s,a,R,L,M,rfl,hO,hp,hq,q⟩:=h;obtain ⟨j,ll,ml,md,O⟩:=hO.ex;obtain ⟨dx,ho⟩:=O.ob;unfold N2 at hp hq;walk_at "rd";refine ⟨_,.inr hq,V.int a.1,L3 _ _,?_⟩;walk_at "rd";unfold aP at q;refine iteD (fun h0=>q p (by rw [if_pos h0];exact hp)) fun h0=>⟨_,.inr hp,V.int s.1,L3 _ _,?_⟩
  rw [if_neg h0] at q;walk_at "rd";have hA:(s.1=0\/a.1<s.1)->Q (V.ref q') H:=fun h=>q q' (by rw [if_pos h];exact hq)
  refine iteD (fun h1=>hA (.inl h1)) fun h1=>⟨_,.inr hp,V.int s.1,L3 _ _,_,.inr hq,V.int a.1,L3 _ _,?_⟩
  walk_at "rd";refine iteD (fun h2=>hA (.inr h2)) fun h2=>⟨_,.inr hp,V.int s.1,L3 _ _,_,.inr hq,V.int a.1,L3 _ _,?_⟩
  rw [if_neg (fun h=>h.elim h1 h2)] at q;walk_at "rd";have hS:¬ (s.1=a.1/\a.1=2/\hasW R "behind"=true)->Q (V.ref p) H:=fun h=>q p (by rw [if_neg h];exact hp)
  refine iteD (fun h3=>⟨_,.inr hq,V.int a.1,L3 _ _,?_⟩) fun h3=>hS (fun h=>h3 h.1)
  walk_at "rd";refine iteD (fun h4=>?_) fun h4=>hS (fun h=>h4 h.2.1)
  refine ⟨_,_,_,ho,T.cl,T.na_behind,_,aew _ _ _ _ _ _,_,rfl,?_⟩
  by_cases hb:hasW R "behind"=true
  .rw [if_pos hb];exact q q' (by rw [if_pos ⟨h3,h4,hb⟩];exact hq)
  .rw [if_neg hb];exact hS (fun h=>hb h.2.2)
theorem ai6:FnScope ["one", "other", "room", "apart"] ["one", "other", "room", "apart"] (C1 gN):=E5
abbrev rZ:List Str:=["one", "other", "room", "apart"]
theorem vcY:VS rZ gN "one" 0:=vq
theorem vcZ:VS rZ gN "other" 1:=vq
theorem vc0:VS rZ gN "room" 2:=vq
theorem vc1:VS rZ gN "apart" 3:=vq
theorem ai7(F:FunD K "goes_on" "goes_on" gN f fd)(T:Txt P w K mg C)(G_stands:FO P w K mg base 1 "stands" ["order", "so_far", "apart"] [] (aif K C)):FnOk P w K mg base D9 2 f fd ["one", "other", "room", "apart"] (amX K C):=by
 refine F.ok ai6 ?_ ?_
 .rintro _ _ _ _ ⟨x,y,p,p',r,d,R,R',L,M,L',M',rfl,_⟩;rfl
 .intro cdv A outer s H vs Q E hr h;have B5:=hu_of hr;have hu:=hr.units;refine ⟨_,QSs.out (A4 (C7 (qe_op (q_add (K:=K)) (D1 G_stands (hm hr) (qa_c (vi vcY) (qa_c (O6 (K:=K) (vi vc0) R3 (L9 A1)) (qa_c (O6 (K:=K) (vi vc1) R3 (L9 A1)) A2)))) (D1 G_stands (hm hr) (qa_c (vi vcZ) (qa_c (O6 (K:=K) (vi vc0) (L9 A1) R3) (qa_c (O6 (K:=K) (vi vc1) (L9 A1) R3) A2))))))),?_⟩;obtain ⟨x,y,p,p',r,d,R,R',L,M,L',M',rfl,hO,hO',hp,hd,q⟩:=h;unfold W3 at hp hd;walk_at "rd";refine rSlR.t hp (by simp [HT.sIx]) fun l1 n1=>rSlR.t (gP (Same.new n1) hd) (by simp [HT.sIx]) fun l2 n2=>?_
  rw [show cutV [V.int r.1,V.int r.2.1,V.int r.2.2.1,V.int r.2.2.2] none (some 2)=N2 (r.1,r.2.1) from bV _ 2,show cutV [V.int d.1,V.int d.2.1,V.int d.2.2.1,V.int d.2.2.2] none (some 2)=N2 (d.1,d.2.1) from bV _ 2] at *;have S1:Same H (A0 (A0 H l1 (.tup (N2 (r.1,r.2.1)))) l2 (.tup (N2 (d.1,d.2.1)))):=(Same.new n1).trans (Same.new n2);have e1:A0 (A0 H l1 (.tup (N2 (r.1,r.2.1)))) l2 (.tup (N2 (d.1,d.2.1))) l1=some (.tup (N2 (r.1,r.2.1))):=C8 A3 n2;have e2:A0 (A0 H l1 (.tup (N2 (r.1,r.2.1)))) l2 (.tup (N2 (d.1,d.2.1))) l2=some (.tup (N2 (d.1,d.2.1))):=A3;generalize A0 (A0 H l1 (.tup (N2 (r.1,r.2.1)))) l2 (.tup (N2 (d.1,d.2.1)))=H2 at S1 e1 e2;refine ⟨x,l1,l2,_,_,R,L,M,rfl,hO.same S1,.of e1,.of e2,fun t ht=>?_⟩;refine rSlR.t (gP S1 hp) (by simp [HT.sIx]) fun l3 n3=>rSlR.t (gP (Same.new n3) (gP S1 hd)) (by simp [HT.sIx]) fun l4 n4=>?_
  rw [show cutV [V.int r.1,V.int r.2.1,V.int r.2.2.1,V.int r.2.2.2] (some 2) none=N2 (r.2.2.1,r.2.2.2) from t8 _ 2,show cutV [V.int d.1,V.int d.2.1,V.int d.2.2.1,V.int d.2.2.2] (some 2) none=N2 (d.2.2.1,d.2.2.2) from t8 _ 2] at *;have S3:Same H2 (A0 (A0 H2 l3 (.tup (N2 (r.2.2.1,r.2.2.2)))) l4 (.tup (N2 (d.2.2.1,d.2.2.2)))):=(Same.new n3).trans (Same.new n4);have e3:A0 (A0 H2 l3 (.tup (N2 (r.2.2.1,r.2.2.2)))) l4 (.tup (N2 (d.2.2.1,d.2.2.2))) l3=some (.tup (N2 (r.2.2.1,r.2.2.2))):=C8 A3 n4;have e4:A0 (A0 H2 l3 (.tup (N2 (r.2.2.1,r.2.2.2)))) l4 (.tup (N2 (d.2.2.1,d.2.2.2))) l4=some (.tup (N2 (d.2.2.1,d.2.2.2))):=A3;generalize A0 (A0 H2 l3 (.tup (N2 (r.2.2.1,r.2.2.2)))) l4 (.tup (N2 (d.2.2.1,d.2.2.2)))=H3 at S3 e3 e4;refine ⟨y,l3,l4,_,_,R',L',M',rfl,hO'.same (S1.trans S3),.of e3,.of e4,fun t' ht'=>?_⟩;walk_at "rd";refine rAddR.t (gP S3 ht) ht' (by simp [N2]) (by simp only [N2,J9,Z2];exact P6 (by lia)) (fun e=>by cases e) fun _ p np=>q p _ ((S1.trans S3).free np) ((S1.trans S3).trans (Same.new np)) ?_
  rw [A3];rfl
theorem aeJ:FnScope ["room"] ["room"] (C1 rH):=E5
abbrev aeV:List Str:=["room"]
theorem vc2:VS aeV rH "room" 0:=vq
theorem aeK(F:FunD K "is_otherwise" "is_otherwise" rH f fd)(T:Txt P w K mg C):FnOk P w K mg base D9 1 f fd ["room"] (spOt K j6):=by
 refine F.ok aeJ ?_ ?_
 .rintro _ _ _ _ ⟨p,r,rfl,_⟩;rfl
 .intro cdv A outer s H vs Q E hr h;have B5:=hu_of hr;have hu:=hr.units;refine ⟨_,QSs.out (A4 (C7 (aB (q_ne (K:=K) hu) (qe_ix (K:=K) (vi vc2) A1) (qe_ix (K:=K) (vi vc2) A1)))),?_⟩;obtain ⟨p,r,rfl,hp,q⟩:=h;unfold W3 at hp;walk_at "rd";refine ⟨_,.inr hp,V.int r.2.1,K9 (j:=1) rfl,_,.inr hp,V.int r.2.2.2,K9 (j:=3) rfl,?_⟩;walk_at "rd";exact q
theorem agN:FnScope ["room"] ["room"] (C1 rJ):=E5
abbrev ahA:List Str:=["room"]
theorem vc3:VS ahA rJ "room" 0:=vq
theorem agO(F:FunD K "is_uneven" "is_uneven" rJ f fd)(T:Txt P w K mg C):FnOk P w K mg base D9 1 f fd ["room"] (spOt K u8):=by
 refine F.ok agN ?_ ?_
 .rintro _ _ _ _ ⟨p,r,rfl,_⟩;rfl
 .intro cdv A outer s H vs Q E hr h;have B5:=hu_of hr;have hu:=hr.units;refine ⟨_,QSs.out (A4 (C7 (aB (q_ne (K:=K) hu) (aB (q_eq (K:=K) hu) (qe_ix (K:=K) (vi vc3) A1) A1) (aB (q_eq (K:=K) hu) (qe_ix (K:=K) (vi vc3) A1) A1)))),?_⟩;obtain ⟨p,r,rfl,hp,q⟩:=h;unfold W3 at hp;walk_at "rd";refine ⟨_,.inr hp,V.int r.1,L3 _ _,?_⟩;walk_at "rd";refine ⟨_,.inr hp,V.int r.2.2.1,K9 (j:=2) rfl,?_⟩;walk_at "rd";exact q
theorem ahB:FnScope ["order", "sign"] ["order", "sign"] (C1 kQ):=E5
abbrev afp:List Str:=["order", "sign"]
theorem vc4:VS afp kQ "order" 0:=vq
theorem vc5:VS afp kQ "sign" 1:=vq
theorem ahC(F:FunD K "is_plain" "is_plain" kQ f fd)(T:Txt P w K mg C)(G_Order_steps:MO P w K mg base 1 C "steps" ["self", "piece"] (nM C)):FnOk P w K mg base D9 2 f fd ["order", "sign"] (amY C):=by
 refine F.ok ahB ?_ ?_
 .rintro _ _ _ _ ⟨x,z,R,L,M,rfl,_⟩;rfl
 .intro cdv A outer s H vs Q E hr h;have B5:=hu_of hr;have hu:=hr.units;refine ⟨_,QSs.out (A4 (C7 (aB (q_eq (K:=K) hu) (qe_cB (q_len (K:=K)) T.b_len Z8 (qa_c (b8  (U7:CompOk ["order", "sign"] (C1 kQ).names _ ["step"] 1 []) (eC (K:=K) (qV (vi vc4) G_Order_steps (hm hr) (qa_c (vi vc5) A2))) (fun _ _ _ _ _=>D3 (n:=0) (show List.Nodup (["step"]:List Str) by decide +kernel) rfl (Or.inl rfl)) (fun _ _ _ _ _=>(kC (E1 (q_eq (K:=K) hu) (qe_ix (K:=K) (qv 0) A1) (gG T.g_LETTER)))) (fun _ _ _ _ _=>(qv 0))) A2)) A1))),?_⟩;obtain ⟨x,z,R,L,M,rfl,hO,hl,q⟩:=h;obtain ⟨j,ll,ml,md,O⟩:=hO.ex;obtain ⟨dx,ho⟩:=O.ob;walk_at "rd";refine ⟨_,_,ho,nB _ _ _ _ _ _ (by decide +kernel),x,j,ll,ml,md,z,_,R,L,M,rfl,O,fun r H1 S1 hs=>?_⟩;obtain ⟨ts,t1,t2⟩:=hs.ex;have oX:=Paired.length t2;generalize hss:stepF R L M z=ss at *;refine ⟨r,rfl,⟨_,.of t1⟩,compT (xs:=ts.map V.ref) [] rfl (fun D i ys H2=>Same H1 H2/\ys.length=letN (ss.take i)) (fun D nD=>⟨Same.new nD,rfl⟩) (by rintro D i ys H2 nD _ ⟨S,_⟩;exact .of (S _ _ t1)) ?_ ?_⟩
  .rintro D i y ys H2 nD hi hx ⟨S2,hn⟩ hD P5;obtain ⟨t,ht,rfl⟩:=G9 hx;obtain ⟨u,eZ,hut⟩:=Paired.at t2 ht;have k9:i<ts.length:=(E9.mp ht).1;have est:letN (ss.take (i+1))=letN (ss.take i)+(if u.1=2 then 1 else 0):=by
    unfold letN;rw [M0 eZ,bJ,D7]
    by_cases h2:u.1=2
    .rw [if_pos h2];simp [h2]
    .rw [if_neg h2];simp [h2]
   have t3:H2 t=some (.tup [.int u.1,.int u.2.1,.int u.2.2]):=S2 _ _ hut;walk_at "rd";refine ⟨_,.inr (.of t3),V.int u.1,L3 _ _,?_⟩;walk_at "rd";refine iteD (fun h2=>⟨hD,L1 (by lia),CW.put hi P5 ⟨S2.put nD,?_⟩⟩) fun h2=>⟨hD,vC hi P5 ⟨S2,?_⟩⟩
   .rw [est,if_pos h2,D7,hn];rfl
   .rw [est,if_neg h2,hn];rfl
  rintro D ys H2 nD ⟨S2,hn⟩ hD _;rw [A6,oX,L6] at hn;walk_at "rd";refine ⟨ys.length,.inl ⟨_,.of hD,rfl⟩,?_⟩
  have:=q H2 (S1.trans S2)
  unfold eP at this;rw [hss] at this;rw [hn];rw [show decide ((letN ss:Int)=1)=decide (letN ss=1) from decide_eq_decide.mpr (by lia)];exact this
theorem sc_check_plain:FnScope ["one", "other", "signs", "sign", "first", "second", "two"] ["one", "other", "signs"] (C1 c9):=E5
abbrev gX:List Str:=["one", "other", "signs", "sign", "first", "second", "two"]
theorem vc6:VS gX c9 "one" 0:=vq
theorem vc7:VS gX c9 "other" 1:=vq
theorem xZ:VS gX c9 "signs" 2:=vq
theorem vc9:VS gX c9 "sign" 3:=vq
theorem vda:VS gX c9 "first" 4:=vq
theorem vdb:VS gX c9 "second" 5:=vq
theorem vdc:VS gX c9 "two" 6:=vq
theorem vdd:LS c9 "sign":=lq
theorem vde:LS c9 "first":=lq
theorem vdf:LS c9 "second":=lq
theorem vdg:LS c9 "two":=lq
theorem aeW(F:FunD K "check_plain" "check_plain" c9 f fd)(T:Txt P w K mg C)(G_Order_job:MO P w K mg base 1 C "job" ["self", "piece"] (wG C))(G_is_plain:FO P w K mg base 2 "is_plain" ["order", "sign"] [] (amY C)):FnOk P w K mg base D9 3 f fd ["one", "other", "signs"] (spChk C):=by
 refine F.ok sc_check_plain ?_ ?_
 .rintro _ _ _ _ ⟨x,y,l,zs,R,R',L,M,L',M',rfl,_⟩;rfl
 .intro cdv A outer s H vs Q E hr h;have B5:=hu_of hr;have hu:=hr.units;refine ⟨_,QSs.out (A5 (M7 PassesOwn.never (P0 (K:=K) (vi xZ)) (D3 (n:=3) sc_check_plain.nd rfl vdd (.inl rfl)) (A4 (qs_if (QW.pt (qw_or (dZ (Q7 (K:=K) (D1 G_is_plain (hm hr) (qa_c (vi vc6) (qa_c (vi vc9) A2))))) (eA (dZ (Q7 (K:=K) (D1 G_is_plain (hm hr) (qa_c (vi vc7) (qa_c (vi vc9) A2)))))))) (A4 kA) G4)))
   (A4 (M7 PassesOwn.never (P0 (K:=K) (vi xZ)) (D3 (n:=4) sc_check_plain.nd rfl vde (.inl rfl)) (A4 (M7 PassesOwn.never (P0 (K:=K) (vi xZ)) (D3 (n:=5) sc_check_plain.nd rfl vdf (.inl rfl)) (A5 (C6 (n:=6) sc_check_plain.nd rfl vdg (qe_op (q_add (K:=K)) (vi vda) (vi vdb)))
   (A4 (qs_if (QW.pt (qw_or (E1 qQ (qV (vi vc6) G_Order_job (hm hr) (qa_c (vi vdc) A2)) dY) (eA (E1 qQ (qV (vi vc7) G_Order_job (hm hr) (qa_c (vi vdc) A2)) dY)))) (A4 kA) G4)))))))),?_⟩
  obtain ⟨x,y,l,zs,R,R',L,M,L',M',rfl,hO,hO',hl,hz,hc,q⟩:=h;unfold chkF at hc;obtain ⟨c1,c2⟩:=Option.or_eq_none_iff.mp hc;walk_at "rd";refine ⟨⟨_,.of hl⟩,forLs (xs:=zs.map V.str) (fun i Y H2=>∃ u:Option V,Y=[some (.ref x),some (.ref y),some (.ref l),u,none,none,none]/\Same H H2/\True) ⟨none,rfl,dU _,trivial⟩ (by rintro i Y H2 _ ⟨_,_,S,_⟩;exact .of (S _ _ hl)) ?_ ?_⟩
  .rintro P' Bk hP i a Y H2 ha ⟨u,rfl,S2,_⟩;obtain ⟨z,W7,rfl⟩:=G9 ha;have fK:=hz z (K8 W7);have hb:(!eP R L M z || !eP R' L' M' z)=false:=by have:=y0.mp c1 z (K8 W7);rwa [bK] at this
   rw [Bool.or_eq_false_iff,Bool.not_eq_false',Bool.not_eq_false'] at hb;walk_at "rd";refine ⟨x,z,R,L,M,rfl,hO.same S2,fK.2.1,fun H3 S3=>⟨_,rfl,?_⟩⟩;rw [hb.1];refine iteF ⟨y,z,R',L',M',rfl,hO'.same (S2.trans S3),fK.2.2,fun H4 S4=>⟨_,rfl,?_⟩⟩;rw [hb.2];exact iteF (hP _ _ _ ⟨_,rfl,S2.trans (S3.trans S4),trivial⟩)
  rintro Y H2 ⟨u,rfl,S2,_⟩;have kn:∀ {R:List Rl} {g:Str->Str} {t:Str},(!decide ((if t∈keysP (C5 R)++V7 R then jobG g t else V.non)=V.non))=decide (t∈G1 R):=fun {R g t}=>by
   unfold G1 jobG
   by_cases h:t∈keysP (C5 R)++V7 R
   .rw [if_pos h,decide_eq_true h,decide_eq_false (by split <;> simp)];rfl
   .rw [if_neg h,decide_eq_false h];rfl
  walk_at "rd";refine ⟨⟨_,.of (S2 _ _ hl)⟩,forLs (xs:=zs.map V.str) (fun i Y H3=>∃ u v w r:Option V,Y=[some (.ref x),some (.ref y),some (.ref l),u,v,w,r]/\Same H H3) ⟨u,none,none,none,rfl,S2⟩ (by rintro i Y H2 _ ⟨_,_,_,_,_,S⟩;exact .of (S _ _ hl)) ?_ fun Y H3 ⟨_,_,_,_,e,S⟩=>q H3 S⟩;clear S2 H2;rintro P' Bk hP i a Y H2 ha ⟨u,v,w,r,rfl,S2⟩;obtain ⟨z,W7,rfl⟩:=G9 ha;have fK:=hz z (K8 W7);walk_at "rd";refine ⟨⟨_,.of (S2 _ _ hl)⟩,forLs (xs:=zs.map V.str) (fun k Y H3=>∃ w r:Option V,Y=[some (.ref x),some (.ref y),some (.ref l),u,some (.str z),w,r]/\Same H H3) ⟨w,r,rfl,S2⟩ (by rintro i Y H2 _ ⟨_,_,_,S⟩;exact .of (S _ _ hl)) ?_ fun Y H3 ⟨_,_,e,S⟩=>hP _ _ _ ⟨_,_,_,_,e,S⟩⟩;clear S2 H2;rintro P2 Bk2 hP2 k b Y H2 hb ⟨w,r,rfl,S2⟩;obtain ⟨z',hz2,rfl⟩:=G9 hb;have hzm':=hz z' (K8 hz2);have A8:(z++z').length=z.length+z'.length:=Array.size_append;have hk:=y0.mp c2 (z++z') (W0.mpr ⟨z,K8 W7,D8.mpr ⟨z',K8 hz2,rfl⟩⟩);rw [bK,Bool.or_eq_false_iff] at hk;obtain ⟨j,ll,ml,md,O⟩:=(hO.same S2).ex;obtain ⟨j',ll',ml',md',O'⟩:=(hO'.same S2).ex;obtain ⟨dx,ho⟩:=O.ob;obtain ⟨dx',j7⟩:=O'.ob;walk_at "rd";refine ⟨P6 (by lia),_,_,ho,nB _ _ _ _ _ _ (by decide +kernel),x,j,ll,ml,md,z++z',_,R,L,M,rfl,O,?_⟩;show if (!decide ((if z++z'∈keysP (C5 R)++V7 R then jobG (nI R) (z++z') else V.non)=V.non))=true then _ else _
  rw [kn,hk.1];refine iteF ⟨_,_,j7,nB _ _ _ _ _ _ (by decide +kernel),y,j',ll',ml',md',z++z',_,R',L',M',rfl,O',?_⟩;show if (!decide ((if z++z'∈keysP (C5 R')++V7 R' then jobG (nI R') (z++z') else V.non)=V.non))=true then _ else _
  rw [kn,hk.2];exact iteF (hP2 _ _ _ ⟨_,_,rfl,S2⟩)
theorem sc_moves_by:FnScope ["one", "other", "signs", "strength", "moves", "x", "y"] ["one", "other", "signs", "strength"] (C1 j3):=E5
abbrev gY:List Str:=["one", "other", "signs", "strength", "moves", "x", "y"]
theorem vdh:VS gY j3 "one" 0:=vq
theorem vdi:VS gY j3 "other" 1:=vq
theorem vdj:VS gY j3 "signs" 2:=vq
theorem vdk:VS gY j3 "strength" 3:=vq
theorem vdl:VS gY j3 "moves" 4:=vq
theorem vdm:VS gY j3 "x" 5:=vq
theorem vdn:VS gY j3 "y" 6:=vq
theorem vdo:LS j3 "moves":=lq
theorem vdp:LS j3 "x":=lq
theorem vdq:LS j3 "y":=lq
theorem ahD(F:FunD K "moves_by" "moves_by" j3 f fd)(T:Txt P w K mg C)(G3_differences:FO P w K mg base 10 "differences" ["one", "other", "x", "y", "strength"] [] (rK C)):FnOk P w K mg base D9 11 f fd ["one", "other", "signs", "strength"] (spMvs C):=by
 refine F.ok sc_moves_by ?_ ?_
 .rintro _ _ _ _ ⟨x,y,l,zs,n,R,R',L,M,L',M',rfl,_⟩;rfl
 .intro cdv A outer s H vs Q E hr h;have B5:=hu_of hr;have hu:=hr.units;refine ⟨_,QSs.out (A5 (C6 (n:=4) sc_moves_by.nd rfl vdo (R1 A2))
   (A5 (M7 PassesOwn.never (P0 (K:=K) (vi vdj)) (D3 (n:=5) sc_moves_by.nd rfl vdp (.inl rfl)) (A4 (M7 PassesOwn.never (P0 (K:=K) (vi vdj)) (D3 (n:=6) sc_moves_by.nd rfl vdq (.inl rfl)) (A4 (U0 (qe_mB (K:=K) W1 g9 g8 i9 (vi vdl) (qa_c (G3 (qa_c (vi vdm) (qa_c (vi vdn) (qa_c (D1 G3_differences (hm hr) (qa_c (vi vdh) (qa_c (vi vdi) (qa_c (vi vdm) (qa_c (vi vdn) (qa_c (vi vdk) A2)))))) A2)))) A2)))))))
   (A4 (C7 (vi vdl))))),?_⟩
  obtain ⟨x,y,l,zs,n,R,R',L,M,L',M',rfl,hn,hO,hO',hl,O9,hz,q⟩:=h;walk_at "rd";intro t nt;refine ⟨⟨_,.of (C8 hl nt)⟩,forLs (xs:=zs.map V.str) (fun i Y H2=>∃ u v:Option V,Y=[some (.ref x),some (.ref y),some (.ref l),some (.int n),some (.ref t),u,v]/\Same H H2/\IsMv H2 t ((zs.take i).flatMap fun x=>zs.map fun y=>(x,y,join4 (difR R L M n x y) (difR R' L' M' n x y)))) ⟨none,none,rfl,Same.new nt,[],A3,.nil⟩ (by rintro i Y H2 _ ⟨_,_,_,S,_⟩;exact .of (S _ _ hl)) ?_ ?_⟩
  .rintro P' Bk hP i a Y H2 ha ⟨u,v,rfl,S2,hm⟩;obtain ⟨z,W7,rfl⟩:=G9 ha;have hi:i<zs.length:=(E9.mp W7).1;have tz:=hz z (K8 W7);walk_at "rd";refine ⟨⟨_,.of (S2 _ _ hl)⟩,forLs (xs:=zs.map V.str) (fun k Y H3=>∃ v:Option V,Y=[some (.ref x),some (.ref y),some (.ref l),some (.int n),some (.ref t),some (.str z),v]/\Same H H3/\IsMv H3 t (((zs.take i).flatMap fun x=>zs.map fun y=>(x,y,join4 (difR R L M n x y) (difR R' L' M' n x y)))++(zs.take k).map fun y=>(z,y,join4 (difR R L M n z y) (difR R' L' M' n z y)))) ⟨v,rfl,S2,by simpa using hm⟩ (by rintro i Y H2 _ ⟨_,_,S,_⟩;exact .of (S _ _ hl)) ?_ ?_⟩
   .clear hm;rintro P2 Bk2 hP2 k b Y H3 hb ⟨v,rfl,S3,as,m1,m2⟩;obtain ⟨z',iV,rfl⟩:=G9 hb;have hk:k<zs.length:=(E9.mp iV).1;have tz':=hz z' (K8 iV);have lW:as.length<=10*10+10:=by
     rw [Paired.length m2];simp only [D7,List.length_flatMap,A6,L4,List.map_const',List.sum_replicate_nat];have h1:min i zs.length*zs.length<=10*10:=Nat.mul_le_mul (by lia) O9;lia
    walk_at "rd";refine ⟨V5 m1,x,y,z,z',n,R,R',L,M,L',M',rfl,hn,hO.same S3,hO'.same S3,tz.1,tz'.1,tz.2,tz'.2,fun d H4 nd S4 hd=>⟨by decide,fun p np=>?_⟩⟩;have S5:=S4.trans (Same.new (u:=HO.tup [V.str z,V.str z',V.ref d]) np);refine appOk (S5 _ _ m1) (by rw [A6];exact L1 (by lia)) (hP2 _ _ _ ⟨_,rfl,(S3.trans S5).put nt,?_⟩);rw [M0 iV,C9,<- V9];exact IsMv.put (S5 _ _ m1) (N5 m2 fun _ _ ⟨d,e1,e2⟩=>⟨d,S5 _ _ e1,S5 _ _ e2⟩) A3 (C8 hd np)
   rintro Y H3 ⟨v,rfl,S3,hm3⟩;rw [A6,L6] at hm3;refine hP _ _ _ ⟨_,_,rfl,S3,?_⟩;rw [M0 W7,Z1]
   simpa using hm3
  rintro Y H2 ⟨u,v,rfl,S2,hm⟩;rw [A6,L6] at hm;walk_at "rd";exact q t H2 nt S2 hm
theorem agP:FnScope ["sign", "room", "pair"] ["sign", "room", "pair"] (C1 kR):=E5
abbrev yA:List Str:=["sign", "room", "pair"]
theorem vdr:VS yA kR "sign" 0:=vq
theorem vds:VS yA kR "room" 1:=vq
theorem sA:VS yA kR "pair" 2:=vq
theorem agQ(F:FunD K "longer_by" "longer_by" kR f fd)(T:Txt P w K mg C):FnOk P w K mg base D9 1 f fd ["sign", "room", "pair"] (spLg K):=by
 refine F.ok agP ?_ ?_
 .rintro _ _ _ _ ⟨p,p',z,u,v,r,rfl,_⟩;rfl
 .intro cdv A outer s H vs Q E hr h;have B5:=hu_of hr;have hu:=hr.units;refine ⟨_,QSs.out (A5 (qs_if (E1 q_lt (qe_ix (K:=K) (vi vds) A1) A1) (A4 (C7 (G3 (qa_c (qe_op (q_add (K:=K)) (qe_ix (K:=K) (vi sA) A1) (vi vdr)) (qa_c (qe_ix (K:=K) (vi sA) A1) A2))))) G4)
   (A4 (C7 (G3 (qa_c (qe_ix (K:=K) (vi sA) A1) (qa_c (qe_op (q_add (K:=K)) (qe_ix (K:=K) (vi sA) A1) (vi vdr)) A2)))))),?_⟩
  obtain ⟨p,p',z,u,v,r,rfl,hp,hq,h1,h2,h3,q⟩:=h;unfold W3 at hp;unfold gQ at q;walk_at "rd";refine ⟨_,.inr hp,V.int r.2.1,K9 (j:=1) rfl,?_⟩;walk_at "rd";refine iteD (fun h0=>?_) fun h0=>?_
  .rw [if_pos h0] at q;refine ⟨_,.inr (.of hq),V.str u,L3 _ _,?_⟩;walk_at "rd";exact ⟨P6 (by lia),_,.inr (.of hq),V.str v,K9 (j:=1) rfl,by decide,q⟩
  .rw [if_neg h0] at q;refine ⟨_,.inr (.of hq),V.str u,L3 _ _,_,.inr (.of hq),V.str v,K9 (j:=1) rfl,?_⟩;walk_at "rd";exact ⟨P6 (by lia),by decide,q⟩
theorem sc_beside:FnScope ["one", "other", "signs", "strength", "moves", "pairs", "rooms", "at", "room", "pair", "x", "y", "apart", "further"] ["one", "other", "signs", "strength"] (C1 N0):=E5
abbrev f6:List Str:=["one", "other", "signs", "strength", "moves", "pairs", "rooms", "at", "room", "pair", "x", "y", "apart", "further"]
theorem yB:VS f6 N0 "one" 0:=vq
theorem yC:VS f6 N0 "other" 1:=vq
theorem yD:VS f6 N0 "signs" 2:=vq
theorem vdx:VS f6 N0 "strength" 3:=vq
theorem vdy:VS f6 N0 "moves" 4:=vq
theorem yE:VS f6 N0 "pairs" 5:=vq
theorem sB:VS f6 N0 "rooms" 6:=vq
theorem vdB:VS f6 N0 "at" 7:=vq
theorem sC:VS f6 N0 "room" 8:=vq
theorem oG:VS f6 N0 "pair" 9:=vq
theorem vdE:VS f6 N0 "x" 10:=vq
theorem vdF:VS f6 N0 "y" 11:=vq
theorem vdG:VS f6 N0 "apart" 12:=vq
theorem sD:VS f6 N0 "further" 13:=vq
theorem vdI:LS N0 "moves":=lq
theorem vdJ:LS N0 "pairs":=lq
theorem vdK:LS N0 "rooms":=lq
theorem vdL:LS N0 "at":=lq
theorem vdM:LS N0 "room":=lq
theorem vdN:LS N0 "pair":=lq
theorem vdO:LS N0 "x":=lq
theorem vdP:LS N0 "y":=lq
theorem vdQ:LS N0 "apart":=lq
theorem vdR:LS N0 "further":=lq
theorem agR(F:FunD K "beside" "beside" N0 f fd)(T:Txt P w K mg C)(G_goes_on:FO P w K mg base 2 "goes_on" ["one", "other", "room", "apart"] [] (amX K C))(G_is_otherwise:FO P w K mg base 1 "is_otherwise" ["room"] [] (spOt K j6))(G_is_uneven:FO P w K mg base 1 "is_uneven" ["room"] [] (spOt K u8))(G_check_plain:FO P w K mg base 3 "check_plain" ["one", "other", "signs"] [] (spChk C))(G_moves_by:FO P w K mg base 11 "moves_by" ["one", "other", "signs", "strength"] [] (spMvs C))(G_longer_by:FO P w K mg base 1 "longer_by" ["sign", "room", "pair"] [] (spLg K)):FnOk P w K mg base D9 12 f fd ["one", "other", "signs", "strength"] (spBes K C):=by
 refine F.ok sc_beside ?_ ?_
 .rintro _ _ _ _ ⟨x,y,l,zs,n,R,R',L,M,L',M',rfl,_⟩;rfl
 .intro cdv A outer s H vs Q E hr h;have B5:=hu_of hr;have hu:=hr.units;obtain ⟨a_START,m_START,M_START⟩:=T.x_START;refine ⟨_,QSs.out (A5 (U0 (D1 G_check_plain (hm hr) (qa_c (vi yB) (qa_c (vi yC) (qa_c (vi yD) A2)))))
   (A5 (C6 (n:=4) sc_beside.nd rfl vdI (D1 G_moves_by (hm hr) (qa_c (vi yB) (qa_c (vi yC) (qa_c (vi yD) (qa_c (vi vdx) A2))))))
   (A5 (C6 (n:=5) sc_beside.nd rfl vdJ (amj (P:=P) (w:=w) (K:=K) B5 (jZ m_START) (G3 (qa_c N7 (qa_c N7 A2)))))
   (A5 (C6 (n:=6) sc_beside.nd rfl vdK (R1 (qa_c (jZ m_START) A2)))
   (A5 (C6 (n:=7) sc_beside.nd rfl vdL A1)
   (A5 (qP PassesOwn.never (E1 q_lt (vi vdB) (qe_cB (q_len (K:=K)) T.b_len Z8 (qa_c (vi sB) A2))) (A5 (C6 (n:=8) sc_beside.nd rfl vdM (qe_ix (K:=K) (vi sB) (vi vdB)))
   (A5 (vJ (n:=7) sc_beside.nd rfl vdL A1 vM)
   (A5 (C6 (n:=9) sc_beside.nd rfl vdN (amh (P:=P) (w:=w) (K:=K) B5 (vi yE) (vi sC)))
   (A5 (qs_if (Q7 (K:=K) (D1 G_is_uneven (hm hr) (qa_c (vi sC) A2))) (A4 (C7 (G3 (qa_c (D1 G_longer_by (hm hr) (qa_c (qe_ix (K:=K) (vi yD) A1) (qa_c (vi sC) (qa_c (vi oG) A2)))) (qa_c dY A2))))) G4)
   (A4 (M7 PassesOwn.never (P0 (K:=K) (vi vdy)) (aF (K:=K) (n:=3) (P7 ((D3 (n:=10) sc_beside.nd rfl vdO (.inl rfl))) (P7 ((D3 (n:=11) sc_beside.nd rfl vdP (.inl rfl))) (P7 ((D3 (n:=12) sc_beside.nd rfl vdQ (.inl rfl))) aE)))) (A5 (C6 (n:=13) sc_beside.nd rfl vdR (D1 G_goes_on (hm hr) (qa_c (vi yB) (qa_c (vi yC) (qa_c (vi sC) (qa_c (vi vdG) A2))))))
   (A5 (qs_if (Q7 (K:=K) (D1 G_is_otherwise (hm hr) (qa_c (vi sD) A2))) (A4 (C7 (G3 (qa_c (G3 (qa_c (qe_op (q_add (K:=K)) (qe_ix (K:=K) (vi oG) A1) (vi vdE)) (qa_c (qe_op (q_add (K:=K)) (qe_ix (K:=K) (vi oG) A1) (vi vdF)) A2))) (qa_c dY A2))))) G4)
   (A4 (qs_if (E1 (arr (P:=P) (w:=w) (K:=K) B5) (vi sD) (vi yE)) (A5 (ami (P:=P) (w:=w) (K:=K) B5 (vi yE) (vi sD) (G3 (qa_c (qe_op (q_add (K:=K)) (qe_ix (K:=K) (vi oG) A1) (vi vdE)) (qa_c (qe_op (q_add (K:=K)) (qe_ix (K:=K) (vi oG) A1) (vi vdF)) A2))))
   (A4 (U0 (qe_mB (K:=K) W1 g9 g8 i9 (vi sB) (qa_c (vi sD) A2))))) G4)))))))))))
   (A4 (C7 (G3 (qa_c dY (qa_c (vi sB) A2))))))))))),?_⟩
  obtain ⟨x,y,l,zs,n,R,R',L,M,L',M',rfl,hn,hO,hO',hl,O9,hz,hc,htx,q⟩:=h;obtain ⟨aS,gS,hS⟩:=T.x_START;walk_at "rd";refine ⟨x,y,l,zs,R,R',L,M,L',M',rfl,hO,hO',hl,fun z h=>⟨by have:=(hz z h).1;lia,(hz z h).2⟩,hc,fun H1 S1=>?_⟩;have tN:∀ m∈mvsF R L M R' L' M' n zs,cC m.2.2/\m.1∈zs/\m.2.1∈zs:=fun m h=>aru hn h
  refine ⟨x,y,l,zs,n,R,R',L,M,L',M',rfl,hn,hO.same S1,hO'.same S1,S1 _ _ hl,O9,htx,fun mv H2 nmv S2 hmv=>?_⟩;generalize mvsF R L M R' L' M' n zs=ms at *;have hO2:=hO.same (S1.trans S2);have hO2':=hO'.same (S1.trans S2);have f8:=(S1.trans S2) _ _ hl;have q2:∀ t H',H2 t=none->Same H2 H'->BesR K (hasW R "behind") (hasW R' "behind") ms zs H' t->Q (.ref t) H':=fun t H' nt S' h=>q t H' ((S1.trans S2).free nt) ((S1.trans S2).trans S') h
  clear q hO hO' hl S1 S2 hc htx nmv;clear H1;intro d nd;refine ⟨by decide,fun p0 fF=>⟨by rw [A7 (r8 A3 fF)];exact A3,N1 (0,0,0,0),M_START _,by decide,fun rl nrl=>?_⟩⟩;have hdp:p0≠d:=fun e=>by rw [e,A3] at fF;cases fF
  have B0:Bst P w K H2 (A0 (A0 (A0 (A0 H2 d (dX P w d [])) p0 (HO.tup [V.str (Str.ofString ""),V.str (Str.ofString "")])) d (dX P w d [(N1 (0,0,0,0),a_START,V.ref p0)])) rl (HO.lst [V.ref a_START])) d rl [⟨(0,0,0,0),a_START,p0, "", ""⟩]:=by
   have S3:Same H2 (A0 (A0 (A0 H2 d (dX P w d [])) p0 (HO.tup [V.str (Str.ofString ""),V.str (Str.ofString "")])) d (dX P w d [(N1 (0,0,0,0),a_START,V.ref p0)])):=((Same.new nd).trans (Same.new fF)).put nd;refine ⟨S3.trans (Same.new nrl),A3,C8 A3 nrl,fun e he=>?_,fun e he=>?_⟩
   .rw [E4.mp he];exact M_START _
   .rw [E4.mp he];exact C8 (by rw [A7 hdp];exact A3) nrl
  have nrl2:H2 rl=none:=(((Same.new nd).trans (Same.new fF)).put nd).free nrl;generalize A0 (A0 (A0 (A0 H2 d (dX P w d [])) p0 (HO.tup [V.str (Str.ofString ""),V.str (Str.ofString "")])) d (dX P w d [(N1 (0,0,0,0),a_START,V.ref p0)])) rl (HO.lst [V.ref a_START])=H3 at B0;clear fF nrl;have F0:Bfs (hasW R "behind") (hasW R' "behind") ms [⟨(0,0,0,0),a_START,p0, "", ""⟩] 0:=by
   refine ⟨by simp,fun e he=>?_,fun i h=>absurd h (Nat.not_lt_zero _),fun i e he=>?_,⟨_,rfl,rfl⟩⟩
   .rw [E4.mp he];exact .st
   .rw [E4.mp (K8 he)];exact ⟨F7 _,F7 _⟩
  refine qR (fun m Y H4=>∃ i:Nat,BwI P w K H2 x y l n mv d rl (hasW R "behind") (hasW R' "behind") ms i Y H4/\m=300-i) 300 ⟨0,⟨_,none,none,none,none,none,none,rfl,B0,F0,by simp⟩,rfl⟩ ?_;clear B0 F0 hdp p0 H3;rintro m Y H4 ⟨i,⟨es,u1,u2,u3,u4,u5,u6,rfl,B,F,hi⟩,rfl⟩;have cK:=F.few fun m h=>(tN m h).1
  walk_at "rd";refine ⟨es.length,.inl ⟨_,.of B.ls,by rw [A6]⟩,?_⟩;refine iteD (fun C4=>?_) fun zN=>?_
  .have k9:i<es.length:=by lia
   obtain ⟨e,he⟩:∃ e,es[i]?=some e:=⟨es[i],J7 k9⟩
   have x8:=K8 he;have hln:=F.ln i e he;have lX:=B.pt e x8;refine ⟨BwI P w K H2 x y l n mv d rl (hasW R "behind") (hasW R' "behind") ms (i+1),fun σ' H' B'=>⟨300-(i+1),by lia,i+1,B',rfl⟩,?_⟩;refine ⟨_,.inl (.of B.ls),V.ref e.ra,K9 (by rw [T8,he];rfl),?_⟩;refine ⟨_,B.ds,B.keys,_,rfl,N1 e.r,B.rt e x8,_,akD F.nd he,e.ra,e.r,rfl,B.rt e x8,_,rfl,?_⟩
   by_cases hu:u8 e.r=true
   .rw [if_pos hu];obtain ⟨m,hm⟩:=(F.rc e x8).any hu;have fA:=(tN m hm).2.1;obtain ⟨z,zs',rfl⟩:∃ z zs',zs=z::zs':=by
     cases zs with
     | nil=>cases fA
     | cons z zs'=>exact ⟨z,zs',rfl⟩
    have W7:=(hz z N3).1;refine ⟨_,.inl (.of (B.same _ _ f8)),V.str z,L3 _ _,e.ra,e.pa,z,e.u,e.v,e.r,rfl,B.rt e x8,lX,by lia,by lia,by lia,fun t nt=>⟨by decide,fun t2 iU=>?_⟩⟩;refine q2 t2 _ (B.same.free ((Same.new nt).free iU)) (B.same.trans ((Same.new nt).trans (Same.new iU))) (.inl ⟨t,_,_,A3,C8 A3 iU,?_,?_,.inr ⟨e.r,e.u,e.v,z,F.rc e x8,hu,rfl,rfl⟩⟩)
    .unfold gQ;split <;> simp only [gR] <;> lia
    .unfold gQ;split <;> simp only [gR] <;> lia
   rw [if_neg hu];rw [bK] at hu;obtain ⟨as,m1,m2⟩:=hmv;refine ⟨⟨_,.of (B.same _ _ m1)⟩,forLs (xs:=as.map V.ref) (fun k Y H5=>∃ (es:List BE) (u3 u4 u5 u6:Option V),(Y=[some (.ref x),some (.ref y),some (.ref l),some (.int n),some (.ref mv),some (.ref d),some (.ref rl),some (.int ((i+1:Nat):Int)),some (.ref e.ra),some (.ref e.pa),u3,u4,u5,u6]/\Bst P w K H2 H5 d rl es)/\Bfs (hasW R "behind") (hasW R' "behind") ms es i/\es[i]?=some e/\∀ m∈ms.take k,j6 (O4 (hasW R "behind") (hasW R' "behind") e.r m.2.2)=false/\O4 (hasW R "behind") (hasW R' "behind") e.r m.2.2∈es.map (·.r)) ⟨es,u3,u4,u5,u6,⟨rfl,B⟩,F,he,by simp⟩ (by rintro k Y H5 _ ⟨_,_,_,_,_,⟨_,B⟩,_⟩;exact .of (B.same _ _ m1)) ?_ ?_⟩
   .clear B F he x8 cK k9 C4 hi lX;rintro P' Bk hP k a Y H5 ha ⟨es,u3,u4,u5,u6,⟨rfl,B⟩,F,he,hd⟩;have x8:=K8 he;have lX:=B.pt e x8;have cK:=F.few fun m h=>(tN m h).1
    have k9:i<es.length:=(E9.mp he).1;obtain ⟨c,hc,rfl⟩:=G9 ha;obtain ⟨m,hm,dm,fA,cQ⟩:=Paired.at m2 hc;have hmm:=K8 hm;obtain ⟨z1,z2⟩:=(tN m hmm).2;have l1:=(hz _ z1).1;have l2:=(hz _ z2).1;walk_at "rd";refine ⟨_,.of (B.same _ _ fA),rfl,_,_,rfl,_,_,rfl,_,_,rfl,rfl,?_⟩;refine ⟨x,y,e.ra,dm,e.r,m.2.2,R,R',L,M,L',M',rfl,hO2.same B.same,hO2'.same B.same,B.rt e x8,.of (B.same _ _ cQ),fun t H6 nt S6 ht=>?_⟩;have B6:=B.more S6;clear B;have dA:=S6 _ _ lX;refine ⟨t,_,rfl,.of ht,_,rfl,?_⟩
    by_cases ho:j6 (O4 (hasW R "behind") (hasW R' "behind") e.r m.2.2)=true
    .rw [if_pos ho];refine ⟨_,.inr (.of dA),V.str e.u,L3 _ _,?_⟩;walk_at "rd";refine ⟨P6 (by lia),_,.inr (.of dA),V.str e.v,K9 (j:=1) rfl,?_⟩;walk_at "rd";refine ⟨P6 (by lia),by decide,fun p np=>⟨by decide,fun p1 W8=>?_⟩⟩;exact q2 p1 _ (B6.same.free ((Same.new np).free W8)) (B6.same.trans ((Same.new np).trans (Same.new W8))) (.inl ⟨p,_,_,A3,C8 A3 W8,by rw [gR];lia,by rw [gR];lia,.inl ⟨e.r,e.u,e.v,m,hmm,F.rc e x8,hu,ho,rfl,rfl⟩⟩)
    rw [if_neg ho];rw [bK] at ho;have hnx:∀ {es':List BE},(∀ r∈es.map (·.r),r∈es'.map (·.r))->O4 (hasW R "behind") (hasW R' "behind") e.r m.2.2∈es'.map (·.r)->∀ m'∈ms.take (k+1),j6 (O4 (hasW R "behind") (hasW R' "behind") e.r m'.2.2)=false/\O4 (hasW R "behind") (hasW R' "behind") e.r m'.2.2∈es'.map (·.r):=fun {es'} hs hg m' sW=>by
     rw [M0 hm] at sW
     rcases G0.mp sW with h | h
     .exact ⟨(hd m' h).1,hs _ (hd m' h).2⟩
     .rw [E4.mp h];exact ⟨ho,hg⟩
    walk_at "rd";refine ⟨_,B6.ds,B6.keys,N1 (O4 (hasW R "behind") (hasW R' "behind") e.r m.2.2),.of ht,?_⟩
    by_cases E8:O4 (hasW R "behind") (hasW R' "behind") e.r m.2.2∈es.map (·.r)
    .rw [if_neg (by
      cases hq:lookX (es.map fun e=>(N1 e.r,e.ra,V.ref e.pa)) (N1 (O4 (hasW R "behind") (hasW R' "behind") e.r m.2.2)) with
      | none=>exact absurd E8 (look_es.mp hq)
      | some v=>exact L5)]
     exact hP _ _ _ ⟨es,_,_,_,_,⟨rfl,B6⟩,F,he,hnx (fun _ h=>h) E8⟩
    have hq:=look_es.mpr E8;rw [if_pos (by rw [hq];rfl)];refine ⟨_,.inr (.of dA),V.str e.u,L3 _ _,?_⟩;walk_at "rd";refine ⟨P6 (by lia),_,.inr (.of dA),V.str e.v,K9 (j:=1) rfl,?_⟩;walk_at "rd";refine ⟨P6 (by lia),by decide,fun p np=>?_⟩;have B7:=B6.more (Same.new (u:=HO.tup [V.str (e.u++m.1),V.str (e.v++m.2.1)]) np);have ht7:A0 H6 p (.tup [V.str (e.u++m.1),V.str (e.v++m.2.1)]) t=some (.tup (W3 (O4 (hasW R "behind") (hasW R' "behind") e.r m.2.2))):=C8 ht np;have hp7:A0 H6 p (.tup [V.str (e.u++m.1),V.str (e.v++m.2.1)]) p=some (.tup [V.str (e.u++m.1),V.str (e.v++m.2.1)]):=A3;generalize A0 H6 p (.tup [V.str (e.u++m.1),V.str (e.v++m.2.1)])=H7 at B7 ht7 hp7;have B8:=B7.put nd nrl2 (.of ht7) hp7;have lU:A0 H7 d (dX P w d (es.map (fun e=>(N1 e.r,e.ra,V.ref e.pa))++[(N1 (O4 (hasW R "behind") (hasW R' "behind") e.r m.2.2),t,V.ref p)])) rl=some (.lst (es.map fun e=>V.ref e.ra)):=by rw [A7 (ne_of B7.ls B7.ds (fun z=>by cases z))];exact B7.ls
    refine ⟨_,B7.ds,B7.keys,N1 (O4 (hasW R "behind") (hasW R' "behind") e.r m.2.2),.of ht7,hq,by rw [A6];exact L1 (by lia),V5 lU,appOk lU (by rw [A6];exact L1 (by lia)) (hP _ _ _ ⟨_,_,_,_,_,⟨rfl,B8⟩,F.put he hmm l1 l2 hu ho E8,by rw [dD k9];exact he,hnx (fun r h=>by rw [C9];exact Q5 _ h) (by rw [C9];exact O5 _ N3)⟩)⟩
   rintro Y H5 ⟨es,u3,u4,u5,u6,⟨rfl,B⟩,F,he,hd⟩;rw [A6,Paired.length m2,L6] at hd;exact ⟨es,_,_,_,_,_,_,rfl,B,F.next he hu hd,(E9.mp he).1⟩
  .refine ⟨by decide,fun t nt=>q2 t _ (B.same.free nt) (B.same.trans (Same.new nt)) (.inr ⟨rl,es,A3,C8 B.ls nt,fun e he=>gP (Same.new nt) (B.rt e he),?_⟩)⟩;rw [show es.length=i by lia];exact F
theorem ahE:FnScope ["_law_script", "_law_k"] ["_law_script", "_law_k"] (C1 nS):=E5
abbrev afq:List Str:=["_law_script", "_law_k"]
theorem vdS:VS afq nS "_law_script" 0:=vq
theorem vdT:VS afq nS "_law_k" 1:=vq
theorem ahF(F:FunD K "_law_number" "_law_number" nS f fd)(T:Txt P w K mg C):FnOk P w K mg base D9 1 f fd ["_law_script", "_law_k"] (kT K):=by
 refine F.ok ahE ?_ ?_
 .rintro _ _ _ _ ⟨a,ns,k,rfl,_⟩;rfl
 .intro cdv A outer s H vs Q E hr h;have B5:=hu_of hr;have hu:=hr.units;refine ⟨_,QSs.out (A5 (qs_if (E1 q_lt (vi vdT) (qe_cB (q_len (K:=K)) T.b_len Z8 (qa_c (vi vdS) A2))) (A4 (C7 (qe_op q_mod (qe_op q_mul (qe_ix (K:=K) (vi vdS) (vi vdT)) A1) A1))) G4)
   (A4 (C7 A1))),?_⟩
  obtain ⟨a,ns,k,rfl,hS,hk,q⟩:=h;walk_at "rd";refine ⟨ns.length,.inl ⟨_,hS,by rw [A6]⟩,iteD (fun e=>⟨_,.inl hS,V.int (ns.getD k.toNat 0),?_,?_⟩) fun e=>?_⟩
  .obtain ⟨j,rfl⟩:∃ j:Nat,k=(j:Int):=⟨k.toNat,by lia⟩
   have hl:j<ns.length:=by lia
   refine K9 ?_;rw [T8,J7 hl];show some (V.int ns[j])=_;rw [x9,Int.toNat_natCast,J7 hl];rfl
  .walk_at "rd";unfold numF cellF at q;rw [if_pos e] at q;exact ⟨.inr ⟨by lia,by lia⟩,q⟩
  .unfold numF cellF at q;rw [if_neg e] at q;exact q
theorem sc_l_sign:FnScope ["_law_cell", "_law_k", "_law_signs", "_law_step"] ["_law_cell", "_law_k"] (C1 cA):=E5
abbrev sE:List Str:=["_law_cell", "_law_k", "_law_signs", "_law_step"]
theorem vdU:VS sE cA "_law_cell" 0:=vq
theorem vdV:VS sE cA "_law_k" 1:=vq
theorem vdW:VS sE cA "_law_signs" 2:=vq
theorem vdX:VS sE cA "_law_step" 3:=vq
theorem vdY:LS cA "_law_signs":=lq
theorem vdZ:LS cA "_law_step":=lq
theorem akX(F:FunD K "_law_sign" "_law_sign" cA f fd)(T:Txt P w K mg C):FnOk P w K mg base D9 1 f fd ["_law_cell", "_law_k"] spSg8:=by
 refine F.ok sc_l_sign ?_ ?_
 .rintro _ _ _ _ ⟨n,k,rfl,_⟩;rfl
 .intro cdv A outer s H vs Q E hr h;have B5:=hu_of hr;have hu:=hr.units;refine ⟨_,QSs.out (A5 (C6 (n:=2) sc_l_sign.nd rfl vdY N7)
   (A5 (C6 (n:=2) sc_l_sign.nd rfl vdY (qe_op (q_add (K:=K)) (vi vdW) N7))
   (A5 (C6 (n:=3) sc_l_sign.nd rfl vdZ (qe_ix (K:=K) (R1 (qa_c A1 (qa_c A1 (qa_c A1 (qa_c A1 (qa_c A1 (qa_c A1 (qa_c A1 (qa_c A1 (qa_c A1 (qa_c A1 (qa_c A1 (qa_c A1 A2))))))))))))) (qe_op q_mod (qe_op t7 (vi vdU) A1) A1)))
   (A4 (C7 (qe_ix (K:=K) (vi vdW) (qe_op q_mod (qe_op (q_add (K:=K)) (vi vdU) (qe_op q_mul (vi vdV) (vi vdX))) A1))))))),?_⟩
  obtain ⟨n,k,rfl,hk,q⟩:=h;have Y7:=aoF n;have h2:=(nX n k).1;rw [<- SS_eq] at h2;walk_at "rd";refine ⟨aoe,by decide,fun p np=>⟨_,.inl (.of A3),_,(wY n).1,?_⟩⟩;walk_at "rd";exact ⟨.inr ⟨by lia,by lia⟩,aqV,_,h2,q _ (Same.new np)⟩
theorem sc_l_pool:FnScope ["_law_script", "_law_number_here"] ["_law_script"] (C1 kS):=E5
abbrev amw:List Str:=["_law_script", "_law_number_here"]
theorem vd0:VS amw kS "_law_script" 0:=vq
theorem vd1:LS kS "_law_number_here":=lq
theorem akY(F:FunD K "_law_pool" "_law_pool" kS f fd)(T:Txt P w K mg C)(G_l_number:FO P w K mg base 1 "_law_number" ["_law_script", "_law_k"] [] (kT K))(G_l_sign:FO P w K mg base 1 "_law_sign" ["_law_cell", "_law_k"] [] spSg8):FnOk P w K mg base D9 2 f fd ["_law_script"] (akO K 8):=by
 refine F.ok sc_l_pool ?_ ?_
 .rintro _ _ _ _ ⟨a,ns,rfl,_⟩;rfl
 .intro cdv A outer s H vs Q E hr h;have B5:=hu_of hr;have hu:=hr.units;refine ⟨_,QSs.out (A5 (C6 (n:=1) sc_l_pool.nd rfl vd1 (D1 G_l_number (hm hr) (qa_c (vi vd0) (qa_c A1 A2))))
   (A4 (C7 (b8  (U7:CompOk ["_law_script", "_law_number_here"] (C1 kS).names _ ["_law_k", "_law_number_here"] 1 [1]) (qi_r1 T.b_range (qa_c A1 A2)) (fun _ _ _ _ _=>D3 (n:=0) (show List.Nodup (["_law_k", "_law_number_here"]:List Str) by decide +kernel) rfl (Or.inl rfl)) (fun _ _ _ _ _=>i8) (fun _ _ _ _ _=>(D1 G_l_sign (hm hr) (qa_c (qv 1) (qa_c (qv 0) A2)))))))),?_⟩
  obtain ⟨a,ns,rfl,hS,q⟩:=h;walk_at "rd";refine ⟨a,ns,0,rfl,hS,by decide,?_⟩;walk_at "rd";generalize numF ns 0=n at *;refine ⟨by decide,by decide,compR [some (.int n)] rfl (fun D i ys H2=>Same H H2/\ys=(poolL n i).map V.str) (fun D nD=>⟨Same.new nD,rfl⟩) ?_ ?_⟩
  .rintro D i ys H2 nD hi ⟨S,rfl⟩ hD hy;walk_at "rd";refine ⟨n,_,rfl,by lia,fun H3 S3=>⟨S3 _ _ hD,by unfold poolL;rw [A6,A6,List.length_range];exact L1 (by have:i<8:=hi;lia),CW.put hi hy ⟨(S.trans S3).put nD,?_⟩⟩⟩;unfold poolL;rw [List.range_succ,C9,C9,bP];rfl
  rintro p ys H1 np ⟨S1,rfl⟩ hp _;exact q p H1 np S1 hp
theorem sc_l_digits:FnScope ["_law_script", "_law_digits_here", "_law_k"] ["_law_script"] (C1 eO):=E5
abbrev yF:List Str:=["_law_script", "_law_digits_here", "_law_k"]
theorem vd2:VS yF eO "_law_script" 0:=vq
theorem vd3:VS yF eO "_law_digits_here" 1:=vq
theorem vd4:VS yF eO "_law_k" 2:=vq
theorem vd5:LS eO "_law_digits_here":=lq
theorem vd6:LS eO "_law_k":=lq
theorem ahG(F:FunD K "_law_digits" "_law_digits" eO f fd)(T:Txt P w K mg C)(G_l_number:FO P w K mg base 1 "_law_number" ["_law_script", "_law_k"] [] (kT K)):FnOk P w K mg base D9 2 f fd ["_law_script"] (am2 K 4):=by
 refine F.ok sc_l_digits ?_ ?_
 .rintro _ _ _ _ ⟨a,ns,rfl,_⟩;rfl
 .intro cdv A outer s H vs Q E hr h;have B5:=hu_of hr;have hu:=hr.units;refine ⟨_,QSs.out (A5 (C6 (n:=1) sc_l_digits.nd rfl vd5 (R1 A2))
   (A5 (M7 PassesOwn.never (qi_r1 T.b_range (qa_c A1 A2)) (D3 (n:=2) sc_l_digits.nd rfl vd6 (.inl rfl)) (A4 (U0 (qe_mB (K:=K) W1 g9 g8 i9 (vi vd3) (qa_c (D1 G_l_number (hm hr) (qa_c (vi vd2) (qa_c (qe_op (q_add (K:=K)) A1 (vi vd4)) A2))) A2)))))
   (A4 (C7 (vi vd3))))),?_⟩
  obtain ⟨a,ns,rfl,hS,q⟩:=h;walk_at "rd";intro p np;refine ⟨by decide,by decide,forRs (fun i Y H2=>∃ (u:Option V) (ds:List Int),Y=[some (.ref a),some (.ref p),u]/\Same H H2/\H2 p=some (.lst (ds.map V.int))/\ds.length=i) ⟨none,[],rfl,Same.new np,A3,rfl⟩ ?_ ?_⟩
  .rintro P' Bk hP i Y H2 hi ⟨u,ds,rfl,S,hp,hl⟩;have hi8:i<4:=hi;walk_at "rd";exact ⟨V5 hp,a,ns,_,rfl,S.seq hS,by lia,appOk hp (by rw [A6];exact L1 (by lia)) (hP _ _ _ ⟨_,ds++[_],rfl,S.put np,by rw [A3,C9];rfl,by rw [D7,hl];rfl⟩)⟩
  rintro Y H2 ⟨u,ds,rfl,S,hp,hl⟩;walk_at "rd";exact q p H2 ds np S hp hl
theorem sc_l_row:FnScope ["_law_pool_here", "_law_digits_here", "_law_turned", "_law_row_here", "_law_k", "_law_at"] ["_law_pool_here", "_law_digits_here", "_law_turned"] (C1 j4):=E5
abbrev lE:List Str:=["_law_pool_here", "_law_digits_here", "_law_turned", "_law_row_here", "_law_k", "_law_at"]
theorem vd7:VS lE j4 "_law_pool_here" 0:=vq
theorem vd8:VS lE j4 "_law_digits_here" 1:=vq
theorem yG:VS lE j4 "_law_turned" 2:=vq
theorem lF:VS lE j4 "_law_row_here" 3:=vq
theorem yH:VS lE j4 "_law_k" 4:=vq
theorem vec:VS lE j4 "_law_at" 5:=vq
theorem ved:LS j4 "_law_turned":=lq
theorem vee:LS j4 "_law_row_here":=lq
theorem vef:LS j4 "_law_k":=lq
theorem veg:LS j4 "_law_at":=lq
theorem amx(F:FunD K "_law_row" "_law_row" j4 f fd)(T:Txt P w K mg C):FnOk P w K mg base D9 1 f fd ["_law_pool_here", "_law_digits_here", "_law_turned"] (am3 K 4 8):=by
 refine F.ok sc_l_row ?_ ?_
 .rintro _ _ _ _ ⟨p,d,t,n,ds,rfl,_⟩;rfl
 .intro cdv A outer s H vs Q E hr h;have B5:=hu_of hr;have hu:=hr.units;refine ⟨_,QSs.out (A5 (C6 (n:=3) sc_l_row.nd rfl vee (O6 (K:=K) (vi vd7) (L9 A1) (L9 A1)))
   (A5 (M7 PassesOwn.never (qi_r1 T.b_range (qa_c A1 A2)) (D3 (n:=4) sc_l_row.nd rfl vef (.inl rfl)) (A4 (qs_if (E1 (q_eq (K:=K) hu) (qe_op q_mod (qe_ix (K:=K) (vi vd8) (vi yH)) A1) A1) (A5 (C6 (n:=5) sc_l_row.nd rfl veg (qe_op q_mod (qe_op t7 (qe_ix (K:=K) (vi vd8) (vi yH)) A1) (qe_op (q_add (K:=K)) (qe_cB (q_len (K:=K)) T.b_len Z8 (qa_c (vi lF) A2)) A1)))
   (A4 (C6 (n:=3) sc_l_row.nd rfl vee (qe_op (q_add (K:=K)) (qe_op (q_add (K:=K)) (O6 (K:=K) (vi lF) R3 (L9 (vi vec))) (R1 (qa_c (qe_ix (K:=K) (vi vd7) (vi yH)) A2))) (O6 (K:=K) (vi lF) (L9 (vi vec)) R3))))) G4)))
   (A5 (C6 (n:=2) sc_l_row.nd rfl ved (qe_op q_mod (vi yG) (qe_cB (q_len (K:=K)) T.b_len Z8 (qa_c (vi lF) A2))))
   (A4 (C7 (qe_op (q_add (K:=K)) (O6 (K:=K) (vi lF) (L9 (vi yG)) R3) (O6 (K:=K) (vi lF) R3 (L9 (vi yG))))))))),?_⟩
  obtain ⟨p,d,t,n,ds,rfl,hp,hd,bA,q⟩:=h;walk_at "rd";refine rSlR.l (.of hp) fun l1 n1=>?_
  rw [show cutV ((poolL n 8).map V.str) (some 4) (some 6)=[p8 n 4,p8 n 5].map V.str from rfl];have S1:Same H (A0 H l1 (.lst ([p8 n 4,p8 n 5].map V.str))):=Same.new n1;have h1:A0 H l1 (.lst ([p8 n 4,p8 n 5].map V.str)) l1=some (.lst ([p8 n 4,p8 n 5].map V.str)):=A3;generalize A0 H l1 (.lst ([p8 n 4,p8 n 5].map V.str))=H1 at S1 h1;clear n1;refine ⟨by decide,by decide,forRs (fun i Y H2=>∃ (u v:Option V) (l:Addr) (ls:List Str),(Y=[some (.ref p),some (.ref d),some (.int t),some (.ref l),u,v]/\Same H H2)/\H2 l=some (.lst (ls.map V.str))/\Row8 n 4 i ds ls) ⟨none,none,l1,_,⟨rfl,S1⟩,h1,uab (by decide)⟩ ?_ ?_⟩
  .clear S1 h1;rintro P' Bk hP i Y H2 hi ⟨u,v,l,ls,⟨rfl,S⟩,hl,hr⟩;have fN:i<4:=hi;have ad:G2 (ds.map V.int) (0+(i:Int))=some (V.int (ds.getD i 0)):=by rw [bP];exact K9 (by rw [T8,x9,J7 (by lia)];rfl)
   have ap:G2 ((poolL n 8).map V.str) (0+(i:Int))=some (V.str (p8 n i)):=by rw [bP];exact K9 (by rw [T8,xB (by lia)];rfl)
   have hle:=hr.le;walk_at "rd";refine ⟨_,.inl (.of (S _ _ hd)),_,ad,?_⟩;walk_at "rd";refine iteD (fun h0=>?_) fun h0=>hP _ _ _ ⟨_,_,l,ls,⟨rfl,S⟩,hl,hr.no h0⟩
   refine ⟨_,.inl (.of (S _ _ hd)),_,ad,?_⟩;walk_at "rd";refine ⟨ls.length,.inl ⟨_,.of hl,by rw [A6]⟩,by lia,?_⟩;obtain ⟨j,hj,hjl⟩:∃ j:Nat,ds.getD i 0 / 12 % ((ls.length:Int)+1)=j/\j<=ls.length:=by
    have h1:=Int.emod_nonneg (ds.getD i 0 / 12) (show ((ls.length:Int)+1)≠0 by lia);have h2:=mJ (ds.getD i 0 / 12) (show (0:Int)<(ls.length:Int)+1 by lia);exact ⟨(ds.getD i 0 / 12 % ((ls.length:Int)+1)).toNat,by lia,by lia⟩
   rw [hj];refine rSlR.l (.of hl) fun l3 n3=>?_
   rw [bV,<- dJ];have S3:=S.trans (Same.new (u:=HO.lst ((ls.take j).map V.str)) n3);have hl3:=C8 (u:=HO.lst ((ls.take j).map V.str)) hl n3;have h3:A0 H2 l3 (.lst ((ls.take j).map V.str)) l3=some (.lst ((ls.take j).map V.str)):=A3;generalize A0 H2 l3 (.lst ((ls.take j).map V.str))=H3 at S3 h3 hl3;refine ⟨_,.inl (.of (S3 _ _ hp)),_,ap,by decide,fun l4 n4=>?_⟩;walk_at "rd";refine rAddR.l (C8 h3 n4) A3 (by simp only [A6,L4,Z0];exact P6 (by lia)) fun l5 n5=>?_
   have S5:Same H3 (A0 (A0 H3 l4 (.lst [V.str (p8 n i)])) l5 (.lst ((ls.take j).map V.str++[V.str (p8 n i)]))):=(Same.new n4).trans (Same.new n5);have h5:A0 (A0 H3 l4 (.lst [V.str (p8 n i)])) l5 (.lst ((ls.take j).map V.str++[V.str (p8 n i)])) l5=some (.lst ((ls.take j++[p8 n i]).map V.str)):=by rw [A3,C9];rfl
   generalize A0 (A0 H3 l4 (.lst [V.str (p8 n i)])) l5 (.lst ((ls.take j).map V.str++[V.str (p8 n i)]))=H5 at S5 h5;refine rSlR.l (.of (S5 _ _ hl3)) fun l7 n7=>?_
   rw [t8,<- fU];walk_at "rd";refine rAddR.l (C8 h5 n7) A3 (by simp only [A6,D7,L4,y4,Z0];exact P6 (by lia)) fun l8 n8=>?_
   refine hP _ _ _ ⟨_,_,l8,ls.take j++[p8 n i]++ls.drop j,⟨rfl,(S3.trans S5).trans ((Same.new n7).trans (Same.new n8))⟩,by rw [A3,<- C9],hr.yes (by decide) fN h0 ?_⟩
   have:=List.perm_middle (a:=p8 n i) (l₁:=ls.take j) (l₂:=ls.drop j)
   rw [p9] at this;rw [V9];exact this
  rintro Y H2 ⟨u,v,l,ls,⟨rfl,S⟩,hl,hr⟩;have hle:ls.length<=2+4:=hr.le;have h0:0<ls.length:=pT ((hr.mm _).mpr (.inl rfl));walk_at "rd";refine ⟨ls.length,.inl ⟨_,.of hl,by rw [A6]⟩,by lia,?_⟩;obtain ⟨j,hj,hjl⟩:∃ j:Nat,t % (ls.length:Int)=j/\j<=ls.length:=by
   have h1:=Int.emod_nonneg t (show (ls.length:Int)≠0 by lia);have h2:=mJ t (show (0:Int)<(ls.length:Int) by lia);exact ⟨(t % (ls.length:Int)).toNat,by lia,by lia⟩
  rw [hj];refine rSlR.l (.of hl) fun l3 n3=>?_
  rw [t8,<- fU];refine rSlR.l (.of (C8 hl n3)) fun l4 n4=>?_
  rw [bV,<- dJ];walk_at "rd";refine rAddR.l (C8 A3 n4) A3 (by simp only [A6,L4,y4];exact P6 (by lia)) fun l5 n5=>?_
  rw [<- C9];have S5:=S.trans (((Same.new n3).trans (Same.new n4)).trans (Same.new (u:=HO.lst ((ls.drop j++ls.take j).map V.str)) n5));refine q l5 _ (ls.drop j++ls.take j) (S.free ((Same.new n3).free ((Same.new n4).free n5))) S5 A3 (hr.perm ?_)
  have:=List.perm_append_comm (l₁:=ls.drop j) (l₂:=ls.take j)
  rw [p9] at this;exact this
theorem sc_l_made:FnScope ["_law_pool_here", "_law_digits_here", "_law_shape", "_law_row_here", "_law_marks", "_law_rules", "_law_table", "_law_k", "_law_forms", "_law_group", "_law_base", "_law_parts"] ["_law_pool_here", "_law_digits_here", "_law_shape"] (C1 P1):=E5
abbrev o5:List Str:=["_law_pool_here", "_law_digits_here", "_law_shape", "_law_row_here", "_law_marks", "_law_rules", "_law_table", "_law_k", "_law_forms", "_law_group", "_law_base", "_law_parts"]
theorem o6:VS o5 P1 "_law_pool_here" 0:=vq
theorem oH:VS o5 P1 "_law_digits_here" 1:=vq
theorem oI:VS o5 P1 "_law_shape" 2:=vq
theorem yI:VS o5 P1 "_law_row_here" 3:=vq
theorem vel:VS o5 P1 "_law_marks" 4:=vq
theorem oJ:VS o5 P1 "_law_rules" 5:=vq
theorem lG:VS o5 P1 "_law_table" 6:=vq
theorem aR:VS o5 P1 "_law_k" 7:=vq
theorem yJ:VS o5 P1 "_law_forms" 8:=vq
theorem sF:VS o5 P1 "_law_group" 9:=vq
theorem sG:VS o5 P1 "_law_base" 10:=vq
theorem ves:VS o5 P1 "_law_parts" 11:=vq
theorem vet:LS P1 "_law_row_here":=lq
theorem veu:LS P1 "_law_marks":=lq
theorem vev:LS P1 "_law_rules":=lq
theorem vew:LS P1 "_law_table":=lq
theorem vex:LS P1 "_law_k":=lq
theorem vey:LS P1 "_law_forms":=lq
theorem vez:LS P1 "_law_group":=lq
theorem veA:LS P1 "_law_base":=lq
theorem veB:LS P1 "_law_parts":=lq
theorem akZ(F:FunD K "_law_made" "_law_made" P1 f fd)(T:Txt P w K mg C)(G_Order___init__:KO P w K mg base 5 C "Order" ["self", "rules"] (rD C))(G_l_row:FO P w K mg base 1 "_law_row" ["_law_pool_here", "_law_digits_here", "_law_turned"] [] (am3 K 4 8)):FnOk P w K mg base D9 7 f fd ["_law_pool_here", "_law_digits_here", "_law_shape"] (akP C 4 8):=by
 refine F.ok sc_l_made ?_ ?_
 .rintro _ _ _ _ ⟨p,d,s',n,s0,s1,s2,ds,rfl,_⟩;rfl
 .intro cdv A outer s H vs Q E hr h;have B5:=hu_of hr;have hu:=hr.units;refine ⟨_,QSs.out (A5 (C6 (n:=3) sc_l_made.nd rfl vet (D1 G_l_row (hm hr) (qa_c (vi o6) (qa_c (vi oH) (qa_c (qe_ix (K:=K) (vi oI) A1) A2)))))
   (A5 (C6 (n:=4) sc_l_made.nd rfl veu (R1 (qa_c (qe_ix (K:=K) (vi o6) (qe_op (q_add (K:=K)) A1 (qe_ix (K:=K) (vi oI) A1))) (qa_c (qe_ix (K:=K) (vi o6) (qe_op q_sub A1 (qe_ix (K:=K) (vi oI) A1))) A2))))
   (eD (C6 (n:=5) sc_l_made.nd rfl vev (R1 (qa_c (qe_op (q_add (K:=K)) (G3 (qa_c N7 A2)) (qe_cT (mV (K:=K)) T.b_tuple gF (qa_c (vi yI) A2))) (qa_c (qe_op (q_add (K:=K)) (G3 (qa_c N7 A2)) (qe_cT (mV (K:=K)) T.b_tuple gF (qa_c (vi vel) A2))) A2))))
   (A5 (C6 (n:=6) sc_l_made.nd rfl vew gH)
   (A5 (M7 PassesOwn.never (qi_r1 T.b_range (qa_c (qe_cB (q_len (K:=K)) T.b_len Z8 (qa_c (vi yI) A2)) A2)) (D3 (n:=7) sc_l_made.nd rfl vex (.inl rfl)) (A4 (m7 B5 (vi lG) (qe_ix (K:=K) (vi yI) (vi aR)) (G3 (qa_c (vi aR) (qa_c (G3 A2) (qa_c A1 A2)))))))
   (A5 (C6 (n:=8) sc_l_made.nd rfl vey (R1 (qa_c A1 (qa_c A1 A2))))
   (A5 (M7 PassesOwn.never (qi_r1 T.b_range (qa_c A1 A2)) (D3 (n:=7) sc_l_made.nd rfl vex (.inl rfl)) (A5 (C6 (n:=9) sc_l_made.nd rfl vez (qe_op q_mod (qe_op t7 (qe_ix (K:=K) (vi oH) (vi aR)) A1) A1))
   (A5 (C6 (n:=10) sc_l_made.nd rfl veA (qe_ix (K:=K) (vi o6) (qe_op (q_add (K:=K)) A1 (vi sF))))
   (eD (C6 (n:=11) sc_l_made.nd rfl veB (qe_ix (K:=K) (R1 (qa_c (G3 A2) (qa_c (G3 A2) (qa_c (G3 A2) (qa_c (G3 (qa_c (qe_ix (K:=K) (vi o6) A1) A2)) (qa_c (G3 (qa_c (qe_ix (K:=K) (vi o6) A1) A2)) (qa_c (G3 (qa_c (qe_ix (K:=K) (vi o6) A1) (qa_c (qe_ix (K:=K) (vi o6) A1) A2))) A2))))))) (qe_op q_mod (qe_ix (K:=K) (vi oH) (vi aR)) A1)))
   (A4 (qs_if (E1 (q_eq (K:=K) hu) (qe_op q_mod (qe_ix (K:=K) (vi oH) (vi aR)) A1) A1) (A5 (gJ (qe_op (q_add (K:=K)) (qe_ix (K:=K) (vi yJ) (vi sF)) A1) (nC (vi yJ) (vi sF)))
   (A5 (U0 (qe_mB (K:=K) W1 g9 g8 i9 (vi oJ) (qa_c (G3 (qa_c N7 (qa_c (vi sG) (qa_c (qe_ix (K:=K) (vi o6) (vi aR)) A2)))) A2)))
   (A4 (m7 B5 (vi lG) (qe_ix (K:=K) (vi o6) (vi aR)) (G3 (qa_c (qe_ix (K:=K) (Z9 B5 (vi lG) (vi sG)) A1) (qa_c (G3 A2) (qa_c (qe_ix (K:=K) (vi yJ) (vi sF)) A2)))))))) (A4 (qs_if (E1 (q_ne (K:=K) hu) (qe_op q_mod (qe_ix (K:=K) (vi oH) (vi aR)) A1) A1) (A5 (U0 (qe_mB (K:=K) W1 g9 g8 i9 (vi oJ) (qa_c (qe_op (q_add (K:=K)) (G3 (qa_c N7 (qa_c (qe_ix (K:=K) (vi o6) (vi aR)) (qa_c (vi sG) A2)))) (vi ves)) A2)))
   (A4 (m7 B5 (vi lG) (qe_ix (K:=K) (vi o6) (vi aR)) (G3 (qa_c (qe_ix (K:=K) (Z9 B5 (vi lG) (vi sG)) A1) (qa_c (qe_cT (mV (K:=K)) T.b_tuple gF (qa_c (b8  (U7:CompOk ["_law_pool_here", "_law_digits_here", "_law_shape", "_law_row_here", "_law_marks", "_law_rules", "_law_table", "_law_k", "_law_forms", "_law_group", "_law_base", "_law_parts"] (C1 P1).names _ ["_law_mark", "_law_marks"] 1 [4]) (eC (K:=K) (vi ves)) (fun _ _ _ _ _=>D3 (n:=0) (show List.Nodup (["_law_mark", "_law_marks"]:List Str) by decide +kernel) rfl (Or.inl rfl)) (fun _ _ _ _ _=>i8) (fun _ _ _ _ _=>(qe_mB (K:=K) W1 PySem.F.slot_list_index PySem.F.type_list_index al7 (qv 1) (qa_c (qv 0) A2)))) A2)) (qa_c A1 A2))))))) G4))))))))
   (eD (qs_if (E1 (q_eq (K:=K) hu) (qe_ix (K:=K) (vi oI) A1) A1) (A4 (U0 (qe_mB (K:=K) W1 g9 g8 i9 (vi oJ) (qa_c (G3 (qa_c N7 A2)) A2)))) G4)
   (A4 (C7 (G3 (qa_c (aon G_Order___init__ (hm hr) (qa_c (qe_op (q_add (K:=K)) (O6 (K:=K) (vi oJ) (L9 A1) R3) (O6 (K:=K) (vi oJ) R3 (L9 A1))) A2)) (qa_c (vi lG) (qa_c (aB (q_eq (K:=K) hu) (qe_ix (K:=K) (vi oI) A1) A1) A2)))))))))))))),?_⟩
  obtain ⟨p,d,s',n,s0,s1,s2,ds,rfl,hp,hd,hs,bA,hs1,q⟩:=h;have at_:∀ k:Nat,k<8->G2 ((poolL n 8).map V.str) (k:Int)=some (V.str (p8 n k)):=fun k hk=>K9 (by rw [T8,xB hk];rfl)
  obtain ⟨g1,cR⟩:∃ g:Nat,s1=g:=⟨s1.toNat,by lia⟩
  subst cR;have hg2:g1<=1:=by lia
  have am:∃ ms:List Str,kW n 4 ms/\∀ H1:Hp,[V.str (p8 n (6+g1)),V.str (p8 n (7-g1))]=ms.map V.str:=by
   rcases (show g1=0\/g1=1 by lia) with rfl | rfl
   .exact ⟨[p8 n 6,p8 n 7],.inl rfl,fun _=>rfl⟩
   .exact ⟨[p8 n 7,p8 n 6],.inr rfl,fun _=>rfl⟩
  obtain ⟨ms,fC,ems⟩:=am;walk_at "rd";refine ⟨_,.inl (.of hs),V.int s0,L3 _ _,p,d,s0,n,ds,rfl,hp,hd,bA,fun rw_ H1 ls nrw S1 hrw hr=>⟨_,.inl (.of (S1 _ _ hs)),V.int g1,K9 (j:=1) rfl,?_⟩⟩;walk_at "rd";refine ⟨_,.inl (.of (S1 _ _ hp)),V.str (p8 n (6+g1)),by rw [show (6:Int)+(g1:Int)=((6+g1:Nat):Int) by lia];exact at_ _ (by lia),_,.inl (.of (S1 _ _ hs)),V.int g1,K9 (j:=1) rfl,_,rfl,_,.inl (.of (S1 _ _ hp)),V.str (p8 n (7-g1)),by rw [show (7:Int)-(g1:Int)=((7-g1:Nat):Int) by lia];exact at_ _ (by lia),by decide,fun mk nmk=>?_⟩;rw [ems H1];have S2:=S1.trans (Same.new (u:=HO.lst (ms.map V.str)) nmk);have dB:=C8 (u:=HO.lst (ms.map V.str)) hrw nmk;have iW:A0 H1 mk (.lst (ms.map V.str)) mk=some (.lst (ms.map V.str)):=A3;generalize A0 H1 mk (.lst (ms.map V.str))=H2 at S2 dB iW;clear nmk nrw hrw S1 H1;have hle:ls.length<=2+4:=hr.le;have hlne:ls≠[]:=fun e=>by have:=(hr.mm (p8 n 4)).mpr (.inl rfl);rw [e] at this;cases this
  have pM:ms.length=2:=by rcases fC with rfl | rfl <;> rfl
  refine midS (fun Y H3=>∃ rl:Addr,(Y=[some (.ref p),some (.ref d),some (.ref s'),some (.ref rw_),some (.ref mk),some (.ref rl),none,none,none,none,none,none]/\Same H2 H3)/\H2 rl=none/\R4 H3 rl [(("row" : Str),ls),(("marks" : Str),ms)]) ?_ ?_
  .intro M' hM';walk_at "rd";refine ⟨by decide,fun p1 n1=>rTupR.l (.of (C8 dB n1)) fun p2 n2=>?_⟩;walk_at "rd";refine rAddR.t (.of (C8 A3 n2)) (.of A3) (by simp) (by simp only [A6,J9,Z2];exact P6 (by lia)) (fun e=>absurd (List.map_eq_nil_iff.mp e) hlne) fun _ p3 n3=>?_
   have S3:Same H2 (A0 (A0 (A0 H2 p1 (.tup [V.str (Str.ofString "row")])) p2 (.tup (ls.map V.str))) p3 (.tup ([V.str (Str.ofString "row")]++ls.map V.str))):=((Same.new n1).trans (Same.new n2)).trans (Same.new n3);have h3:A0 (A0 (A0 H2 p1 (.tup [V.str (Str.ofString "row")])) p2 (.tup (ls.map V.str))) p3 (.tup ([V.str (Str.ofString "row")]++ls.map V.str)) p3=some (tupR (("row" : Str),ls)):=A3;generalize A0 (A0 (A0 H2 p1 (.tup [V.str (Str.ofString "row")])) p2 (.tup (ls.map V.str))) p3 (.tup ([V.str (Str.ofString "row")]++ls.map V.str))=H3 at S3 h3;refine ⟨by decide,fun p4 n4=>rTupR.l (.of (C8 (S3 _ _ iW) n4)) fun p5 n5=>?_⟩;walk_at "rd";refine rAddR.t (.of (C8 A3 n5)) (.of A3) (by simp) (by simp only [A6,J9,Z2];exact P6 (by lia)) (fun e=>by rw [List.map_eq_nil_iff.mp e] at pM;cases pM) fun _ p6 n6=>⟨by decide,fun rl nrl=>?_⟩
   have S6:Same H3 (A0 (A0 (A0 H3 p4 (.tup [V.str (Str.ofString "marks")])) p5 (.tup (ms.map V.str))) p6 (.tup ([V.str (Str.ofString "marks")]++ms.map V.str))):=((Same.new n4).trans (Same.new n5)).trans (Same.new n6);have h6:A0 (A0 (A0 H3 p4 (.tup [V.str (Str.ofString "marks")])) p5 (.tup (ms.map V.str))) p6 (.tup ([V.str (Str.ofString "marks")]++ms.map V.str)) p6=some (tupR (("marks" : Str),ms)):=A3;generalize A0 (A0 (A0 H3 p4 (.tup [V.str (Str.ofString "marks")])) p5 (.tup (ms.map V.str))) p6 (.tup ([V.str (Str.ofString "marks")]++ms.map V.str))=H6 at S6 h6 nrl;exact hM' _ _ ⟨rl,⟨rfl,(S3.trans S6).trans (Same.new nrl)⟩,(S3.trans S6).free nrl,[p3,p6],A3,.cons (C8 (S6 _ _ h3) nrl) (.cons (C8 h6 nrl) .nil)⟩
  rintro Y H3 ⟨rl,⟨rfl,S3⟩,nrl,hR⟩;walk_at "rd";intro tb ntb;have ntb2:H2 tb=none:=S3.free ntb;refine ⟨ls.length,.inl ⟨_,.of (C8 (S3 _ _ dB) ntb),by rw [A6]⟩,by lia,by lia,?_⟩;rw [Int.toNat_natCast];refine forRs (fun i Y H4=>∃ (u:Option V) (ks:List Str),(Y=[some (.ref p),some (.ref d),some (.ref s'),some (.ref rw_),some (.ref mk),some (.ref rl),some (.ref tb),u,none,none,none,none]/\Same H2 H4)/\R4 H4 rl [(("row" : Str),ls),(("marks" : Str),ms)]/\IsTb (v6 n 4 ds ls ms) H4 tb ks/\ks.length<=i/\∀ y∈ls.take i,y∈ks) ⟨none,[],⟨rfl,S3.trans (Same.new ntb)⟩,hR.same (Same.new ntb),⟨fun _=>tb,fun _=>tb,fun _=>(0,[],0),A3,fun y hy=>by cases hy⟩,C3 _,by simp⟩ ?_ ?_
  .clear S3 hR ntb H3;rintro P' Bk hP i Y H4 hi ⟨u,ks,⟨rfl,S4⟩,hR,hT,k0,Y1⟩;have hy:ls[i]?=some ls[i]:=J7 hi;have ar:G2 (ls.map V.str) (0+(i:Int))=some (V.str ls[i]):=by rw [bP];exact K9 (by rw [T8,hy];rfl)
   have hidx:ls.idxOf ls[i]=i:=hr.nd.idxOf_getElem i hi;walk_at "rd";intro p1 n1;obtain ⟨K1,q1,S5,e1⟩:=newT (o:=.tup []) n1;rw [q1];refine ⟨by decide,fun p2 n2=>?_⟩;obtain ⟨K2,q2,S6,e2⟩:=newT (o:=.tup [V.int (0+(i:Int)),V.ref p1,V.int 0]) n2;rw [q2];refine ⟨_,.inl (.of (((S4.trans S5).trans S6) _ _ dB)),_,ar,?_⟩;have tO:=S5.trans S6;obtain ⟨kvs,bB,_⟩:=(hT.same tO).top;obtain ⟨x,h1,h2,o,rfl⟩:=(hT.same tO).put (l:=ls[i]) (p:=p2) (q:=p1) (e:=((ls.idxOf ls[i]:Int),[],0)) (by lia) (.inl ⟨jJ hi,rfl⟩) ⟨by rw [hidx];rw [bP] at e2;exact e2,S6 _ _ e1⟩;refine ⟨_,h1,hP _ _ _ ⟨_,_,⟨rfl,(S4.trans tO).put ntb2⟩,(hR.same tO).putD bB,h2,N4 (xD _ _) (by lia),fun y w8=>?_⟩⟩;rw [M0 hy] at w8;rw [dd_mem]
   rcases G0.mp w8 with h | h
   .exact .inl (Y1 y h)
   .exact .inr (E4.mp h)
  clear S3 hR ntb H3;rintro Y H3 ⟨u,ks,⟨rfl,S3⟩,hR,hT,k0,Y1⟩;rw [L6] at Y1;walk_at "rd";refine ⟨by decide,fun fo nfo=>⟨by decide,by decide,?_⟩⟩;have nfo2:H2 fo=none:=S3.free nfo;have I0:MdI H2 (A0 H3 fo (.lst [.int 0,.int 0])) rl tb fo (v6 n 4 ds ls ms) ks ([(("row" : Str),ls),(("marks" : Str),ms)]++X8 n 4 ds 0) (N8 n 4 ds 0 0) (N8 n 4 ds 0 1):=⟨S3.trans (Same.new nfo),hR.same (Same.new nfo),hT.same (Same.new nfo),A3,fun e=>by obtain ⟨ts,hR⟩:=hR;have:=hR.top;rw [<- e,nfo] at this;cases this⟩
  refine forRs (fun i Y H4=>∃ (u v w r:Option V) (ks:List Str),(Y=[some (.ref p),some (.ref d),some (.ref s'),some (.ref rw_),some (.ref mk),some (.ref rl),some (.ref tb),u,some (.ref fo),v,w,r]/\MdI H2 H4 rl tb fo (v6 n 4 ds ls ms) ks ([(("row" : Str),ls),(("marks" : Str),ms)]++X8 n 4 ds i) (N8 n 4 ds i 0) (N8 n 4 ds i 1))/\ks.length<=2+4+i/\(∀ y∈ls,y∈ks)/\∀ k<i,¬ ds.getD k 0 % 6=0->p8 n k∈ks) ⟨u,none,none,none,ks,⟨rfl,I0⟩,by lia,Y1,fun k hk=>absurd hk (Nat.not_lt_zero k)⟩ ?_ ?_
  .clear I0 S3 hR hT k0 Y1 nfo H3 u ks;rintro P' Bk hP i Y H4 hi ⟨u,v,w,r,ks,⟨rfl,I⟩,k0,Y1,tP⟩;have fN:i<4:=hi;obtain ⟨D,hD⟩:∃ D,ds.getD i 0=D:=⟨_,rfl⟩
   have ad:G2 (ds.map V.int) (0+(i:Int))=some (V.int D):=by rw [bP,<- hD];exact K9 (by rw [T8,x9,J7 (by lia)];rfl)
   have ap:G2 ((poolL n 8).map V.str) (0+(i:Int))=some (V.str (p8 n i)):=by rw [bP];exact at_ i (by lia)
   obtain ⟨g,hg⟩:∃ g:Nat,D / 6 % 2=g:=⟨(D / 6 % 2).toNat,by lia⟩
   have cR:g<=1:=by lia
   have lY:=bs8_g (n:=n) (m:=4) hg;have hbk:p8 n (4+g)∈ks:=Y1 _ (by rw [<- lY];rcases (show g=0\/g=1 by lia) with rfl | rfl <;> rw [lY,hr.mm] <;> simp);have S2':=S2;walk_at "rd";refine ⟨_,.inl (.of ((S2.trans I.same) _ _ hd)),_,ad,?_⟩;walk_at "rd";rw [hg];refine ⟨_,.inl (.of ((S2.trans I.same) _ _ hp)),V.str (p8 n (4+g)),by rw [show (4:Int)+(g:Int)=((4+g:Nat):Int) by lia];exact at_ _ (by lia),?_⟩;refine midS (fun Y H5=>∃ pt:Addr,(Y=[some (.ref p),some (.ref d),some (.ref s'),some (.ref rw_),some (.ref mk),some (.ref rl),some (.ref tb),some (.int (0+(i:Int))),some (.ref fo),some (.int g),some (.str (p8 n (4+g))),some (.ref pt)]/\Same H4 H5)/\H5 pt=some (.tup ((prt8 n 4 (D % 6)).map V.str))) ?_ ?_
   .intro M' hM';have l6:=(S2.trans I.same) _ _ hp;have V8:=(S2.trans I.same) _ _ hd;walk_at "rd";intro p1 n1;obtain ⟨K1,q1,T1,e1⟩:=newT (o:=.tup []) n1;rw [q1];intro p2 n2;obtain ⟨K2,q2,T2,e2⟩:=newT (o:=.tup []) n2;rw [q2];intro p3 n3;obtain ⟨K3,q3,T3,e3⟩:=newT (o:=.tup []) n3;rw [q3];have T13:=T1.trans (T2.trans T3);refine ⟨_,.inl (.of (T13 _ _ l6)),_,at_ 6 (by decide),by decide,fun p4 n4=>?_⟩;obtain ⟨K4,q4,T4,e4⟩:=newT (o:=.tup [V.str (p8 n 6)]) n4;rw [q4];refine ⟨_,.inl (.of ((T13.trans T4) _ _ l6)),_,at_ 7 (by decide),by decide,fun p5 n5=>?_⟩;obtain ⟨K5,q5,T5,e5⟩:=newT (o:=.tup [V.str (p8 n 7)]) n5;rw [q5];have T15:=T13.trans (T4.trans T5);refine ⟨_,.inl (.of (T15 _ _ l6)),_,at_ 6 (by decide),_,.inl (.of (T15 _ _ l6)),_,at_ 7 (by decide),by decide,fun p6 n6=>?_⟩;obtain ⟨K6,q6,T6,e6⟩:=newT (o:=.tup [V.str (p8 n 6),V.str (p8 n 7)]) n6;rw [q6];refine ⟨by decide,fun p7 n7=>?_⟩;obtain ⟨K7,q7,T7,e7⟩:=newT (o:=.lst [V.ref p1,V.ref p2,V.ref p3,V.ref p4,V.ref p5,V.ref p6]) n7;rw [q7];have T17:=T15.trans (T6.trans T7);refine ⟨_,.inl (.of (T17 _ _ V8)),_,ad,?_⟩;walk_at "rd";have T27:=T2.trans (T3.trans (T4.trans (T5.trans (T6.trans T7))))
    rcases (show D % 6=0\/D % 6=1\/D % 6=2\/D % 6=3\/D % 6=4\/D % 6=5 by lia) with e | e | e | e | e | e <;> rw [e]
    .exact ⟨_,.inl (.of e7),V.ref p1,rfl,hM' _ _ ⟨p1,⟨rfl,T17⟩,by rw [e];exact T27 _ _ e1⟩⟩
    .exact ⟨_,.inl (.of e7),V.ref p2,rfl,hM' _ _ ⟨p2,⟨rfl,T17⟩,by rw [e];exact (T3.trans (T4.trans (T5.trans (T6.trans T7)))) _ _ e2⟩⟩
    .exact ⟨_,.inl (.of e7),V.ref p3,rfl,hM' _ _ ⟨p3,⟨rfl,T17⟩,by rw [e];exact (T4.trans (T5.trans (T6.trans T7))) _ _ e3⟩⟩
    .exact ⟨_,.inl (.of e7),V.ref p4,rfl,hM' _ _ ⟨p4,⟨rfl,T17⟩,by rw [e];exact (T5.trans (T6.trans T7)) _ _ e4⟩⟩
    .exact ⟨_,.inl (.of e7),V.ref p5,rfl,hM' _ _ ⟨p5,⟨rfl,T17⟩,by rw [e];exact (T6.trans T7) _ _ e5⟩⟩
    .exact ⟨_,.inl (.of e7),V.ref p6,rfl,hM' _ _ ⟨p6,⟨rfl,T17⟩,by rw [e];exact T7 _ _ e6⟩⟩
   rintro Y H5 ⟨pt,⟨rfl,S5⟩,lX⟩
   replace I:=I.more S5
   clear S5;have hRl:([(("row" : Str),ls),(("marks" : Str),ms)]++X8 n 4 ds i).length<=1000:=by rw [D7];have:=rM n 4 ds i;simp only [J9,Z2];lia
   have kdd:∀ k<i+1,¬ ds.getD k 0 % 6=0->p8 n k∈dd ks (p8 n i):=fun k hk h0=>by
    rw [dd_mem]
    by_cases e:k=i
    .exact .inr (by rw [e])
    .exact .inl (tP k (by lia) h0)
   walk_at "rd";refine ⟨_,.inl (.of ((S2.trans I.same) _ _ hd)),_,ad,?_⟩;walk_at "rd";refine iteD (fun h2=>?_) fun h2=>?_
   .have fy:=fun g' (h:g'<=1)=>aoH (n:=n) (m:=4) (ds:=ds) (i:=i) (g:=g) (g':=g') (by decide) (by rw [hD];exact h2) (by rw [hD];exact hg) h
    have ag:G2 [V.int (N8 n 4 ds i 0:Nat),V.int (N8 n 4 ds i 1:Nat)] (g:Int)=some (V.int (N8 n 4 ds i g:Nat)):=by rcases (show g=0\/g=1 by lia) with rfl | rfl <;> rfl
    have ig:X3 2 (g:Int)=some g:=by rcases (show g=0\/g=1 by lia) with rfl | rfl <;> rfl
    have sg:[V.int (N8 n 4 ds i 0:Nat),V.int (N8 n 4 ds i 1:Nat)].set g (V.int ((N8 n 4 ds i g:Nat)+1))=[V.int (N8 n 4 ds (i+1) 0:Nat),V.int (N8 n 4 ds (i+1) 1:Nat)]:=by
     rw [fy 0 (by decide),fy 1 (by decide)]
     rcases (show g=0\/g=1 by lia) with rfl | rfl <;> rfl
    have ag':G2 [V.int (N8 n 4 ds (i+1) 0:Nat),V.int (N8 n 4 ds (i+1) 1:Nat)] (g:Int)=some (V.int ((N8 n 4 ds i g+1:Nat):Int)):=by
     have:=fy g cR
     rw [if_pos rfl] at this;rw [<- this]
     rcases (show g=0\/g=1 by lia) with rfl | rfl <;> rfl
    have ex:X8 n 4 ds (i+1)=X8 n 4 ds i++[(("great" : Str),[p8 n (4+g),p8 n i])]:=by rw [eQ,hD];unfold Q2;rw [if_neg (by lia),if_pos h2,lY]
    refine ⟨_,.inl (.of I.fm),_,ag,?_⟩;walk_at "rd";refine ⟨_,I.fm,g,ig,?_⟩;rw [sg];have I1:=I.form (b0:=N8 n 4 ds (i+1) 0) (b1:=N8 n 4 ds (i+1) 1) nfo2;generalize A0 H5 fo (.lst [V.int (N8 n 4 ds (i+1) 0:Nat),V.int (N8 n 4 ds (i+1) 1:Nat)])=K1 at I1;obtain ⟨ts,hR1⟩:=id I1.ru;refine ⟨V5 hR1.top,_,.inl (.of ((S2.trans I1.same) _ _ hp)),_,ap,by decide,fun p1 n1=>?_⟩;obtain ⟨K2,q2,T2,e2⟩:=newT (o:=.tup [V.str (Str.ofString "great"),V.str (p8 n (4+g)),V.str (p8 n i)]) n1;rw [q2];obtain ⟨xs,a1,a2,I2⟩:=(I1.more T2).rule (z:=(("great" : Str),[p8 n (4+g),p8 n i])) nrl hRl e2;refine appOk a1 a2 ?_;rw [V9,<- ex] at I2;generalize A0 K2 rl (.lst (xs++[V.ref p1]))=K3 at I2;obtain ⟨pp,qq,e,g1',g2',g3'⟩:=I2.tab.get hbk;have ee:=g2'.base (by decide) cR;refine ⟨_,g1',?_⟩;walk_at "rd";refine ⟨_,.inr (.of g3'.1),V.int e.1,L3 _ _,fun p2 n2=>?_⟩;obtain ⟨K4,q4,T4,e4⟩:=newT (o:=.tup []) n2;rw [q4];refine ⟨_,.inl (.of (T4 _ _ I2.fm)),_,ag',by decide,fun p3 n3=>?_⟩;obtain ⟨K5,q5,T5,e5⟩:=newT (o:=.tup [V.int e.1,V.ref p2,V.int ((N8 n 4 ds i g+1:Nat):Int)]) n3;rw [q5];have I5:=I2.more (T4.trans T5);refine ⟨_,.inl (.of ((S2.trans I5.same) _ _ hp)),_,ap,?_⟩;obtain ⟨x,b1,b2⟩:=I5.put (l:=p8 n i) (p:=p3) (q:=p2) (e:=((ls.idxOf (p8 n (4+g)):Int),[],((N8 n 4 ds i g+1:Nat):Int))) ntb2 (by lia) (.inr ⟨i,fN,rfl,by rw [hD];lia,.inl ⟨by rw [hD];exact h2,by rw [hD,lY];rfl⟩⟩) ⟨by rw [ee] at e5;exact e5,T5 _ _ e4⟩;exact ⟨x,b1,hP _ _ _ ⟨_,_,_,_,_,⟨rfl,b2⟩,N4 (xD _ _) (by lia),fun y hy=>dd_mem.mpr (.inl (Y1 y hy)),kdd⟩⟩
   have fn:=fun g'=>arw (n:=n) (m:=4) (ds:=ds) (i:=i) (g:=g') (by rw [hD];exact h2)
   refine ⟨_,.inl (.of ((S2.trans I.same) _ _ hd)),_,ad,_,rfl,iteN (fun h0=>?_) fun h0=>hP _ _ _ ⟨_,_,_,_,ks,⟨rfl,by rw [fn 0,fn 1,eQ,show Q2 n 4 (ds.getD i 0) i=[] by rw [hD];unfold Q2;rw [if_pos h0],M3];exact I⟩,by lia,Y1,fun k hk bB=>tP k (by have:k≠i:=fun e=>bB (by rw [e,hD];exact h0);lia) bB⟩⟩;have X9:=amt n 4 (D % 6);obtain ⟨ts,hR1⟩:=id I.ru;refine ⟨V5 hR1.top,_,.inl (.of ((S2.trans I.same) _ _ hp)),_,ap,by decide,fun p1 n1=>?_⟩;obtain ⟨K1,q1,T1,e1⟩:=newT (o:=.tup [V.str (Str.ofString "as"),V.str (p8 n i),V.str (p8 n (4+g))]) n1;rw [q1];have iX:=T1 _ _ lX;refine addT e1 iX (by simp) (by simp only [A6,J9,Z2];exact P6 (by lia)) fun t K2 T2 e2=>?_
   have ex:X8 n 4 ds (i+1)=X8 n 4 ds i++[(("as" : Str),p8 n i::p8 n (4+g)::prt8 n 4 (D % 6))]:=by rw [eQ,hD];unfold Q2;rw [if_neg h0,if_neg h2,lY]
   obtain ⟨xs,a1,a2,I2⟩:=(I.more (T1.trans T2)).rule (z:=(("as" : Str),p8 n i::p8 n (4+g)::prt8 n 4 (D % 6))) nrl hRl e2;refine appOk a1 a2 ?_;rw [V9,<- ex] at I2;have iY:A0 K2 rl (.lst (xs++[V.ref t])) pt=some (.tup ((prt8 n 4 (D % 6)).map V.str)):=by rw [A7 (ne_of (T2 _ _ iX) a1 (fun z=>by cases z))];exact T2 _ _ iX
   generalize A0 K2 rl (.lst (xs++[V.ref t]))=K3 at I2 iY;obtain ⟨pp,qq,e,g1',g2',g3'⟩:=I2.tab.get hbk;have ee:=g2'.base (by decide) cR;refine ⟨_,g1',?_⟩;walk_at "rd";refine ⟨_,.inr (.of g3'.1),V.int e.1,L3 _ _,⟨_,.of iY⟩,compT (xs:=(prt8 n 4 (D % 6)).map V.str) [some (.ref mk)] rfl (fun D' j ys K4=>Same K3 K4/\ys=(((prt8 n 4 (D % 6)).take j).map fun q=>(ms.idxOf q:Int)).map V.int) (fun D' nD=>⟨Same.new nD,rfl⟩) (by rintro D' j ys K4 nD _ ⟨S,_⟩;exact .of (S _ _ iY)) ?_ ?_⟩
   .rintro D' j y ys K4 nD hj hy ⟨S,rfl⟩ hD' P5;obtain ⟨z,hz,rfl⟩:=G9 hy;have pN:=(I2.same.trans S) _ _ iW;walk_at "rd";refine ⟨V5 pN,mk,ms,z,rfl,rfl,pN,fC.mem.mpr (xC (K8 hz)),hD',by simp only [A6,L4];exact L1 (by lia),CW.put hj P5 ⟨S.put nD,?_⟩⟩;rw [M0 hz,C9,C9];rfl
   rintro D' ys K4 nD ⟨S4,rfl⟩ hD' _;rw [A6,L6] at hD';walk_at "rd";refine rTupR.l (.of hD') fun p2 n2=>⟨by decide,fun p3 n3=>?_⟩
   obtain ⟨K5,q5,T5,e5⟩:=newT (o:=.tup (((prt8 n 4 (D % 6)).map fun q=>(ms.idxOf q:Int)).map V.int)) n2;rw [q5] at n3 ⊢
   obtain ⟨K6,q6,T6,e6⟩:=newT (o:=.tup [V.int e.1,V.ref p2,V.int 0]) n3;rw [q6];have I6:=I2.more (S4.trans (T5.trans T6));refine ⟨_,.inl (.of ((S2.trans I6.same) _ _ hp)),_,ap,?_⟩;obtain ⟨x,b1,b2⟩:=I6.put (l:=p8 n i) (p:=p3) (q:=p2) (e:=((ls.idxOf (p8 n (4+g)):Int),(prt8 n 4 (D % 6)).map fun q=>(ms.idxOf q:Int),0)) ntb2 (by lia) (.inr ⟨i,fN,rfl,by rw [hD];exact h0,.inr ⟨by rw [hD];exact h2,by rw [hD,lY]⟩⟩) ⟨by rw [ee] at e6;exact e6,T6 _ _ e5⟩;exact ⟨x,b1,hP _ _ _ ⟨_,_,_,_,_,⟨rfl,by rw [fn 0,fn 1];exact b2⟩,N4 (xD _ _) (by lia),fun y hy=>dd_mem.mpr (.inl (Y1 y hy)),kdd⟩⟩
  clear I0 S3 hR hT k0 Y1 nfo H3 u ks;rintro Y H3 ⟨u,v,w,r,ks,⟨rfl,I⟩,k0,Y1,tP⟩
  change MdI H2 H3 rl tb fo (v6 n 4 ds ls ms) ks ([(("row" : Str),ls),(("marks" : Str),ms)]++X8 n 4 ds 4) (N8 n 4 ds 4 0) (N8 n 4 ds 4 1) at I
  have hXl:=rM n 4 ds 4;have hS3:=(S2.trans I.same) _ _ hs;refine midS (fun Y H4=>(Y=[some (.ref p),some (.ref d),some (.ref s'),some (.ref rw_),some (.ref mk),some (.ref rl),some (.ref tb),u,some (.ref fo),v,w,r]/\Same H2 H4)/\R4 H4 rl ([(("row" : Str),ls),(("marks" : Str),ms)]++X8 n 4 ds 4++U8 "behind" (decide (s2=1)))/\IsTb (v6 n 4 ds ls ms) H4 tb ks) ?_ ?_
  .intro M' hM';walk_at "rd";refine ⟨_,.inl (.of hS3),V.int s2,K9 (j:=2) rfl,?_⟩;walk_at "rd";refine iteD (fun h=>?_) fun h=>hM' _ _ ⟨⟨rfl,I.same⟩,by rw [decide_eq_false h,show U8 "behind" false=[] from rfl,M3];exact I.ru,I.tab⟩
   obtain ⟨ts,hR1⟩:=id I.ru;refine ⟨V5 hR1.top,by decide,fun p1 n1=>?_⟩;obtain ⟨K1,q1,T1,e1⟩:=newT (o:=.tup [V.str (Str.ofString "behind")]) n1;rw [q1];obtain ⟨xs,a1,a2,I2⟩:=(I.more T1).rule (z:=(("behind" : Str),[])) nrl (by rw [D7];simp only [J9,Z2];lia) e1;exact appOk a1 a2 (hM' _ _ ⟨⟨rfl,I2.same⟩,by rw [decide_eq_true h];exact I2.ru,I2.tab⟩)
  rintro Y H4 ⟨⟨rfl,S4⟩,⟨ts,hR⟩,hT⟩;have hR':Paired (fun t z=>H4 t=some (tupR z)) ts ((("row" : Str),ls)::((("marks" : Str),ms)::X8 n 4 ds 4++U8 "behind" (decide (s2=1)))):=hR.row;have pO:=hR.top;obtain ⟨t0,ts',rfl,ht0,bC⟩:∃ t0 ts',ts=t0::ts'/\H4 t0=some (tupR (("row" : Str),ls))/\Paired (fun t z=>H4 t=some (tupR z)) ts' ((("marks" : Str),ms)::X8 n 4 ds 4++U8 "behind" (decide (s2=1))):=by
   cases hR' with
   | cons h t=>exact ⟨_,_,rfl,h,t⟩
  have oX:ts'.length<=20:=by
   rw [Paired.length bC,fT,J9,D7]
   have:(U8 "behind" (decide (s2=1))).length<=1:=by unfold U8;split <;> simp
   lia
  walk_at "rd";refine rSlR.l (.of pO) fun l1 n1=>?_
  rw [show cutV ((t0::ts').map V.ref) (some 1) none=ts'.map V.ref from vO _ _];refine rSlR.l (.of (C8 pO n1)) fun l2 n2=>?_
  rw [show cutV ((t0::ts').map V.ref) none (some 1)=[V.ref t0] from bV _ 1];walk_at "rd";refine rAddR.l (C8 A3 n2) A3 (by simp only [A6,Z0];exact P6 (by lia)) fun l3 n3=>?_
  have S5:Same H4 (A0 (A0 (A0 H4 l1 (.lst (ts'.map V.ref))) l2 (.lst [V.ref t0])) l3 (.lst (ts'.map V.ref++[V.ref t0]))):=((Same.new n1).trans (Same.new n2)).trans (Same.new n3);have h5:A0 (A0 (A0 H4 l1 (.lst (ts'.map V.ref))) l2 (.lst [V.ref t0])) l3 (.lst (ts'.map V.ref++[V.ref t0])) l3=some (.lst ((ts'++[t0]).map V.ref)):=by rw [A3,C9];rfl
  generalize A0 (A0 (A0 H4 l1 (.lst (ts'.map V.ref))) l2 (.lst [V.ref t0])) l3 (.lst (ts'.map V.ref++[V.ref t0]))=H5 at S5 h5;have hR5:R4 H5 l3 (R8 ls ms (X8 n 4 ds 4) (decide (s2=1))):=⟨ts'++[t0],h5,by
   have:=afk (N5 bC fun _ _ e=>S5 _ _ e) (.cons (S5 _ _ ht0) .nil)
   unfold R8
   simpa using this⟩
  intro x dx nx ndx ne;refine init8 hR5 nx ndx ne (by decide) hr fC fun H9 L M S9 hO o8=>⟨rfl,?_⟩
  have pP:=S5.trans S9;have hs9:=(S2.trans (S4.trans pP)) _ _ hs;refine ⟨_,.inl (.of hs9),V.int s2,K9 (j:=2) rfl,?_⟩;walk_at "rd";refine ⟨by decide,fun t nt=>?_⟩;obtain ⟨K1,q1,T1,e1⟩:=newT (o:=.tup [V.ref x,V.ref tb,V.bl (decide (s2=1))]) nt;rw [q1];have S20:=S2.trans (S4.trans (pP.trans T1));have hkA:∀ k<4+2,p8 n k∈ks:=fun k hk=>by
   by_cases bG:k<4
   .by_cases h0:ds.getD k 0 % 6=0
    .exact Y1 _ ((hr.mm _).mpr (.inr (.inr ⟨k,bG,h0,rfl⟩)))
    .exact tP k bG h0
   .refine Y1 _ ((hr.mm _).mpr ?_)
    by_cases hm:k=4
    .exact .inl (by rw [hm])
    .exact .inr (.inl (by rw [show k=5 by lia]))
  refine q t _ _ L M (S2.free (S4.free (pP.free nt))) S20 (MadeT.mk8 e1 (hO _ T1).1 o8 ((hT.same pP).same T1) hkA) fun f xs o hf=>MadeT.mk8 (by rw [A7 (fun e=>by rw [e] at e1;rw [S20 _ _ hf] at e1;cases e1)];exact e1) ((hO _ T1).2 f xs o ((S2.trans (S4.trans S5)) _ _ hf)) o8 (((hT.same pP).same T1).putL (S20 _ _ hf)) hkA
theorem sc_l_both:FnScope ["_law_script", "_law_pool_here", "_law_cell", "_law_digits_here", "_law_shape", "_law_one", "_law_way", "_law_number_here", "_law_at", "_law_job"] ["_law_script", "_law_pool_here"] (C1 Q9):=E5
abbrev aT:List Str:=["_law_script", "_law_pool_here", "_law_cell", "_law_digits_here", "_law_shape", "_law_one", "_law_way", "_law_number_here", "_law_at", "_law_job"]
theorem yK:VS aT Q9 "_law_script" 0:=vq
theorem veD:VS aT Q9 "_law_pool_here" 1:=vq
theorem sH:VS aT Q9 "_law_cell" 2:=vq
theorem gZ:VS aT Q9 "_law_digits_here" 3:=vq
theorem lH:VS aT Q9 "_law_shape" 4:=vq
theorem veH:VS aT Q9 "_law_one" 5:=vq
theorem hG:VS aT Q9 "_law_way" 6:=vq
theorem veJ:VS aT Q9 "_law_number_here" 7:=vq
theorem yL:VS aT Q9 "_law_at" 8:=vq
theorem veL:VS aT Q9 "_law_job" 9:=vq
theorem veM:LS Q9 "_law_cell":=lq
theorem yM:LS Q9 "_law_digits_here":=lq
theorem veO:LS Q9 "_law_shape":=lq
theorem veP:LS Q9 "_law_one":=lq
theorem veQ:LS Q9 "_law_way":=lq
theorem veR:LS Q9 "_law_number_here":=lq
theorem veS:LS Q9 "_law_at":=lq
theorem veT:LS Q9 "_law_job":=lq
theorem ak0(F:FunD K "_law_both" "_law_both" Q9 f fd)(T:Txt P w K mg C)(G_l_number:FO P w K mg base 1 "_law_number" ["_law_script", "_law_k"] [] (kT K))(G_l_digits:FO P w K mg base 2 "_law_digits" ["_law_script"] [] (am2 K 4))(G_l_made:FO P w K mg base 7 "_law_made" ["_law_pool_here", "_law_digits_here", "_law_shape"] [] (akP C 4 8)):FnOk P w K mg base D9 8 f fd ["_law_script", "_law_pool_here"] (akQ K C 4 8):=by
 refine F.ok sc_l_both ?_ ?_
 .rintro _ _ _ _ ⟨a,p,n,ns,rfl,_⟩;rfl
 .intro cdv A outer s H vs Q E hr h;have B5:=hu_of hr;have hu:=hr.units;refine ⟨_,QSs.out (A5 (C6 (n:=2) sc_l_both.nd rfl veM (qe_op t7 (D1 G_l_number (hm hr) (qa_c (vi yK) (qa_c A1 A2))) A1))
   (A5 (C6 (n:=3) sc_l_both.nd rfl yM (D1 G_l_digits (hm hr) (qa_c (vi yK) A2)))
   (A5 (C6 (n:=4) sc_l_both.nd rfl veO (R1 (qa_c (qe_op q_mod (vi sH) A1) (qa_c (qe_op q_mod (qe_op t7 (vi sH) A1) A1) (qa_c (qe_op q_mod (qe_op t7 (vi sH) A1) A1) A2)))))
   (A5 (C6 (n:=5) sc_l_both.nd rfl veP (D1 G_l_made (hm hr) (qa_c (vi veD) (qa_c (vi gZ) (qa_c (vi lH) A2)))))
   (A5 (C6 (n:=6) sc_l_both.nd rfl veQ (qe_op q_mod (qe_op t7 (vi sH) A1) A1))
   (A5 (C6 (n:=7) sc_l_both.nd rfl veR (D1 G_l_number (hm hr) (qa_c (vi yK) (qa_c A1 A2))))
   (eD (qs_if (E1 (q_eq (K:=K) hu) (vi hG) A1) (A4 (gJ (qe_op (q_add (K:=K)) (qe_ix (K:=K) (vi lH) A1) A1) (nC (vi lH) A1))) (A4 (qs_if (E1 q_lt (vi hG) A1) (A4 (gJ (qe_op q_sub A1 (qe_ix (K:=K) (vi lH) (vi hG))) (nC (vi lH) (vi hG)))) (A4 (qs_if (E1 (q_eq (K:=K) hu) (vi hG) A1) (A4 (mT (n:=3) sc_l_both.nd rfl yM (U7:CompOk ["_law_script", "_law_pool_here", "_law_cell", "_law_digits_here", "_law_shape", "_law_one", "_law_way", "_law_number_here", "_law_at", "_law_job"] (C1 Q9).names _ ["_law_k", "_law_number_here"] 1 [7]) (qi_r1 T.b_range (qa_c A1 A2)) (fun _ _ _ _ _=>D3 (n:=0) (show List.Nodup (["_law_k", "_law_number_here"]:List Str) by decide +kernel) rfl (Or.inl rfl)) (fun _ _ _ _ _=>i8) (fun _ _ _ _ _=>(qe_op q_mod (qe_op q_mul (qe_op (q_add (K:=K)) (qv 1) (qe_op q_mul A1 (qv 0))) A1) A1)))) (A4 (qs_if (E1 q_lt (vi hG) A1) (A5 (C6 (n:=8) sc_l_both.nd rfl veS (qe_op q_mod (vi veJ) A1))
   (A5 (C6 (n:=9) sc_l_both.nd rfl veT (qe_op q_mod (qe_ix (K:=K) (vi gZ) (vi yL)) A1))
   (A4 (gJ (qe_op (q_add (K:=K)) (qe_op q_sub (qe_ix (K:=K) (vi gZ) (vi yL)) (vi veL)) (qe_op q_mod (qe_op t7 (vi veJ) A1) A1)) (nC (vi gZ) (vi yL)))))) (A4 (qs_if (E1 (q_eq (K:=K) hu) (vi hG) A1) (A4 (C6 (n:=3) sc_l_both.nd rfl yM (qe_op (q_add (K:=K)) (O6 (K:=K) (vi gZ) (L9 A1) R3) (O6 (K:=K) (vi gZ) R3 (L9 A1))))) G4)))))))))
   (A4 (C7 (G3 (qa_c (vi veH) (qa_c (D1 G_l_made (hm hr) (qa_c (vi veD) (qa_c (vi gZ) (qa_c (vi lH) A2)))) A2)))))))))))),?_⟩
  obtain ⟨a,p,n,ns,rfl,hS,hp,q⟩:=h;walk_at "rd";refine ⟨a,ns,0,rfl,hS,by decide,_,rfl,a,ns,rfl,hS,fun d H1 ds nd S1 hd bA=>⟨by decide,fun s' ns'=>?_⟩⟩;generalize numF ns 0 / 1116=c;obtain ⟨H2,q2,T2,e2⟩:=newT (o:=.lst [V.int (c % 3),V.int (c / 3 % 2),V.int (c / 6 % 2)]) ns';rw [q2];have S2:=S1.trans T2;refine ⟨p,d,s',n,_,_,_,ds,rfl,S2 _ _ hp,T2 _ _ hd,e2,bA,by lia,fun t1 H3 R L M nt1 S3 hM1 hM2=>?_⟩;have lZ:=S2.trans S3;have Q4:=S3 _ _ (T2 _ _ hd);have bH:=S3 _ _ e2;have ns0:H s'=none:=S1.free ns';walk_at "rd";refine ⟨a,ns,_,rfl,lZ.seq hS,by decide,?_⟩;generalize numF ns _=num;refine midS (fun Y H4=>∃ (u v:Option V) (d':Addr) (ds':List Int) (s0 s1 s2:Int),(Y=[some (.ref a),some (.ref p),some (.int c),some (.ref d'),some (.ref s'),some (.ref t1),some (.int (c / 12 % 8)),some (.int num),u,v]/\Same H H4)/\MadeT C H4 t1 n 4 (decide (c / 6 % 2=1)) R L M/\H4 d'=some (.lst (ds'.map V.int))/\ds'.length=4/\H4 s'=some (.lst [.int s0,.int s1,.int s2])/\(s1=0\/s1=1)) ?_ ?_
  .intro M' hM';have eV:d≠s':=r8 hd ns';have iZ:∀ s0 s1 s2:Int,s1=0\/s1=1->M' [some (.ref a),some (.ref p),some (.int c),some (.ref d),some (.ref s'),some (.ref t1),some (.int (c / 12 % 8)),some (.int num),none,none] (A0 H3 s' (.lst [.int s0,.int s1,.int s2])):=fun s0 s1 s2 h=>hM' _ _ ⟨_,_,d,ds,s0,s1,s2,⟨rfl,lZ.put ns0⟩,hM2 s' _ _ e2,by rw [A7 eV];exact Q4,bA,A3,h⟩
   walk_at "rd";refine iteD (fun h0=>?_) fun h0=>iteD (fun h3=>?_) fun h3=>iteD (fun h4=>?_) fun h4=>iteD (fun h6=>?_) fun h6=>iteD (fun h7=>?_) fun h7=>hM' _ _ ⟨_,_,d,ds,_,_,_,⟨rfl,lZ⟩,hM1,Q4,bA,bH,by lia⟩
   .refine ⟨_,.inl (.of bH),V.int (c % 3),L3 _ _,?_⟩;walk_at "rd";exact ⟨_,bH,0,rfl,iZ _ _ _ (by lia)⟩
   .rcases (show c / 12 % 8=1\/c / 12 % 8=2 by lia) with e | e <;> rw [e]
    .refine ⟨_,.inl (.of bH),V.int (c / 3 % 2),rfl,?_⟩;walk_at "rd";rw [<- e];refine ⟨_,bH,1,by rw [e];rfl,iZ _ _ _ (by lia)⟩
    .refine ⟨_,.inl (.of bH),V.int (c / 6 % 2),rfl,?_⟩;walk_at "rd";rw [<- e];refine ⟨_,bH,2,by rw [e];rfl,iZ _ _ _ (by lia)⟩
   .refine ⟨by decide,by decide,compR [some (.int num)] rfl (fun D i ys H2=>Same H3 H2/\∃ ds':List Int,ys=ds'.map V.int/\ds'.length=i) (fun D nD=>⟨Same.new nD,[],rfl,rfl⟩) ?_ ?_⟩
    .rintro D i ys H4 nD hi ⟨S,ds',rfl,hl⟩ hD hy;have fN:i<4:=hi;walk_at "rd";exact ⟨.inl ⟨by decide,by decide⟩,.inr ⟨by decide,by decide⟩,hD,by rw [A6];exact L1 (by lia),CW.put hi hy ⟨S.put nD,ds'++[_],by rw [C9];rfl,by rw [D7,hl];rfl⟩⟩
    rintro D ys H4 nD ⟨S,ds',rfl,hl⟩ hD _;exact hM' _ _ ⟨_,_,D,ds',_,_,_,⟨rfl,lZ.trans S⟩,hM1.same S,hD,hl,S _ _ bH,by lia⟩
   .obtain ⟨j,hj⟩:∃ j:Nat,num % 4=j:=⟨(num % 4).toNat,by lia⟩
    have hjl:j<ds.length:=by lia
    have ad:G2 (ds.map V.int) (num % 4)=some (V.int ds[j]):=by rw [hj];exact K9 (by rw [T8,J7 hjl];rfl)
    refine ⟨_,.inl (.of Q4),_,ad,_,rfl,_,.inl (.of Q4),_,ad,_,rfl,_,Q4,j,?_,hM' _ _ ⟨_,_,d,ds.set j _,_,_,_,⟨rfl,lZ.put nd⟩,hM2 d _ _ (T2 _ _ hd),by rw [A3,List.map_set],by rw [List.length_set];exact bA,by rw [A7 eV.symm];exact bH,by lia⟩⟩;unfold X3;rw [hj,A6,if_pos (Int.natCast_nonneg _),if_pos (by lia)];rfl
   .refine rSlR.l (.of Q4) fun l1 n1=>rSlR.l (.of (C8 Q4 n1)) fun l2 n2=>?_
    rw [show cutV (ds.map V.int) (some 1) none=(ds.drop 1).map V.int by rw [show cutV (ds.map V.int) (some 1) none=_ from t8 _ 1,fU],show cutV (ds.map V.int) none (some 1)=(ds.take 1).map V.int by rw [show cutV (ds.map V.int) none (some 1)=_ from bV _ 1,dJ]] at *;walk_at "rd";refine rAddR.l (C8 A3 n2) A3 (by simp only [A6,L4,y4];exact P6 (by lia)) fun l3 n3=>?_
    have S5:Same H3 (A0 (A0 (A0 H3 l1 (.lst ((ds.drop 1).map V.int))) l2 (.lst ((ds.take 1).map V.int))) l3 (.lst ((ds.drop 1).map V.int++(ds.take 1).map V.int))):=((Same.new n1).trans (Same.new n2)).trans (Same.new n3);exact hM' _ _ ⟨_,_,l3,ds.drop 1++ds.take 1,_,_,_,⟨rfl,lZ.trans S5⟩,hM1.same S5,by rw [A3,C9],by rw [D7,y4,L4];lia,S5 _ _ bH,by lia⟩
  rintro Y H4 ⟨u,v,d',ds',s0,s1,s2,⟨rfl,S4⟩,hM4,V8,hdl4,hs4,hs14⟩;walk_at "rd";refine ⟨p,d',s',n,s0,s1,s2,ds',rfl,S4 _ _ hp,V8,hs4,hdl4,hs14,fun t2 H5 R' L' M' iU S5 hM5 _=>⟨by decide,fun t nt=>q t t1 t2 _ _ _ R L M R' L' M' (S4.free (S5.free nt)) (S4.trans (S5.trans (Same.new nt))) A3 ((hM4.same S5).same (Same.new nt)) (hM5.same (Same.new nt))⟩⟩
theorem sc_l_some:FnScope ["_law_script", "_law_pool_here", "_law_most", "_law_number_here", "_law_some_here"] ["_law_script", "_law_pool_here", "_law_most"] (C1 aO):=E5
abbrev oK:List Str:=["_law_script", "_law_pool_here", "_law_most", "_law_number_here", "_law_some_here"]
theorem veU:VS oK aO "_law_script" 0:=vq
theorem veV:VS oK aO "_law_pool_here" 1:=vq
theorem veW:VS oK aO "_law_most" 2:=vq
theorem yN:VS oK aO "_law_number_here" 3:=vq
theorem sI:VS oK aO "_law_some_here" 4:=vq
theorem veZ:LS aO "_law_number_here":=lq
theorem ve0:LS aO "_law_some_here":=lq
theorem ak1(F:FunD K "_law_some" "_law_some" aO f fd)(T:Txt P w K mg C)(G_l_number:FO P w K mg base 1 "_law_number" ["_law_script", "_law_k"] [] (kT K)):FnOk P w K mg base D9 2 f fd ["_law_script", "_law_pool_here", "_law_most"] (akR K 4 8):=by
 refine F.ok sc_l_some ?_ ?_
 .rintro _ _ _ _ ⟨a,p,k,n,ns,rfl,_⟩;rfl
 .intro cdv A outer s H vs Q E hr h;have B5:=hu_of hr;have hu:=hr.units;refine ⟨_,QSs.out (A5 (C6 (n:=3) sc_l_some.nd rfl veZ (D1 G_l_number (hm hr) (qa_c (vi veU) (qa_c A1 A2))))
   (A5 (C6 (n:=4) sc_l_some.nd rfl ve0 (O6 (K:=K) (vi veV) R3 (L9 (qe_op q_mod (vi yN) (qe_op (q_add (K:=K)) (vi veW) A1)))))
   (eD (qs_if (QW.pt (eB (E1 (q_ne (K:=K) hu) (vi sI) (R1 A2)) (gI (E1 (q_eq (K:=K) hu) (qe_op q_mod (qe_op t7 (vi yN) A1) A1) A1)))) (A4 (gJ (qe_ix (K:=K) (vi veV) A1) (nC (vi sI) (qe_op q_mod (qe_op t7 (vi yN) A1) (qe_cB (q_len (K:=K)) T.b_len Z8 (qa_c (vi sI) A2)))))) G4)
   (A4 (C7 (vi sI)))))),?_⟩
  obtain ⟨a,p,k,n,ns,rfl,hS,hp,hk,q⟩:=h;walk_at "rd";refine ⟨a,ns,1,rfl,hS,by decide,_,rfl,by lia,?_⟩;generalize numF ns 1=num;obtain ⟨j,hj,hjk⟩:∃ j:Nat,num % ((k:Int)+1)=j/\j<=k:=by
   have h1:=Int.emod_nonneg num (show ((k:Int)+1)≠0 by lia);have h2:=mJ num (show (0:Int)<(k:Int)+1 by lia);exact ⟨(num % ((k:Int)+1)).toNat,by lia,by lia⟩
  rw [hj];refine rSlR.l (.of hp) fun l nl=>?_
  rw [bV,<- dJ];have tQ:∀ z∈(poolL n 8).take j,∃ i<4+2,z=p8 n i:=fun z hz=>by
   obtain ⟨i,hi,e⟩:=mB.mp hz;refine ⟨i,by lia,?_⟩;rw [<- e];unfold poolL;rw [List.getElem_map,List.getElem_range]
  have iF:((poolL n 8).take j).length<=4:=by rw [L4];lia
  generalize (poolL n 8).take j=zs at *;obtain ⟨H1,q1,T1,e1⟩:=newT (o:=.lst (zs.map V.str)) nl;rw [q1];refine midS (fun Y H2=>∃ zs':List Str,(Y=[some (.ref a),some (.ref p),some (.int k),some (.int num),some (.ref l)]/\Same H H2)/\H2 l=some (.lst (zs'.map V.str))/\zs'.length<=4/\∀ z∈zs',∃ i<4+2,z=p8 n i) ?_ ?_
  .intro M' hM';have okz:∀ z∈zs,i6 z=true:=fun z hz=>by obtain ⟨i,_,rfl⟩:=tQ z hz;exact akT (nX n i).2
   walk_at "rd";intro p1 n1;obtain ⟨K1,q2,T2,e2⟩:=newT (o:=.lst []) n1;rw [q2];have k7:=T2 _ _ e1;refine ⟨_,.lst (.of k7) (qH okz),_,.lst (.of e2) .nil,by simp [bM,y9],?_⟩;rw [show (PyData.list (zs.map bN)).eqv (PyData.list [])=decide (zs=[]) from ahR zs []];refine iteN (fun h0=>iteD (fun h1=>?_) fun _=>hM' _ _ ⟨zs,⟨rfl,T1.trans T2⟩,k7,iF,tQ⟩) fun _=>hM' _ _ ⟨zs,⟨rfl,T1.trans T2⟩,k7,iF,tQ⟩
   have cP:0<zs.length:=List.length_pos_iff.mpr h0;obtain ⟨i,hi,k9⟩:∃ i:Nat,num / 180 % (zs.length:Int)=i/\i<zs.length:=by
    have h1:=Int.emod_nonneg (num / 180) (show (zs.length:Int)≠0 by lia);have h2:=mJ (num / 180) (show (0:Int)<(zs.length:Int) by lia);exact ⟨(num / 180 % (zs.length:Int)).toNat,by lia,by lia⟩
   refine ⟨_,.inl (.of ((T1.trans T2) _ _ hp)),V.str (p8 n 4),K9 (j:=4) (by rw [T8,xB (by decide)];rfl),zs.length,.inl ⟨_,.of k7,by rw [A6]⟩,by lia,_,k7,i,?_,hM' _ _ ⟨zs.set i (p8 n 4),⟨rfl,(T1.trans T2).put nl⟩,by rw [A3,List.map_set],by rw [List.length_set];exact iF,fun z hz=>?_⟩⟩
   .unfold X3;rw [hi,A6,if_pos (Int.natCast_nonneg _),if_pos (by lia)];rfl
   .rcases List.mem_or_eq_of_mem_set hz with h | h
    .exact tQ z h
    .exact ⟨4,by lia,h⟩
  rintro Y H2 ⟨zs',⟨rfl,S2⟩,f8,h1,h2⟩;walk_at "rd";exact q l H2 zs' nl S2 f8 h1 h2
theorem sc_l_sides:FnScope ["_law_text", "_law_made_here", "_law_level", "_law_sides_here"] ["_law_text", "_law_made_here", "_law_level"] (C1 cB):=E5
abbrev sJ:List Str:=["_law_text", "_law_made_here", "_law_level", "_law_sides_here"]
theorem ve1:VS sJ cB "_law_text" 0:=vq
theorem ve2:VS sJ cB "_law_made_here" 1:=vq
theorem ve3:VS sJ cB "_law_level" 2:=vq
theorem ve4:VS sJ cB "_law_sides_here" 3:=vq
theorem ve5:LS cB "_law_sides_here":=lq
theorem ai8(F:FunD K "_law_sides" "_law_sides" cB f fd)(T:Txt P w K mg C):FnOk P w K mg base D9 1 f fd ["_law_text", "_law_made_here", "_law_level"] (aio K C 4):=by
 refine F.ok sc_l_sides ?_ ?_
 .rintro _ _ _ _ ⟨t,z,k,n,bh,R,L,M,rfl,_⟩;rfl
 .intro cdv A outer s H vs Q E hr h;have B5:=hu_of hr;have hu:=hr.units;refine ⟨_,QSs.out (A5 (qs_if (E1 (q_eq (K:=K) hu) (vi ve3) A1) (A4 (C7 (R1 (qa_c (vi ve1) A2)))) G4)
   (A5 (mT (n:=3) sc_l_sides.nd rfl ve5 (U7:CompOk ["_law_text", "_law_made_here", "_law_level", "_law_sides_here"] (C1 cB).names _ ["_law_sign_here", "_law_level", "_law_made_here"] 1 [2,1]) (vK (vi ve1)) (fun _ _ _ _ _=>D3 (n:=0) (show List.Nodup (["_law_sign_here", "_law_level", "_law_made_here"]:List Str) by decide +kernel) rfl (Or.inl rfl)) (fun _ _ _ _ _=>i8) (fun _ _ _ _ _=>(qe_ix (K:=K) (Z9 B5 (qe_ix (K:=K) (qv 2) A1) (qv 0)) (qe_op q_sub (qv 1) A1))))
   (A5 (qs_if (QW.pt (eB (E1 (q_eq (K:=K) hu) (vi ve3) A1) (gI (Q7 (K:=K) (qe_ix (K:=K) (vi ve2) A1))))) (A4 (C7 (aox T.b_reversed T.b_list (qa_c (vi ve4) A2)))) G4)
   (A4 (C7 (vi ve4)))))),?_⟩
  obtain ⟨t,z,k,n,bh,R,L,M,rfl,hk,hM,hz,O9,q⟩:=h;obtain ⟨x,d,ks,ht,_,⟨ad,mt,F,hd,hF⟩,Y1⟩:=hM.ex;have at_:∀ i c,z.cps.toList[i]?=some c->one c∈ks:=fun i c hc=>by
   obtain ⟨j,hj,e⟩:=D8.mp (hz c (K8 hc))
   have:=Y1 j (g7.mp hj)
   rw [<- e];exact this
  have hzl2:z.cps.toList.length<=500:=by rw [lenL];exact O9
  walk_at "rd";refine iteD (fun h4=>⟨by decide,fun p np=>q p _ np (Same.new np) ?_⟩) fun h4=>?_
  .rw [show k=3 by lia];exact A3
  have tR:k<3:=by lia
  refine compS [some (.int ((k+1:Nat):Int)),some (.ref t)] rfl (fun D i ys H2=>Same H H2/\∃ es:List (Addr×En),ys=es.map (fun e=>vE k e.1 e.2)/\es.map (·.2)=(z.cps.toList.take i).map (R6 R L M)/\∀ e∈es,H e.1=some (.tup (e.2.2.1.map V.int))) (fun D nD=>⟨Same.new nD,[],rfl,rfl,fun e he=>by cases he⟩) ?_ ?_
  .rintro D i c ys H2 nD hi hc ⟨S,es,rfl,he,hp⟩ hD hy;have hck:=at_ i c hc
   obtain ⟨⟨c',ec,ee⟩,g1,g2⟩:=hF _ hck;obtain rfl:c=c':=List.singleton_inj.mp (congrArg (fun z:Str=>z.cps.toList) ec);have hg:DGet H2 d (.str (one c)) (some (.ref (ad (one c)))):=by
    have:DGet H2 d (kV (Sum.inr (one c))) (valV (C2 ks fun y=>V.ref (ad y)) (Sum.inr (one c))):=Z7 (S _ _ hd)
    rw [P8,if_pos hck] at this;exact this
   have k8:=congrArg Z3 he;rw [A6,A6,L4] at k8;walk_at "rd";refine ⟨_,.inr (.of (S _ _ ht)),V.ref d,rfl,d,rfl,_,hg,?_⟩;walk_at "rd";refine ⟨_,.inr (.of (S _ _ g1)),_,vE_at tR,hD,by rw [A6];exact L1 (by lia),CW.put hi hy ⟨S.put nD,es++[(mt (one c),F (one c))],by rw [C9];rfl,?_,fun e' he'=>?_⟩⟩
   .rw [M0 hc,C9,C9,he,<- ee];rfl
   .rcases G0.mp he' with h | h
    .exact hp e' h
    .rw [E4.mp h];exact g2
  rintro D ys H2 nD ⟨S,es,rfl,he,hp⟩ hD _;rw [o9 (by simp)] at he;have aY:∀ e∈es,H2 e.1=some (.tup (e.2.2.1.map V.int)):=fun e h=>S _ _ (hp e h)
  refine iteD (fun h2=>⟨_,.inr (.of (S _ _ ht)),V.bl bh,K9 (j:=2) rfl,bh,rfl,?_⟩) fun h2=>q D H2 nD S (sd_of tR (by rw [if_neg (by lia)];exact hD) he aY)
  obtain rfl:k=1:=by lia
  cases bh with
  | true=>
   refine iteT ⟨D,rfl,_,hD,fun l nl=>q l _ (S.free nl) (S.trans (Same.new nl)) (sd_of (es:=es) tR (by rw [if_pos ⟨rfl,rfl⟩];exact A3) he fun e h=>(Same.new nl) _ _ (aY e h))⟩
  | false=>exact iteF (q D H2 nD S (sd_of tR (by rw [if_neg (fun h=>by cases h.2)];exact hD) he aY))
theorem sc_l_put:FnScope ["_law_one", "_law_other", "_law_made_here", "_law_strength", "_law_level", "_law_mine", "_law_theirs"] ["_law_one", "_law_other", "_law_made_here", "_law_strength"] (C1 j5):=E5
abbrev hJ:List Str:=["_law_one", "_law_other", "_law_made_here", "_law_strength", "_law_level", "_law_mine", "_law_theirs"]
theorem ve6:VS hJ j5 "_law_one" 0:=vq
theorem ve7:VS hJ j5 "_law_other" 1:=vq
theorem ve8:VS hJ j5 "_law_made_here" 2:=vq
theorem ve9:VS hJ j5 "_law_strength" 3:=vq
theorem vfa:VS hJ j5 "_law_level" 4:=vq
theorem vfb:VS hJ j5 "_law_mine" 5:=vq
theorem vfc:VS hJ j5 "_law_theirs" 6:=vq
theorem vfd:LS j5 "_law_level":=lq
theorem vfe:LS j5 "_law_mine":=lq
theorem vff:LS j5 "_law_theirs":=lq
theorem amy(F:FunD K "_law_put" "_law_put" j5 f fd)(T:Txt P w K mg C)(G_l_sides:FO P w K mg base 1 "_law_sides" ["_law_text", "_law_made_here", "_law_level"] [] (aio K C 4)):FnOk P w K mg base D9 2 f fd ["_law_one", "_law_other", "_law_made_here", "_law_strength"] (am5 K C 4):=by
 refine F.ok sc_l_put ?_ ?_
 .rintro _ _ _ _ ⟨t,z,z',k,n,bh,R,L,M,rfl,_⟩;rfl
 .intro cdv A outer s H vs Q E hr h;have B5:=hu_of hr;have hu:=hr.units;refine ⟨_,QSs.out (A5 (M7 PassesOwn.never (qi_r2 T.b_range (qa_c A1 (qa_c (qe_op (q_add (K:=K)) (vi ve9) A1) A2))) (D3 (n:=4) sc_l_put.nd rfl vfd (.inl rfl)) (A5 (C6 (n:=5) sc_l_put.nd rfl vfe (D1 G_l_sides (hm hr) (qa_c (vi ve6) (qa_c (vi ve8) (qa_c (vi vfa) A2)))))
   (A5 (C6 (n:=6) sc_l_put.nd rfl vff (D1 G_l_sides (hm hr) (qa_c (vi ve7) (qa_c (vi ve8) (qa_c (vi vfa) A2)))))
   (A4 (qs_if (E1 (q_ne (K:=K) hu) (vi vfb) (vi vfc)) (A4 (C7 (qe_op q_sub A1 (qe_op q_mul A1 (qe_cT amQ T.b_int amH (qa_c (aB (q_ltL hu (K:=K)) (vi vfb) (vi vfc)) A2)))))) G4)))))
   (A4 (C7 A1))),?_⟩
  obtain ⟨t,z,z',k,n,bh,R,L,M,rfl,hk,hM,hz,Y9,O9,cZ,q⟩:=h;walk_at "rd";refine ⟨by decide,by decide,by lia,by lia,?_⟩;rw [show ((k:Int)+1-1).toNat=k by lia];refine forRs (fun i Y H2=>∃ (u v w:Option V),(Y=[some (.str z),some (.str z'),some (.ref t),some (.int k),u,v,w]/\Same H H2)/\∀ j<i,E7 bh (R6 R L M) z.cps.toList z'.cps.toList j=0) ⟨none,none,none,⟨rfl,dU _⟩,fun j hj=>absurd hj (Nat.not_lt_zero j)⟩ ?_ ?_
  .rintro P' Bk hP i Y H2 hi ⟨u,v,w,⟨rfl,S⟩,h0⟩;have e1:(1+(i:Int))=((i+1:Nat):Int):=by lia
   walk_at "rd";refine ⟨t,z,i,n,bh,R,L,M,by rw [e1],by lia,hM.same S,hz,O9,fun l1 H3 n3 S3 h3=>⟨t,z',i,n,bh,R,L,M,by rw [e1],by lia,(hM.same S).same S3,Y9,cZ,fun l2 H4 n4 S4 h4=>?_⟩⟩;have h3':=h3.same S4;have tM:=aoJ (bh:=bh) (en:=R6 R L M) (z:=z) (z':=z') (show i<4 by lia);have hlv:=ary (bh:=bh) (en:=R6 R L M) (z:=z) (z':=z') (show i<4 by lia);have okk:∀ {w:Str},i6 w=true->∀ y,cG bh (R6 R L M) w i=.ss y->i6 y=true:=fun {w} hw y e=>by
    match i,(show i<4 by lia) with
    | 0,_=>cases e
    | 1,_=>cases e
    | 2,_=>cases e
    | 3,_=>cases e;exact hw
   have S04:=S.trans (S3.trans S4);refine SdAt.ne h3' h4 tM (okk (am6 hz)) (okk (am6 Y9)) ⟨_,rfl,?_⟩;refine iteN (fun G8=>SdAt.lt h3' h4 tM ?_) fun he=>hP _ _ _ ⟨_,_,_,⟨rfl,S04⟩,fun j hj=>?_⟩
   .have hq:=q H4 S04;have lK:E7 bh (R6 R L M) z.cps.toList z'.cps.toList i≠0:=by rw [hlv];unfold cmpD;rw [if_neg G8];split <;> decide
    rw [cF hi h0 lK,hlv] at hq;unfold cmpD at hq;rw [if_neg G8] at hq;walk_at "rd"
    by_cases C4:(cG bh (R6 R L M) z i).lt (cG bh (R6 R L M) z' i)=true
    .rw [if_pos C4] at hq ⊢
     exact ⟨.inl ⟨by decide,by decide⟩,hq⟩
    .rw [if_neg C4] at hq ⊢
     exact ⟨.inl ⟨by decide,by decide⟩,hq⟩
   .by_cases hji:j=i
    .rw [hji,hlv,he];exact if_pos rfl
    .exact h0 j (by lia)
  rintro Y H2 ⟨u,v,w,⟨rfl,S⟩,h0⟩;walk_at "rd"
  have:=q H2 S
  rw [gT h0] at this;exact this
theorem sc_l_of:FnScope ["_law_text", "_law_some_here", "_law_sign_here"] ["_law_text", "_law_some_here"] (C1 gO):=E5
abbrev yO:List Str:=["_law_text", "_law_some_here", "_law_sign_here"]
theorem vfg:VS yO gO "_law_text" 0:=vq
theorem vfh:VS yO gO "_law_some_here" 1:=vq
theorem vfi:VS yO gO "_law_sign_here" 2:=vq
theorem vfj:LS gO "_law_sign_here":=lq
theorem aoL(F:FunD K "_law_of" "_law_of" gO f fd)(T:Txt P w K mg C):FnOk P w K mg base D9 1 f fd ["_law_text", "_law_some_here"] spOf8:=by
 refine F.ok sc_l_of ?_ ?_
 .rintro _ _ _ _ ⟨z,l,zs,rfl,_⟩;rfl
 .intro cdv A outer s H vs Q E hr h;have B5:=hu_of hr;have hu:=hr.units;refine ⟨_,QSs.out (A5 (qs_if (dZ (Q7 (K:=K) (qe_cB q_isi T.b_isinstance vB (qa_c (vi vfg) (qa_c (qe_ty T.b_str aqT) A2))))) (A4 (C7 qe_bl)) G4)
   (A5 (M7 PassesOwn.never (vK (vi vfg)) (D3 (n:=2) sc_l_of.nd rfl vfj (.inl rfl)) (A4 (qs_if (E1 (vL (K:=K) hu) (vi vfi) (vi vfh)) (A4 (C7 qe_bl)) G4)))
   (A4 (C7 qe_bl)))),?_⟩
  obtain ⟨z,l,zs,rfl,hl,hz,q⟩:=h;walk_at "rd";refine ⟨"str",rfl,rfl,iteF ?_⟩;refine forS (fun i Y H2=>∃ u:Option V,Y=[some (.str z),some (.ref l),u]/\H2=H) ⟨none,rfl,rfl⟩ ?_ ?_
  .rintro i c Y H2 hc ⟨u,rfl,rfl⟩;have hm:=hz c (K8 hc);walk_at "rd";refine rInR.l (.inl (.of hl)) rfl (agb _) ⟨_,rfl,?_⟩;rw [show bS (V.str ⟨#[c]⟩) (zs.map V.str)=true by rw [vG];exact decide_eq_true hm];exact iteF rfl
  rintro Y H2 ⟨u,rfl,rfl⟩;walk_at "rd";exact q
theorem sc_law:FnScope ["_law_script", "_law_pool_here", "_law_some_here", "_law_one", "_law_other", "_law_strength", "_law_handed", "_law_got", "_law_mine", "_law_theirs", "_law_here", "_law_there"] ["_law_script"] (C1 s_law):=E5
abbrev n_law:List Str:=["_law_script", "_law_pool_here", "_law_some_here", "_law_one", "_law_other", "_law_strength", "_law_handed", "_law_got", "_law_mine", "_law_theirs", "_law_here", "_law_there"]
theorem sK:VS n_law s_law "_law_script" 0:=vq
theorem vfl:VS n_law s_law "_law_pool_here" 1:=vq
theorem sL:VS n_law s_law "_law_some_here" 2:=vq
theorem sM:VS n_law s_law "_law_one" 3:=vq
theorem sN:VS n_law s_law "_law_other" 4:=vq
theorem lI:VS n_law s_law "_law_strength" 5:=vq
theorem yP:VS n_law s_law "_law_handed" 6:=vq
theorem eR:VS n_law s_law "_law_got" 7:=vq
theorem oM:VS n_law s_law "_law_mine" 8:=vq
theorem oN:VS n_law s_law "_law_theirs" 9:=vq
theorem vfu:VS n_law s_law "_law_here" 10:=vq
theorem vfv:VS n_law s_law "_law_there" 11:=vq
theorem vfw:LS s_law "_law_pool_here":=lq
theorem vfx:LS s_law "_law_some_here":=lq
theorem vfy:LS s_law "_law_one":=lq
theorem vfz:LS s_law "_law_other":=lq
theorem vfA:LS s_law "_law_strength":=lq
theorem vfB:LS s_law "_law_handed":=lq
theorem vfC:LS s_law "_law_got":=lq
theorem vfD:LS s_law "_law_mine":=lq
theorem vfE:LS s_law "_law_theirs":=lq
theorem vfF:LS s_law "_law_here":=lq
theorem vfG:LS s_law "_law_there":=lq
theorem arz(F:FunD K "law" "law" s_law f fd)(T:Txt P w K mg C)(G3_compare:FO P w K mg base 8 "compare" ["order", "one", "other", "strength"] [] (nU C))(G_beside:FO P w K mg base 12 "beside" ["one", "other", "signs", "strength"] [.int 4] (spBes K C))(G3_beside:FO P w K mg base 12 "beside" ["one", "other", "signs", "strength"] [] (spBes K C))(G_l_number:FO P w K mg base 1 "_law_number" ["_law_script", "_law_k"] [] (kT K))(G_l_pool:FO P w K mg base 2 "_law_pool" ["_law_script"] [] (akO K 8))(G_l_both:FO P w K mg base 8 "_law_both" ["_law_script", "_law_pool_here"] [] (akQ K C 4 8))(G_l_some:FO P w K mg base 2 "_law_some" ["_law_script", "_law_pool_here", "_law_most"] [] (akR K 4 8))(G_l_put:FO P w K mg base 2 "_law_put" ["_law_one", "_law_other", "_law_made_here", "_law_strength"] [] (am5 K C 4))(G_l_of:FO P w K mg base 1 "_law_of" ["_law_text", "_law_some_here"] [] spOf8):FnOk P w K mg base D9 13 f fd ["_law_script"] (spLaw K):=by
 refine F.ok sc_law ?_ ?_
 .rintro _ _ _ _ ⟨a,ns,rfl,_⟩;rfl
 .intro cdv A outer s H vs Q E hr h;have B5:=hu_of hr;have hu:=hr.units;refine ⟨_,QSs.out (A5 (C6 (n:=1) sc_law.nd rfl vfw (D1 G_l_pool (hm hr) (qa_c (vi sK) A2)))
   (A5 (C6 (n:=2) sc_law.nd rfl vfx (D1 G_l_some (hm hr) (qa_c (vi sK) (qa_c (vi vfl) (qa_c A1 A2)))))
   (A5 (gJ (D1 G_l_both (hm hr) (qa_c (vi sK) (qa_c (vi vfl) A2))) (aF (K:=K) (n:=2) (P7 ((D3 (n:=3) sc_law.nd rfl vfy (.inl rfl))) (P7 ((D3 (n:=4) sc_law.nd rfl vfz (.inl rfl))) aE))))
   (A5 (C6 (n:=5) sc_law.nd rfl vfA (qe_op (q_add (K:=K)) A1 (qe_op q_mod (qe_op t7 (D1 G_l_number (hm hr) (qa_c (vi sK) (qa_c A1 A2))) A1) A1)))
   (A5 (C6 (n:=6) sc_law.nd rfl vfB (qe_cT (mU (K:=K) (calm:=true)) T.b_list jY (qa_c (vi sL) A2)))
   (eD (qs_if (E1 (q_eq (K:=K) hu) (vi lI) A1) (A5 (C6 (n:=5) sc_law.nd rfl vfA A1)
   (A4 (C6 (n:=7) sc_law.nd rfl vfC (D1 G_beside (hm hr) (qa_c (qe_ix (K:=K) (vi sM) A1) (qa_c (qe_ix (K:=K) (vi sN) A1) (qa_c (vi yP) A2))))))) (A4 (C6 (n:=7) sc_law.nd rfl vfC (D1 G3_beside (hm hr) (qa_c (qe_ix (K:=K) (vi sM) A1) (qa_c (qe_ix (K:=K) (vi sN) A1) (qa_c (vi yP) (qa_c (vi lI) A2))))))))
   (A5 (qs_if (QW.pt (qw_or (E1 (q_ne (K:=K) hu) (vi yP) (vi sL)) (qw_or (dZ (Q7 (K:=K) (qe_cB q_isi T.b_isinstance vB (qa_c (vi eR) (qa_c (qe_ty T.b_tuple gF) A2))))) (eA (E1 (q_ne (K:=K) hu) (qe_cB (q_len (K:=K)) T.b_len Z8 (qa_c (vi eR) A2)) A1))))) (A4 (C7 qe_bl)) G4)
   (A5 (qs_if (E1 q_isN (qe_ix (K:=K) (vi eR) A1) dY) (A4 (C7 (aB qQ (qe_ix (K:=K) (vi eR) A1) dY))) G4)
   (A5 (qs_if (QW.pt (qw_or (E1 qQ (qe_ix (K:=K) (vi eR) A1) dY) (qw_or (dZ (Q7 (K:=K) (qe_cB q_isi T.b_isinstance vB (qa_c (qe_ix (K:=K) (vi eR) A1) (qa_c (qe_ty T.b_tuple gF) A2))))) (eA (E1 (q_ne (K:=K) hu) (qe_cB (q_len (K:=K)) T.b_len Z8 (qa_c (qe_ix (K:=K) (vi eR) A1) A2)) A1))))) (A4 (C7 qe_bl)) G4)
   (A5 (gJ (qe_ix (K:=K) (vi eR) A1) (aF (K:=K) (n:=2) (P7 ((D3 (n:=8) sc_law.nd rfl vfD (.inl rfl))) (P7 ((D3 (n:=9) sc_law.nd rfl vfE (.inl rfl))) aE))))
   (A5 (qs_if (QW.pt (qw_or (dZ (Q7 (K:=K) (D1 G_l_of (hm hr) (qa_c (vi oM) (qa_c (vi sL) A2))))) (eA (dZ (Q7 (K:=K) (D1 G_l_of (hm hr) (qa_c (vi oN) (qa_c (vi sL) A2)))))))) (A4 (C7 qe_bl)) G4)
   (A5 (C6 (n:=10) sc_law.nd rfl vfF (D1 G_l_put (hm hr) (qa_c (vi oM) (qa_c (vi oN) (qa_c (vi sM) (qa_c (vi lI) A2))))))
   (A5 (C6 (n:=11) sc_law.nd rfl vfG (D1 G_l_put (hm hr) (qa_c (vi oM) (qa_c (vi oN) (qa_c (vi sN) (qa_c (vi lI) A2))))))
   (A5 (qs_if (QW.pt (qw_or (E1 (q_ne (K:=K) hu) (D1 G3_compare (hm hr) (qa_c (qe_ix (K:=K) (vi sM) A1) (qa_c (vi oM) (qa_c (vi oN) (qa_c (vi lI) A2))))) (vi vfu)) (eA (E1 (q_ne (K:=K) hu) (D1 G3_compare (hm hr) (qa_c (qe_ix (K:=K) (vi sN) A1) (qa_c (vi oM) (qa_c (vi oN) (qa_c (vi lI) A2))))) (vi vfv))))) (A4 (C7 qe_bl)) G4)
   (A4 (C7 (aB (q_ne (K:=K) hu) (vi vfu) (vi vfv)))))))))))))))))),?_⟩
  obtain ⟨a,ns,rfl,hS,A8,q⟩:=h;walk_at "rd";refine ⟨a,ns,rfl,hS,fun p H1 np S1 hp=>?_⟩;generalize numF ns 0=n at *;refine ⟨a,p,4,n,ns,rfl,S1.seq hS,hp,by decide,fun sl H2 zs nsl S2 zW O9 bD=>?_⟩;have S02:=S1.trans S2;refine ⟨a,p,n,ns,rfl,S02.seq hS,S2 _ _ hp,fun t t1 t2 H3 b1 b2 R L M R' L' M' nt S3 ht hM1 hM2=>?_⟩;have Z:Zs8 n 4 zs:=⟨by lia,bD⟩
  have okz:∀ z∈zs,i6 z=true:=fun z hz=>by obtain ⟨i,_,rfl⟩:=bD z hz;exact akT (nX n i).2
  refine ⟨t,rfl,_,.of ht,rfl,_,_,rfl,_,_,rfl,rfl,a,ns,1,rfl,(S02.trans S3).seq hS,by decide,_,rfl,?_⟩;obtain ⟨sg,hsg,hsg1,hsg5⟩:∃ sg:Nat,1+numF ns 1 / 720 % 5=sg/\1<=sg/\sg<=5:=⟨(1+numF ns 1 / 720 % 5).toNat,by lia,by lia,by lia⟩
  rw [hsg];have jA:=S3 _ _ zW;walk_at "rd";refine rListR.l (.inl (.of jA)) fun hd nhd=>?_
  obtain ⟨H4,q4,T4,e4⟩:=newT (o:=.lst (zs.map V.str)) nhd;rw [q4]
  replace hM1:=hM1.same T4
  replace hM2:=hM2.same T4
  have pQ:=T4 _ _ jA;clear q4 T4 nhd jA zW S3 S2 S1 S02 ht nt hp np nsl hS A8 hsg H3 H2 H1;obtain ⟨x1,d1,k1,ht1,O1,_⟩:=hM1.ex;obtain ⟨x2,d2,k2,ht2,O2,_⟩:=hM2.ex;obtain ⟨ck,tx⟩:=Z.chk hM1 hM2;have cS:∀ z∈zs,z.length<=1/\(stepF R L M z).length<=15/\(stepF R' L' M' z).length<=15:=fun z hz=>by
   obtain ⟨i,_,rfl⟩:=bD z hz;exact ⟨C3 1,hM1.st _,hM2.st _⟩
  refine midS (fun Y H5=>∃ (g:Addr) (k:Nat),(Y=[some (.ref a),some (.ref p),some (.ref sl),some (.ref t1),some (.ref t2),some (.int k),some (.ref hd),some (.ref g),none,none,none,none]/\Same H4 H5)/\0<k/\k<=4/\BesR K (hasW R "behind") (hasW R' "behind") (mvsF R L M R' L' M' k zs) zs H5 g) ?_ ?_
  .intro M2 hM2';walk_at "rd";refine iteD (fun h5=>?_) fun h5=>?_
   .exact ⟨_,.inr (.of ht1),V.ref x1,rfl,_,.inr (.of ht2),V.ref x2,rfl,x1,x2,hd,zs,4,R,R',L,M,L',M',rfl,by decide,O1,O2,e4,by lia,cS,ck,tx,fun g H5 ng S5 hB=>hM2' _ _ ⟨g,4,⟨rfl,S5⟩,by decide,by decide,hB⟩⟩
   .exact ⟨_,.inr (.of ht1),V.ref x1,rfl,_,.inr (.of ht2),V.ref x2,rfl,x1,x2,hd,zs,sg,R,R',L,M,L',M',rfl,by lia,O1,O2,e4,by lia,cS,ck,tx,fun g H5 ng S5 hB=>hM2' _ _ ⟨g,sg,⟨rfl,S5⟩,by lia,by lia,hB⟩⟩
  rintro Y H5 ⟨g,k,⟨rfl,S5⟩,bB,bG,hB⟩;walk_at "rd";refine ⟨_,.lst (.of (S5 _ _ e4)) (qH okz),_,.lst (.of (S5 _ _ pQ)) (qH okz),by rw [bM,ae4];decide,?_⟩;rw [show (PyData.list (zs.map bN)).eqv (PyData.list (zs.map bN))=true by rw [W2,uX];exact decide_eq_true rfl]
  rcases hB with ⟨pr,u,v,hg,tI,hul,zK,hW⟩ | ⟨rl,es,hg,_⟩
  .refine iteF ⟨"tuple",vI hg,rfl,iteF ?_⟩;refine ⟨2,.inr (.inl ⟨_,.of hg,rfl⟩),?_⟩;rw [if_neg (by decide)];refine ⟨_,.inr (.of hg),V.ref pr,L3 _ _,?_⟩;rw [if_neg (by simp)];refine ⟨_,.inr (.of hg),V.non,K9 (j:=1) rfl,?_⟩;rw [if_neg (by simp)];obtain ⟨w1,w2,w3,w4,w5⟩:=wit8 hM1 hM2 Z bG bB hW;have pR:=S5 _ _ pQ;refine ⟨_,.inr (.of hg),V.ref pr,L3 _ _, "tuple",vI tI,rfl,iteF ⟨_,.inr (.of hg),V.ref pr,L3 _ _,?_⟩⟩;walk_at "rd";refine ⟨2,.inr (.inl ⟨_,.of tI,rfl⟩),?_⟩;rw [if_neg (by decide)];refine ⟨_,.inr (.of hg),V.ref pr,L3 _ _,pr,rfl,_,.of tI,rfl,_,_,rfl,_,_,rfl,rfl,u,sl,zs,rfl,pR,w1,_,rfl,iteF ⟨v,sl,zs,rfl,pR,w2,_,rfl,iteF ?_⟩⟩;refine ⟨t1,u,v,k,n,b1,R,L,M,rfl,bG,hM1.same S5,w3,w4,by lia,by lia,fun H6 S6=>⟨t2,u,v,k,n,b2,R',L',M',rfl,bG,(hM2.same S5).same S6,w3,w4,by lia,by lia,fun H7 S7=>?_⟩⟩;have S47:=S5.trans (S6.trans S7);have c1:=hM1.en.cmp bG w3 w4;have c2:=hM2.en.cmp bG w3 w4;rw [hM1.bh] at c1;rw [hM2.bh] at c2;obtain ⟨j1,l1,m1,e1,I1⟩:=(O1.same S47).ex;refine ⟨_,.inr (.of (S47 _ _ ht1)),V.ref x1,rfl,x1,j1,l1,m1,e1,u,v,k,_,R,L,M,rfl,bG,I1,O1.kn,by lia,by lia,hM1.en.whole w3,hM1.en.whole w4,O1.st,fun H8 S8=>?_⟩;rw [c1];walk_at "rd";rw [if_neg (by decide)];have S48:=S47.trans S8;obtain ⟨j2,l2,m2,e2,I2⟩:=(O2.same S48).ex;refine ⟨_,.inr (.of (S48 _ _ ht2)),V.ref x2,rfl,x2,j2,l2,m2,e2,u,v,k,_,R',L',M',rfl,bG,I2,O2.kn,by lia,by lia,hM2.en.whole w3,hM2.en.whole w4,O2.st,fun H9 S9=>?_⟩;rw [c2];walk_at "rd";rw [if_neg (by decide),decide_eq_false w5];exact q _
  .refine iteF ⟨"tuple",vI hg,rfl,iteF ?_⟩;refine ⟨2,.inr (.inl ⟨_,.of hg,rfl⟩),?_⟩;rw [if_neg (by decide)];refine ⟨_,.inr (.of hg),V.non,L3 _ _,?_⟩;rw [if_pos (by simp)];exact ⟨_,.inr (.of hg),V.ref rl,K9 (j:=1) rfl,q _⟩
end
theorem all_mk{l:PySem.W.OpenLaw}{w:World}(X:K.In h)(G:h.Ns mainGlobals mg)(tJ:mg "law"=some (.ref fa))(d0:DF K "told" aL)(d1:DF K "followers" b9)(d2:DF K "count_ahead" aM)(d3:DF K "lined_up" Q8)(d4:DF K "is_figure" rF)(d5:DF K "has_rule" nN)(d6:DF K "pieces_told" rG)(d7:DF K "is_clash" eJ)(d8:DF K "jobs_of" m9)(d9:DF K "misused" bX)(d10:DF K "check_letters" bY)(d11:DF K "line_of" nO)(d12:DF K "forms_of" eK)(d13:DF K "steps_of" Q1){f14:Addr}{od14 an14:Option Addr}{sl14:Array (Option Value)}{oc14 kV14 dc14 pm14 cd14 ct14:Value}(a14:R0 K (.ref C) "__init__"=some (some (.ref f14)))(i14:fW K (.ref f14)=true)(l14:K.lookup f14=some ⟨oc14,od14,.func (T9 "__init__" "Order.__init__" (V4 eL) (U4 eL) (C1 eL) .none kV14 dc14 pm14 an14 cd14 ct14),sl14⟩)(c14:X2 K cd14 "Order.__init__"=true)(k14:V3 K (.ref f14)=true){f15:Addr}{od15 an15:Option Addr}{sl15:Array (Option Value)}{oc15 kV15 dc15 pm15 cd15 ct15:Value}(a15:R0 K (.ref C) "job"=some (some (.ref f15)))(i15:fW K (.ref f15)=true)(l15:K.lookup f15=some ⟨oc15,od15,.func (T9 "job" "Order.job" (V4 eM) (U4 eM) (C1 eM) .none kV15 dc15 pm15 an15 cd15 ct15),sl15⟩)(c15:X2 K cd15 "Order.job"=true)(k15:V3 K (.ref f15)=true)(d16:DF K "figures_at" gL)(d17:DF K "part_at" bZ){f18:Addr}{od18 an18:Option Addr}{sl18:Array (Option Value)}{oc18 kV18 dc18 pm18 cd18 ct18:Value}{tD18:Addr}{nD18:Nat}{cD18:Value}{oD18:Option Addr}{sD18:Array (Option Value)}(dl18:K.lookup tD18=some ⟨cD18,oD18,.seq #[.bool false] nD18,sD18⟩)(a18:O0 K mainGlobals "cut"=some (some (.ref f18)))(l18:K.lookup f18=some ⟨oc18,od18,.func (T9 "cut" "cut" (V4 s_cut) (U4 s_cut) (C1 s_cut) (.ref tD18) kV18 dc18 pm18 an18 cd18 ct18),sl18⟩)(c18:X2 K cd18 "cut"=true)(k18:V3 K (.ref f18)=true){f19:Addr}{od19 an19:Option Addr}{sl19:Array (Option Value)}{oc19 kV19 dc19 pm19 cd19 ct19:Value}(a19:R0 K (.ref C) "known"=some (some (.ref f19)))(i19:fW K (.ref f19)=true)(l19:K.lookup f19=some ⟨oc19,od19,.func (T9 "known" "Order.known" (V4 gM) (U4 gM) (C1 gM) .none kV19 dc19 pm19 an19 cd19 ct19),sl19⟩)(c19:X2 K cd19 "Order.known"=true)(k19:V3 K (.ref f19)=true){f20:Addr}{od20 an20:Option Addr}{sl20:Array (Option Value)}{oc20 kV20 dc20 pm20 cd20 ct20:Value}(a20:R0 K (.ref C) "steps"=some (some (.ref f20)))(i20:fW K (.ref f20)=true)(l20:K.lookup f20=some ⟨oc20,od20,.func (T9 "steps" "Order.steps" (V4 eN) (U4 eN) (C1 eN) .none kV20 dc20 pm20 an20 cd20 ct20),sl20⟩)(c20:X2 K cd20 "Order.steps"=true)(k20:V3 K (.ref f20)=true)(d21:DF K "parts_of" nP)(d22:DF K "steps_by" nQ)(d23:DF K "add_mark" nR)(d24:DF K "add_part" n9)(d25:DF K "units" aN)(d26:DF K "looks" o0){f27:Addr}{od27 an27:Option Addr}{sl27:Array (Option Value)}{oc27 kV27 dc27 pm27 cd27 ct27:Value}{kD27:Tok}{tD27:Addr}{nD27:Nat}{cD27:Value}{oD27:Option Addr}{sD27:Array (Option Value)}(dl27:K.lookup tD27=some ⟨cD27,oD27,.seq #[.int 4 kD27] nD27,sD27⟩)(a27:O0 K mainGlobals "compare"=some (some (.ref f27)))(l27:K.lookup f27=some ⟨oc27,od27,.func (T9 "compare" "compare" (V4 X6) (U4 X6) (C1 X6) (.ref tD27) kV27 dc27 pm27 an27 cd27 ct27),sl27⟩)(c27:X2 K cd27 "compare"=true)(k27:V3 K (.ref f27)=true){f28:Addr}{od28 an28:Option Addr}{sl28:Array (Option Value)}{oc28 kV28 dc28 pm28 cd28 ct28:Value}{kD28:Tok}{tD28:Addr}{nD28:Nat}{cD28:Value}{oD28:Option Addr}{sD28:Array (Option Value)}(dl28:K.lookup tD28=some ⟨cD28,oD28,.seq #[.int 4 kD28] nD28,sD28⟩)(a28:O0 K mainGlobals "difference"=some (some (.ref f28)))(l28:K.lookup f28=some ⟨oc28,od28,.func (T9 "difference" "difference" (V4 c0) (U4 c0) (C1 c0) (.ref tD28) kV28 dc28 pm28 an28 cd28 ct28),sl28⟩)(c28:X2 K cd28 "difference"=true)(k28:V3 K (.ref f28)=true){f29:Addr}{od29 an29:Option Addr}{sl29:Array (Option Value)}{oc29 kV29 dc29 pm29 cd29 ct29:Value}{kD29:Tok}{tD29:Addr}{nD29:Nat}{cD29:Value}{oD29:Option Addr}{sD29:Array (Option Value)}(dl29:K.lookup tD29=some ⟨cD29,oD29,.seq #[.int 4 kD29] nD29,sD29⟩)(a29:O0 K mainGlobals "differences"=some (some (.ref f29)))(l29:K.lookup f29=some ⟨oc29,od29,.func (T9 "differences" "differences" (V4 u7) (U4 u7) (C1 u7) (.ref tD29) kV29 dc29 pm29 an29 cd29 ct29),sl29⟩)(c29:X2 K cd29 "differences"=true)(k29:V3 K (.ref f29)=true)(d30:DF K "stands" kP)(d31:DF K "goes_on" gN)(d32:DF K "is_otherwise" rH)(d33:DF K "is_uneven" rJ)(d34:DF K "is_plain" kQ)(d35:DF K "check_plain" c9)(d36:DF K "moves_by" j3)(d37:DF K "longer_by" kR){f38:Addr}{od38 an38:Option Addr}{sl38:Array (Option Value)}{oc38 kV38 dc38 pm38 cd38 ct38:Value}{kD38:Tok}{tD38:Addr}{nD38:Nat}{cD38:Value}{oD38:Option Addr}{sD38:Array (Option Value)}(dl38:K.lookup tD38=some ⟨cD38,oD38,.seq #[.int 4 kD38] nD38,sD38⟩)(a38:O0 K mainGlobals "beside"=some (some (.ref f38)))(l38:K.lookup f38=some ⟨oc38,od38,.func (T9 "beside" "beside" (V4 N0) (U4 N0) (C1 N0) (.ref tD38) kV38 dc38 pm38 an38 cd38 ct38),sl38⟩)(c38:X2 K cd38 "beside"=true)(k38:V3 K (.ref f38)=true)(d39:DF K "_law_number" nS)(d40:DF K "_law_sign" cA)(d41:DF K "_law_pool" kS)(d42:DF K "_law_digits" eO)(d43:DF K "_law_row" j4)(d44:DF K "_law_made" P1)(d45:DF K "_law_both" Q9)(d46:DF K "_law_some" aO)(d47:DF K "_law_sides" cB)(d48:DF K "_law_put" j5)(d49:DF K "_law_of" gO){f50:Addr}{od50 an50:Option Addr}{sl50:Array (Option Value)}{oc50 kV50 dc50 pm50 cd50 ct50:Value}(a50:O0 K mainGlobals "law"=some (some (.ref f50)))(l50:K.lookup f50=some ⟨oc50,od50,.func (T9 "law" "law" (V4 s_law) (U4 s_law) (C1 s_law) .none kV50 dc50 pm50 an50 cd50 ct50),sl50⟩)(c50:X2 K cd50 "law"=true)(k50:V3 K (.ref f50)=true)(aC:O0 K mainGlobals "Order"=some (some (.ref C)))(pgC:mH K C Str.empty=true)(hdC:PySem.W.hasDictIn K C=true)(poC:PySem.W.plainOver K C=true)(saC:R0 K (.ref C) "__setattr__"=some (some (.builtin "object.__setattr__")))(mkC:PySem.W.makesIn K C=true)(kcC:V3 K (.ref C)=true)(nC_figures:R0 K (.ref C) "figures"=some none)(nC_behind:R0 K (.ref C) "behind"=some none)(nC_jobs:R0 K (.ref C) "jobs"=some none)(nC_letter_line:R0 K (.ref C) "letter_line"=some none)(nC_mark_line:R0 K (.ref C) "mark_line"=some none)(nC_made:R0 K (.ref C) "made"=some none)(z_any:O0 K mainGlobals "any"=some none)(z_dict:O0 K mainGlobals "dict"=some none)(z_enumerate:O0 K mainGlobals "enumerate"=some none)(z_int:O0 K mainGlobals "int"=some none)(z_isinstance:O0 K mainGlobals "isinstance"=some none)(z_len:O0 K mainGlobals "len"=some none)(z_list:O0 K mainGlobals "list"=some none)(z_min:O0 K mainGlobals "min"=some none)(z_range:O0 K mainGlobals "range"=some none)(z_reversed:O0 K mainGlobals "reversed"=some none)(z_str:O0 K mainGlobals "str"=some none)(z_tuple:O0 K mainGlobals "tuple"=some none)(z_zip:O0 K mainGlobals "zip"=some none){a_JOBS:Addr}{ep_JOBS:Nat}{h_JOBS_0:Int}{t_JOBS_0 u_JOBS_0:Tok}{h_JOBS_1:Int}{t_JOBS_1 u_JOBS_1:Tok}{h_JOBS_2:Int}{t_JOBS_2 u_JOBS_2:Tok}{h_JOBS_3:Int}{t_JOBS_3 u_JOBS_3:Tok}{h_JOBS_4:Int}{t_JOBS_4 u_JOBS_4:Tok}(y_JOBS:O0 K mainGlobals "JOBS"=some (some (.ref a_JOBS)))(d_JOBS:K.lookup a_JOBS=some { cls:=.type "dict",dict:=none,data:=.dict #[⟨h_JOBS_0,.str "row" t_JOBS_0,.str "letter" u_JOBS_0⟩,⟨h_JOBS_1,.str "marks" t_JOBS_1,.str "mark" u_JOBS_1⟩,⟨h_JOBS_2,.str "great" t_JOBS_2,.str "great" u_JOBS_2⟩,⟨h_JOBS_3,.str "as" t_JOBS_3,.str "as" u_JOBS_3⟩,⟨h_JOBS_4,.str "over" t_JOBS_4,.str "over" u_JOBS_4⟩] ep_JOBS,slots:=#[] })(s_JOBS:(a_JOBS==sysModules)=false)(e_JOBS_0:h_JOBS_0=keyH w (Sum.inr ("row" : Str)))(e_JOBS_1:h_JOBS_1=keyH w (Sum.inr ("marks" : Str)))(e_JOBS_2:h_JOBS_2=keyH w (Sum.inr ("great" : Str)))(e_JOBS_3:h_JOBS_3=keyH w (Sum.inr ("as" : Str)))(e_JOBS_4:h_JOBS_4=keyH w (Sum.inr ("over" : Str))){a_AGAIN:Addr}{n_AGAIN:Nat}{od_AGAIN:Option Addr}{sl_AGAIN:Array (Option Value)}{t_AGAIN_0:Tok}{t_AGAIN_1:Tok}{t_AGAIN_2:Tok}(y_AGAIN:O0 K mainGlobals "AGAIN"=some (some (.ref a_AGAIN)))(d_AGAIN:K.lookup a_AGAIN=some ⟨.type "tuple",od_AGAIN,.seq #[.str "letter" t_AGAIN_0,.str "mark" t_AGAIN_1,.str "over" t_AGAIN_2] n_AGAIN,sl_AGAIN⟩){a_START:Addr}{n_START:Nat}{od_START:Option Addr}{sl_START:Array (Option Value)}{t_START_0:Tok}{t_START_1:Tok}{t_START_2:Tok}{t_START_3:Tok}(y_START:O0 K mainGlobals "START"=some (some (.ref a_START)))(d_START:K.lookup a_START=some ⟨.type "tuple",od_START,.seq #[.int 0 t_START_0,.int 0 t_START_1,.int 0 t_START_2,.int 0 t_START_3] n_START,sl_START⟩){tMARK tLETTER tFIGURES:Tok}(y_MARK:O0 K mainGlobals "MARK"=some (some (.int 0 tMARK)))(y_LETTER:O0 K mainGlobals "LETTER"=some (some (.int 2 tLETTER)))(y_FIGURES:O0 K mainGlobals "FIGURES"=some (some (.int 1 tFIGURES)))
  : ∃ fd:FuncData,(∀ (s:Shared) (v:Value),BindsTo s fd ⟨[v],[]⟩ [("_law_script",v)])/\∀ base:Heap,K.In base->base.Ns mainGlobals mg->FnOk l.prog w K mg base D9 13 fa fd ["_law_script"] (spLaw K):=by
 have e:=tJ.symm.trans (U3 X G a50);cases e;have T:Txt l.prog w K mg C:=⟨⟨pgC,hdC,poC,saC⟩,nC_figures,nC_behind,nC_jobs,nC_letter_line,nC_mark_line,nC_made,i5 X G z_any,i5 X G z_dict,i5 X G z_enumerate,i5 X G z_int,i5 X G z_isinstance,i5 X G z_len,i5 X G z_list,i5 X G z_min,i5 X G z_range,i5 X G z_reversed,i5 X G z_str,i5 X G z_tuple,i5 X G z_zip,⟨_,U3 X G y_MARK⟩,⟨_,U3 X G y_LETTER⟩,⟨_,U3 X G y_FIGURES⟩,⟨_,U3 X G y_JOBS,aof d_JOBS s_JOBS (.cons ⟨jO _ _,e_JOBS_0,⟨_,rfl⟩⟩ ( .cons ⟨jO _ _,e_JOBS_1,⟨_,rfl⟩⟩ ( .cons ⟨jO _ _,e_JOBS_2,⟨_,rfl⟩⟩ ( .cons ⟨jO _ _,e_JOBS_3,⟨_,rfl⟩⟩ ( .cons ⟨jO _ _,e_JOBS_4,⟨_,rfl⟩⟩ ( .nil)))))) (by decide +kernel)⟩,⟨_,U3 X G y_AGAIN,fun H=>.inr ⟨_,_,_,d_AGAIN,rfl,rfl,(by show 3<=sizeLine;decide),.cons ⟨_,rfl⟩ ( .cons ⟨_,rfl⟩ ( .cons ⟨_,rfl⟩ ( .nil)))⟩⟩,⟨_,U3 X G y_START,fun H=>.inr ⟨_,_,_,d_START,rfl,rfl,(by show 4<=sizeLine;decide),.cons ⟨_,rfl⟩ ( .cons ⟨_,rfl⟩ ( .cons ⟨_,rfl⟩ ( .cons ⟨_,rfl⟩ ( .nil))))⟩⟩⟩
 have F14:=t6 (st:=eL) l14 c14;have F15:=t6 (st:=eM) l15 c15;have F18:=t6 (st:=s_cut) l18 c18;have F19:=t6 (st:=gM) l19 c19;have F20:=t6 (st:=eN) l20 c20;have F27:=t6 (st:=X6) l27 c27;have F28:=t6 (st:=c0) l28 c28;have F29:=t6 (st:=u7) l29 c29;have F38:=t6 (st:=N0) l38 c38;have F50:=t6 (st:=s_law) l50 c50;refine ⟨T9 "law" "law" (V4 s_law) (U4 s_law) (C1 s_law) .none kV50 dc50 pm50 an50 cd50 ct50,fun s v=>.of_eq rfl,fun base hb hn=>?_⟩;have G_told:=d0.go X G hb fun F=>aoK F T
 have G_followers:=d1.go X G hb fun F=>agH F T G_told
 have G_count_ahead:=d2.go X G hb fun F=>aeN F T
 have G_lined_up:=d3.go X G hb fun F=>ahl F T G_followers G_count_ahead
 have G_is_figure:=d4.go X G hb fun F=>agJ F T
 have G_has_rule:=d5.go X G hb fun F=>aho F T
 have G_pieces_told:=d6.go X G hb fun F=>aeP F T
 have G_is_clash:=d7.go X G hb fun F=>ahq F T G_is_figure
 have G_jobs_of:=d8.go X G hb fun F=>ai1 F T G_has_rule G_pieces_told G_is_clash
 have G_misused:=d9.go X G hb fun F=>ai2 F T
 have G_check_letters:=d10.go X G hb fun F=>ad7 F T G_misused
 have G_line_of:=d11.go X G hb fun F=>ai4 F T G_lined_up
 have G_forms_of:=d12.go X G hb fun F=>ahr F T
 have G_steps_of:=d13.go X G hb fun F=>ahs F T G_forms_of
 have G_Order___init__:KO l.prog w K mg base 5 C "Order" ["self", "rules"] (rD C):=⟨_,_,adU F14 T G_has_rule G_jobs_of G_check_letters G_line_of G_steps_of,⟨mkC,a14,i14,kcC⟩,U3 X G aC,.all (len2 fun _ _=>rfl)⟩
 have G_Order_job:MO l.prog w K mg base 1 C "job" ["self", "piece"] (wG C):=⟨_,_,agM F15 T,T.cl,⟨a15,i15,k15⟩,.all (len2 fun _ _=>rfl)⟩
 have G_figures_at:=d16.go X G hb fun F=>afP F T G_is_figure
 have G_part_at:=d17.go X G hb fun F=>ai5 F T G_is_figure G_figures_at
 have G_cut:FO l.prog w K mg base 4 "cut" ["known", "text", "figures"] [.bl false] (rE K):=⟨_,_,am7 F18 T G_part_at,U3 X G a18,k18,[.bool false],(fun s us E8 hl=>by obtain ⟨u1,u2,rfl⟩:=arm hl;exact y8 E8 rfl dl18 rfl rfl rfl),.cons rfl .nil⟩
 have G3_cut:FO l.prog w K mg base 4 "cut" ["known", "text", "figures"] [] (rE K):=⟨_,_,am7 F18 T G_part_at,U3 X G a18,k18,[],(fun s us E8 hl=>by obtain ⟨u1,u2,u3,rfl⟩:=amb hl;exact y8 E8 rfl dl18 rfl rfl rfl),.nil⟩
 have G_Order_known:MO l.prog w K mg base 1 C "known" ["self"] (wK C):=⟨_,_,aeR F19 T,T.cl,⟨a19,i19,k19⟩,.all (len1 fun _=>rfl)⟩
 have G_Order_steps:MO l.prog w K mg base 1 C "steps" ["self", "piece"] (nM C):=⟨_,_,aeT F20 T,T.cl,⟨a20,i20,k20⟩,.all (len2 fun _ _=>rfl)⟩
 have G_parts_of:=d21.go X G hb fun F=>ahu F T G3_cut G_Order_known
 have G_steps_by:=d22.go X G hb fun F=>ahw F T G_is_figure G_Order_steps
 have G_add_mark:=d23.go X G hb fun F=>ahy F T
 have G_add_part:=d24.go X G hb fun F=>ahz F T G_steps_by G_add_mark
 have G_units:=d25.go X G hb fun F=>amu F T G_parts_of G_add_part
 have G_looks:=d26.go X G hb fun F=>amv F T G_units
 have G_compare:FO l.prog w K mg base 8 "compare" ["order", "one", "other", "strength"] [.int 4] (nU C):=⟨_,_,afo F27 T G_looks,U3 X G a27,k27,[.int 4 _],(fun s us E8 hl=>by obtain ⟨u1,u2,u3,rfl⟩:=wS hl;exact y8 E8 rfl dl27 rfl rfl rfl),.cons ⟨_,rfl⟩ .nil⟩
 have G3_compare:FO l.prog w K mg base 8 "compare" ["order", "one", "other", "strength"] [] (nU C):=⟨_,_,afo F27 T G_looks,U3 X G a27,k27,[],(fun s us E8 hl=>by obtain ⟨u1,u2,u3,u4,rfl⟩:=wT hl;exact y8 E8 rfl dl27 rfl rfl rfl),.nil⟩
 have G_difference:FO l.prog w K mg base 9 "difference" ["order", "x", "y", "strength"] [.int 4] (spDif C):=⟨_,_,adF F28 T G3_compare,U3 X G a28,k28,[.int 4 _],(fun s us E8 hl=>by obtain ⟨u1,u2,u3,rfl⟩:=wS hl;exact y8 E8 rfl dl28 rfl rfl rfl),.cons ⟨_,rfl⟩ .nil⟩
 have G3_difference:FO l.prog w K mg base 9 "difference" ["order", "x", "y", "strength"] [] (spDif C):=⟨_,_,adF F28 T G3_compare,U3 X G a28,k28,[],(fun s us E8 hl=>by obtain ⟨u1,u2,u3,u4,rfl⟩:=wT hl;exact y8 E8 rfl dl28 rfl rfl rfl),.nil⟩
 have G_differences:FO l.prog w K mg base 10 "differences" ["one", "other", "x", "y", "strength"] [.int 4] (rK C):=⟨_,_,adm F29 T G3_difference,U3 X G a29,k29,[.int 4 _],(fun s us E8 hl=>by obtain ⟨u1,u2,u3,u4,rfl⟩:=amo hl;exact y8 E8 rfl dl29 rfl rfl rfl),.cons ⟨_,rfl⟩ .nil⟩
 have G3_differences:FO l.prog w K mg base 10 "differences" ["one", "other", "x", "y", "strength"] [] (rK C):=⟨_,_,adm F29 T G3_difference,U3 X G a29,k29,[],(fun s us E8 hl=>by obtain ⟨u1,u2,u3,u4,u5,rfl⟩:=aoB hl;exact y8 E8 rfl dl29 rfl rfl rfl),.nil⟩
 have G_stands:=d30.go X G hb fun F=>akW F T
 have G_goes_on:=d31.go X G hb fun F=>ai7 F T G_stands
 have G_is_otherwise:=d32.go X G hb fun F=>aeK F T
 have G_is_uneven:=d33.go X G hb fun F=>agO F T
 have G_is_plain:=d34.go X G hb fun F=>ahC F T G_Order_steps
 have G_check_plain:=d35.go X G hb fun F=>aeW F T G_Order_job G_is_plain
 have G_moves_by:=d36.go X G hb fun F=>ahD F T G3_differences
 have G_longer_by:=d37.go X G hb fun F=>agQ F T
 have G_beside:FO l.prog w K mg base 12 "beside" ["one", "other", "signs", "strength"] [.int 4] (spBes K C):=⟨_,_,agR F38 T G_goes_on G_is_otherwise G_is_uneven G_check_plain G_moves_by G_longer_by,U3 X G a38,k38,[.int 4 _],(fun s us E8 hl=>by obtain ⟨u1,u2,u3,rfl⟩:=wS hl;exact y8 E8 rfl dl38 rfl rfl rfl),.cons ⟨_,rfl⟩ .nil⟩
 have G3_beside:FO l.prog w K mg base 12 "beside" ["one", "other", "signs", "strength"] [] (spBes K C):=⟨_,_,agR F38 T G_goes_on G_is_otherwise G_is_uneven G_check_plain G_moves_by G_longer_by,U3 X G a38,k38,[],(fun s us E8 hl=>by obtain ⟨u1,u2,u3,u4,rfl⟩:=wT hl;exact y8 E8 rfl dl38 rfl rfl rfl),.nil⟩
 have G_l_number:=d39.go X G hb fun F=>ahF F T
 have G_l_sign:=d40.go X G hb fun F=>akX F T
 have G_l_pool:=d41.go X G hb fun F=>akY F T G_l_number G_l_sign
 have G_l_digits:=d42.go X G hb fun F=>ahG F T G_l_number
 have G_l_row:=d43.go X G hb fun F=>amx F T
 have G_l_made:=d44.go X G hb fun F=>akZ F T G_Order___init__ G_l_row
 have G_l_both:=d45.go X G hb fun F=>ak0 F T G_l_number G_l_digits G_l_made
 have G_l_some:=d46.go X G hb fun F=>ak1 F T G_l_number
 have G_l_sides:=d47.go X G hb fun F=>ai8 F T
 have G_l_put:=d48.go X G hb fun F=>amy F T G_l_sides
 have G_l_of:=d49.go X G hb fun F=>aoL F T
 exact arz F50 T G3_compare G_beside G3_beside G_l_number G_l_pool G_l_both G_l_some G_l_put G_l_of
theorem walk{l:PySem.W.OpenLaw}{q:Program}{XP:(Str->Option Value)->Heap->Prop}{YP:World->Heap->Prop}{d:DefRec}{K:Params->PySem.W.Frag}(hn:l.most=some 63)(aX:d.params.defaults=[])(hY:∀ (w:World) (h:Heap),YP w h->(K w.params).In h)(F:∀ (w:World) (mg:Str->Option Value) (fa:Addr) (h:Heap),(K w.params).In h->h.Ns mainGlobals mg->mg d.name=some (.ref fa)->
   ∃ fd:FuncData,(∀ (s:Shared) (u:Value),BindsTo s fd ⟨[u],[]⟩ [("_law_script",u)])/\∀ base:Heap,(K w.params).In base->base.Ns mainGlobals mg->FnOk l.prog w (K w.params) mg base D9 13 fa fd ["_law_script"] (spLaw (K w.params))) :
  PySem.W.WalkO q loose XP YP l.row.toRowW d [] (fun f vs=>PySem.call f vs):=
 L2.walk_of (n:=63) (k:=13) (x:="_law_script") (CX:=fun _=>D9) (sp:=fun w=>spLaw (K w.params)) hn (by decide) aX ⟨rfl,by decide,by decide,rfl⟩ hY F (fun _ _ a ns hl _ hS=>⟨a,ns,rfl,hS,hl,fun _=>rfl⟩) fun _ _ _ _ _ z=>z
end K72
open PySem PySem.W PyProof.Rows
set_option maxRecDepth 100000 in
set_option maxHeartbeats 0 in
theorem PySem.Challenge.cw_sortlore_k72_a_pair_parts_holds : PySem.Challenge.rw_sortlore_k72_a_pair_parts.Holds := by
 w_on;o_law;k_head;(case hw=>w_witness2)
 k_fill
 refine K72.walk (l:=PySem.Challenge.rw_sortlore_k72_a_pair_parts) rfl rfl (fun w h zy=>PySem.W.kIn_of zy) ?F
 case F=>
  intro w mg fa h KX G oR
  refine' K72.all_mk KX G oR ?d0 ?d1 ?d2 ?d3 ?d4 ?d5 ?d6 ?d7 ?d8 ?d9 ?d10 ?d11 ?d12 ?d13 ?a14 ?i14 ?l14 ?c14 ?k14 ?a15 ?i15 ?l15 ?c15 ?k15 ?d16 ?d17 ?dl18 ?a18 ?l18 ?c18 ?k18 ?a19 ?i19 ?l19 ?c19 ?k19 ?a20 ?i20 ?l20 ?c20 ?k20 ?d21 ?d22 ?d23 ?d24 ?d25 ?d26 ?dl27 ?a27 ?l27 ?c27 ?k27 ?dl28 ?a28 ?l28 ?c28 ?k28 ?dl29 ?a29 ?l29 ?c29 ?k29 ?d30 ?d31 ?d32 ?d33 ?d34 ?d35 ?d36 ?d37 ?dl38 ?a38 ?l38 ?c38 ?k38 ?d39 ?d40 ?d41 ?d42 ?d43 ?d44 ?d45 ?d46 ?d47 ?d48 ?d49 ?a50 ?l50 ?c50 ?k50 ?aC ?pgC ?hdC ?poC ?saC ?mkC ?kcC ?nC_figures ?nC_behind ?nC_jobs ?nC_letter_line ?nC_mark_line ?nC_made ?z_any ?z_dict ?z_enumerate ?z_int ?z_isinstance ?z_len ?z_list ?z_min ?z_range ?z_reversed ?z_str ?z_tuple ?z_zip ?y_JOBS ?d_JOBS ?s_JOBS ?e_JOBS_0 ?e_JOBS_1 ?e_JOBS_2 ?e_JOBS_3 ?e_JOBS_4 ?y_AGAIN ?d_AGAIN ?y_START ?d_START ?y_MARK ?y_LETTER ?y_FIGURES
  any_goals (refine' K72.df_mk ?da ?dl ?dc ?dk;(case da=>k_is);(case dl=>k_is);(case dc=>k_is);(case dk=>k_is))
  (case aC=>k_is)
  (case a14=>k_is)
  (case i14=>k_is)
  (case l14=>k_is)
  (case c14=>k_is)
  (case k14=>k_is)
  (case a15=>k_is)
  (case i15=>k_is)
  (case l15=>k_is)
  (case c15=>k_is)
  (case k15=>k_is)
  (case a18=>k_is)
  (case l18=>k_is)
  (case c18=>k_is)
  (case k18=>k_is)
  (case a19=>k_is)
  (case i19=>k_is)
  (case l19=>k_is)
  (case c19=>k_is)
  (case k19=>k_is)
  (case a20=>k_is)
  (case i20=>k_is)
  (case l20=>k_is)
  (case c20=>k_is)
  (case k20=>k_is)
  (case a27=>k_is)
  (case l27=>k_is)
  (case c27=>k_is)
  (case k27=>k_is)
  (case a28=>k_is)
  (case l28=>k_is)
  (case c28=>k_is)
  (case k28=>k_is)
  (case a29=>k_is)
  (case l29=>k_is)
  (case c29=>k_is)
  (case k29=>k_is)
  (case a38=>k_is)
  (case l38=>k_is)
  (case c38=>k_is)
  (case k38=>k_is)
  (case a50=>k_is)
  (case l50=>k_is)
  (case c50=>k_is)
  (case k50=>k_is)
  (case pgC=>k_is)
  (case hdC=>k_is)
  (case poC=>k_is)
  (case saC=>k_is)
  (case mkC=>k_is)
  (case kcC=>k_is)
  (case nC_figures=>k_is)
  (case nC_behind=>k_is)
  (case nC_jobs=>k_is)
  (case nC_letter_line=>k_is)
  (case nC_mark_line=>k_is)
  (case nC_made=>k_is)
  (case z_any=>k_is)
  (case z_dict=>k_is)
  (case z_enumerate=>k_is)
  (case z_int=>k_is)
  (case z_isinstance=>k_is)
  (case z_len=>k_is)
  (case z_list=>k_is)
  (case z_min=>k_is)
  (case z_range=>k_is)
  (case z_reversed=>k_is)
  (case z_str=>k_is)
  (case z_tuple=>k_is)
  (case z_zip=>k_is)
  (case y_JOBS=>k_is)
  (case d_JOBS=>k_is)
  (case s_JOBS=>rfl)
  (case e_JOBS_0=>rfl)
  (case e_JOBS_1=>rfl)
  (case e_JOBS_2=>rfl)
  (case e_JOBS_3=>rfl)
  (case e_JOBS_4=>rfl)
  (case y_AGAIN=>k_is)
  (case d_AGAIN=>k_is)
  (case y_START=>k_is)
  (case d_START=>k_is)
  (case y_MARK=>k_is)
  (case y_LETTER=>k_is)
  (case y_FIGURES=>k_is)
  (case dl18=>k_is)
  (case dl27=>k_is)
  (case dl28=>k_is)
  (case dl29=>k_is)
  (case dl38=>k_is)
