import PyProof.Rows.All
import Wide.All
import OpenK.AllK
import Wide.FinOn
import Lean
import PyProof.EqAt
import PyProof.EqKinds
import PyProof.TupleCall
import KE.KIsAll
import KE.KRevIter
import PySem.Challenge.RW_sortlore_k25_rounds_of_orders
set_option compiler.extract_closed false
open List renaming length_map → A3, getElem?_eq_some_iff → F8, getElem?_eq_getElem → E9, mem_singleton → D3, length_append → D4, mem_append → D8, mem_map → D0, map_append → E2, length_cons → G8, mem_of_getElem? → L7, mem_cons_of_mem → L8, mem_cons_self → K5, size_toArray → K3, take_length → J7, length_take → K6, replicate → J2, mem_append_right → O5, mem_cons → F9, append_nil → K7, mem_append_left → O6, map_cons → J3, mem_filter → N1, nodup_iff_pairwise_ne → W3, getElem?_map → P1, take_append_drop → X7, getD_eq_getElem?_getD → o9, take_of_length_le → j1, mem_flatMap → U7, length_nil → T8, filter_cons_of_pos → p0, filter_cons_of_neg → p5, nodup_append → X8, append_assoc → X9, flatMap_append → e9, filter_append → f6, map_map → Q5, mem_iff_getElem → p6, nodup_cons → Y0, length_drop → f7, take_add_one → p7, filter_eq_nil_iff → cF, pairwise_iff_getElem → dX, countP_cons → p9, map_eq_nil_iff → aP, map_congr_left → aQ, filterMap_cons → aR, length_erase_of_mem → dY, idxOf_lt_length_iff → dZ, take_zero → j2, nil_append → q5, range → U0, length_singleton → eA, length_filter_le → eB, find?_cons → x9, foldl_append → cG, flatten_cons → cH, flatMap_cons → cI, flatten_append → eC, head?_eq_getElem? → gC, getElem?_append_right → jU, mem_flatten → cJ, mem_range → aS, getElem?_append_left → jV, replicate_succ → gD, any_cons → aT, not_mem_nil → eD, length_pos_of_mem → jW, sublist_flatten_of_mem → nG, mem_iff_getElem? → jX, map_nil → aU, pairwise_map → gE, length_range → gF, count_append → gG, mem_of_mem_take → jY, exists_mem_of_ne_nil → nH, drop_eq_getElem_cons → nI, getElem_mem → gH, pairwise_cons → jZ, length_eq_zero_iff → nJ, getElem_idxOf → kA, drop_of_length_le → nK, cons_lt_cons_iff → nM, getLast?_eq_some_getLast → qX, mem_erase_of_ne → nN, count_singleton → nO
open PySem.W renaming kitOne → C5, nsIn → E5, findIn → J8, mg_of → N9, keepIn → O8, mroIn → R6, mg_none_of → f8, fnOf → P7, codeIn → U8, kia_one → j3, emptyDict → aV, specialIn → eE, instObj → cK, isFn → y1, tailIn → cL, hasDictIn → gI, nsOkIn → eF, plainGet → kB, takesIn → kC
open Nat renaming le_refl → C3, le_trans → D5, ne_of_lt → J4, zero_le → J0, lt_of_lt_of_le → Q6, lt_irrefl → j4, le_add_right → cM, ne_of_gt → q9, lt_trans → y3, le_succ → y4, lt_trichotomy → gJ, min_eq_left → gK, not_lt → aW
open Bool renaming false_ne_true → K4, and_eq_true → W4, not_eq_true' → cN, eq_iff_iff → eG
open Array renaming length_toList → P3, getElem?_eq_getElem → cO, getElem?_toList → eI
open PySem.F renaming plainAttrs_list → U1, type_list_append → j5, slot_list_append → j6, called_set → cP
open PySem.PyData renaming strOk → P8, eqv → Q7, depthAll → r0, str → U9, list → j7, bool → aX
open Int renaming toNat_natCast → gL
open Option renaming isSome_some → kD
set_option Elab.async false
set_option linter.all false
set_option maxRecDepth 100000
set_option hygiene false
local macro_rules
|`('a')=>`((model X.prog X.w))
|`('b')=>`((by lia))
|`('c')=>`((by simp))
|`('d')=>`((model prog w))
|`('e')=>`((by decide +kernel))
|`('f')=>`((.ref a))
|`('g')=>`((by decide))
|`('h')=>`((Str×Str))
|`('i')=>`((s.heap.objs.size+1))
local macro_rules
|`(tactic|sleep 0)=>`(tactic|intro pins s Y H x y v u Q I rx ry h)
|`(tactic|sleep 1)=>`(tactic|intro pins s Y H Q I h)
noncomputable section
set_option genInjectivity false in
set_option genSizeOf false in
structure PySem.W.Fast where (tw3130653307691503037 tw13858996499015854146 tw6875521516312084625 tw15370991025862213102 tw6736595453410039498 tw5567970681255441888 tw1625086977846868982 tw4635126320943492531 tw5486572404461998618 tw4724518713344461941 tw8159107763177670358 tw13613231893586646161 tw16985423044298213275 tw3196031627369264750 tw10949491446919062507 tw15616491312644911173 tw7982175774040062894 tw15649268080785716236 tw14131006495878620212 tw8532213255629657717 tw4607448607786169671 tw14019610956310415411 tw1536992089560182458 tw11776994519452511384 tw4834246943108096008 tw6285363623642644338 tw2368457391194446467 tw11442943192281391393 tw8659555699620230060 tw9218972647725393019 tw5785660927418293493 tw1720504720708113631 tw15576755711326697280 tw15282556936862046062 tw12205023010867283445 tw4050410139701856258 tw18150466489574417095 tw4491285157314980965 tw1749909870789823552
tw9472137995012750422 tw7811338523500906463 tw11526406007322677850 tw6106296360228560571 tw7522438336032081347 tw1248292604239714357 tw11647028105111863746 tw6534359486449339138 tw3859148492653893008 tw12171439127153071674 tw6618198854588609707 tw2060146086862704309 tw39512284902807895 tw12473898699006067739 tw9380292167771297594 tw1573992793305837118 tw914538122663605839 tw13787749306795350616 tw10356431589398475042 tw716480192043566429 tw3014273919533058172 tw17706033125160841013 tw9991889364434922782 tw3388317040042357202 tw8005298263889051235 tw11802563822443513009 tw88843866555948338 tw12729037792430613328 tw7189750971158402669 tw9818786982895630234 tw3239185839294471082 tw13296445387119404414 tw10046728201212904657 tw3305211673559134264 tw11193142843786840278 tw14076060801785130123 tw14806825729483521282 tw14844507575062407395 tw2148529827235044859 tw10496021693638493605
tw6504711556187340763 tw10252358859048669990 tw17996805411372621813 tw6380839714383705195 tw7031999559526710540 tw6116968832921792816 tw12932553826990843299 tw14116140502871442593 tw11069254133559539102 tw6724119088558781976 tw11906364213001681067 tw14270206933938282750 tw15792375703110544163 tw14475373988863127472 tw13850426926374179324 tw3325286293833626636 tw9301914228431792203 tw14981104292935043081 tw17711591813365568406 tw9885214727116186921 tw10691156015736370769 tw16161030447375439230 tw8808930741975084534 tw5533946459232958502 tw8610531560277450482 tw11734473802541390598 tw1182765886463341091 tw16807223395827561619 tw13578614265460533510 tw7705337154677191659 tw455246871421061548 tw10163934532598890736 tw3140583067703749179 tw6137974477355807959 tw10288453407995996576 tw3545178949545516539 tw11923095727403255158 tw8096709110069389826 tw17739480308204777573 tw11929628229730051808
tw6009144946925283479 tw1649276163980865236 tw9541667462377072723 tw15695597639799187693 tw4962355225638189703 tw10334356855177995569 tw12118733758561561468 tw11107108148229675397 tw12843580254309481496 tw11873228453787916125 tw14415398091206222025 tw337743948744048085 tw17845176020706627103 tw12416464926052152190 tw6904804965869839421 tw3385385513673615759 tw14201919033274537532 tw7463257504238558552 tw5550542019033992028 tw7527270882454549823 tw10566141435295265455 tw6085600475991360594 tw4797115174747047044 tw12563656020268320623 tw6085677499495920034 tw8223199221851633381 tw9128350794084206169 tw17849493395057231024 tw7285460412219944752 tw11268172105939208173 tw2730491897227340878 tw10800706532448189673 tw15044423270028847973 tw11239291027703977414 tw13040888808577673053 tw4155841385221083702 tw10625207341217083471 tw9428080326542786779 tw2817324165021991247 tw2399288229804704249
tw9813059268546679553 tw3285190310745646096 tw11984310480523438296 tw17205931056176817744 tw11681261071516117965 tw948787961045505994 tw12575885026657959115 tw4432420279794080078 tw6420644780997894151 tw6052741635705754465 tw11783549994635188389 tw17983641189406471324 tw4841018032359007620 tw7297853615891158701 tw1835114751737680211 tw17551686090599801989 tw3955489092911407089 tw4058566219132678484 tw15326959135901345099 tw11549428160223717748 tw4918732900186667962 tw16106874081925718948 tw3355050136476695407 tw13617330264617993929 tw10970534991731781617 tw7068963651729426910 tw9349185252643592574 tw15732198466289464848 tw812281758645695690 tw10055776448808079561 tw14811180169962832056 tw3439645958018796585 tw16805267830276845680 tw13001929008839524319 tw13389410347347550979 tw6270463946017410083 tw3836275311118144124 tw5285578108340375506 tw10885686395925557361 tw11138530839325496705
tw17530604897236900986 tw8686486542704542002 tw11862045399121889122 tw7927156032863819836 tw11260987641751765635 tw688437668463309716 tw1335166109734902824 tw4045997143244141522 tw13623299413596465608 tw1423638493993908016 tw18275867740993543158 tw6232367379533301987 tw784226667640528085 tw10075480395286554511 tw7907565925024281475 tw3000445415042589324 tw16824771600025578928 tw9843842718643563619 tw5682426775542091624 tw230655592598414500 tw7204849440760110772 tw78137967787314947 tw8327022654800375128 tw17466263986138047569 tw16331342534307150580 tw13491087727751251122 tw1504811194991150714 tw6700535407139160782 tw14001048219681806084 tw8301227549894637154 tw6758553727977613169 tw11676593005910030882 tw11032760808126858913 tw8921181764328773091 tw11870346629251892729 tw17353513810566478933 tw11818295172923946690 tw16369589910689290270 tw3168807323078037743 tw4436712336984419765
tw2533563641397796490 tw8490558392983317333 tw1348300313579551745 tw5025720264074073135 tw16907449309268845978 tw8938135114679471118 tw14893565861579604736 tw12097767300040465735 tw8408587651899633885 tw17573669986052187202 tw17115415163905194531 tw10212250431837262041 tw11427347418699817789 tw13826792890803991100 tw8470028599449976836 tw2239237344541758762 tw4457159847748824212 tw16046642623372084137 tw3873190990937108414 tw6238395024958705775 tw6589700080001378808 tw16034548993757756640 tw3613153913062424774 tw4380546312485857746 tw15361515592856980075 tw14787361740294833283 tw14693381576160274307 tw6434086266446873929 tw9992856258466736797 tw4771800179844268765 tw3819460705168500259 tw15654972505219664519 tw487880135709349965 tw14651894975447376558 tw9995817125872397008 tw1485338242868482898 tw16352909536228382586 tw3555145278904491802 tw5445931047547082229 tw8573757968887733034
tw7816835372722363957 tw6091356410938698809 tw2458132163784660458 tw1592715388525395068 tw3227250913223270459 tw9913845050658128968 tw13386753914830440670 tw940604815276634991 tw139432073170130945 tw3720944251746376890 tw9630028168600035952 tw12153995633283847535 tw7631382580056892705 tw4132975325027471591 tw11661201230544290862 tw10021502399734436206 tw7348830930309274419 tw669954583742395730 tw17148641697421255377 tw15516598163586543968 tw837603580835761077 tw11534526040808148290 tw4320546348774046090 tw3023751580211754223 tw2475870015749986545 tw8217129909671299850 tw12780183171257256906 tw16790378446971033461 tw75119539133255160 tw6521161311383994345 tw2856848027624672257 tw6443593239597681451 tw17913021913853548179 tw11763575494354216066 tw13665864676678793827 tw9889003729704310280 tw8106202680484678474 tw8511701912329528159 tw7828424134244726941 tw17793377443645710010
tw4062816138344229302 tw12241061662713527528 tw4770822456820071429 tw9892838380828151027 tw10846153239784686480 tw14726910789893105659 tw6035094283659379261 tw8564331723048952850 tw4866538461020484306 tw11434309431845499339 tw13035344177217239834 tw3292048162662283124 tw13724541883584295823 tw9361995944523421393 tw5147582858924507476 tw12358025693438150770 tw13412164004610365031 tw4731403486926630809 tw10200846924837676189 tw15285719239812954198 tw11656106829516138982 tw17977641070153616275 tw1488016712174376197 tw10559481921813406960 tw10727428075545898357 tw12681709385178270502 tw14705629904724594871 tw1032425183724850068 tw12381518417938811322 tw1085391137027319023 tw7199148637169800845 tw7747342977204109237 tw6952602811780988631 tw18266599641894302314 tw12726348242766055214 tw5447103558149896156 tw8974190676594545228 tw4329526202356079377 tw17142497104058985051 tw8693938556721606213
tw14126775856985448911 tw3860062067637583502 tw8432424007046044699 tw6157809407430165827 tw5174395510450332148 tw5742186377636319216 tw15837517683720266857 tw2773311320546001420 tw1620152053943207899 tw13731635316832101373 tw13721470035188601155 tw1594290516633362779 tw1156527311184269966 tw3093102582640605218 tw821293752048613718 tw442719697016871171 tw14702431496889272027 tw6327052968379639691 tw12323489211260573427 tw5867182967598509052 tw11718533905648610280 tw7243532937934565699 tw2586740711387767414 tw17842398155755123265 tw5994604085807336558 tw9141193883696884230 tw7683167629174206092 tw12358746951862632364 tw15304930735352492204 tw14671823673465590453 tw259290809036189571 tw9220246707583082975 tw474069440675003415 tw9069967045684137731 tw1026202890917719415 tw17079507960972808721 tw13674425750363661070 tw8120878518172091688 tw12165254206742805928 tw11443091738797589084
tw14184188783169141354 tw10231197970171775562 tw4357631406454429964 tw6310897004801489093 tw9068495093516620275 tw1073957601456590860 tw2715477976903534656 tw18239353595408420948 tw18372724955947469456 tw14464570161344525679 tw2701463181570864974 tw14896173841395732620 tw4970329564500385779 tw8630926511020721826 tw11273470398426237623 tw1221621335441476893 tw12505901286070959814 tw12002685284873373427 tw10691355363029140112 tw4255908677403707429 tw15750210922030793592 tw14946240153143912845 tw10913958242229832473 tw8907374254809278750 tw13311894137297822878 tw13302890455778590334 tw14472892839499749382 tw10450016126085938918 tw5130141597216045971 tw6520336269155331410 tw7433793289137282905 tw9709065010118319619 tw254093082782151691 tw4386947663684628736 tw5628196726355465975 tw7571685315306204301 tw14299314466341844340 tw13391283739383131646 tw2503399798086702356 tw9377359637455539683
tw10450432349856586445 tw14303899318816137312 tw9522892569305623986 tw10002638947828063147 tw15157002982227851393 tw259940332625115406 tw7564178256237254762 tw9559685916133406862 tw1171247767820098846 tw18164368209475070716 tw5194463168017037608 tw10390950281373449090 tw3158921180880599932 tw1345109972151354846 tw6075637165710072395 tw13064683748698777742 tw595798631174066658 tw2650664726874218745 tw15260959540498449152 tw16969866632205644947 tw3253744900843629038 tw17272376601125218907 tw580228801236804330 tw9490446836746283450 tw17400100712387422216 tw13718673779097225056 tw13070297213293821959 tw10993875245140460910 tw3870967694345024442 tw2949028362398774253 tw11642007246002104453 tw9097322160068729807 tw12219174297932409627 tw12001164204568438262 tw9513527847982950891 tw345450245794160992 tw6244118884054933924 tw4435380973824355644 tw16396479994277849469 tw2853668237660308234
tw5441924964917125812 tw15147138322978152743 tw13197251470224173613 tw8984678578989229692 tw5251112992937434757 tw4020460393545673175 tw9254336585949491413 tw1508249787988170187 tw14837218414808062374 tw8980426293518014639 tw7117895089792665083 tw7879837393654456945 tw14481568018984140826 tw7030280551619447333 tw10657361425997397452 tw14896157075457055109 tw12329168758268795705 tw17340451118643380527 tw8873695477724311560 tw4461260661321983924 tw8631352321477600145 tw1497181573429878239 tw16339717811886277579 tw15412864549186753035 tw587718113502275136 tw14093903374032294010 tw16385994663263406062 tw8337289137477727878 tw1150829440024209897 tw16554563122150408420 tw138122843709438233 tw7428188389123885935 tw6710995358211850129 tw5904483398670591909 tw12491505816027056913 tw7582294421208988271 tw13021353573306859345 tw6208725835592411018 tw10111594715909885292 tw18287859597235151228
tw11053347349142379057 tw9876494649404020514 tw9306520928358368321 tw3384837427514584245 tw3283580351464423977 tw1680477281969771571 tw16587847592848641071 tw3047864638788319166 tw6429872672788364650 tw6347570989887566763 tw2459037355598926894 tw14404107060062536438 tw11199238291674768808 tw12906766523036427556 tw4132296121689674220 tw7356213696608795234 tw11660441389682550266 tw5100836646223774045 tw9767115538070186428 tw14656881073403321229 tw7703091185353266096 tw2768007724961693390 tw12983848008355825528 tw1553371365060860051 tw3334209552373864827 tw17952643180130733505:Nat)
namespace L2
open PySem PySem.Spec PyProof.Rows
noncomputable abbrev A7:=Sum Int Str
noncomputable def keyIs:A7->Value->Bool
 | .inl k,v=>Value.isInt k v
 | .inr x,v=>Value.isStrOf x v
noncomputable def keyH (w:World):A7->Int
 | .inl k=>hashInt k
 | .inr x=>hashStr w x
theorem f9:∀ {k:A7} {v:Value},keyIs k v=true->(∃ i t,k=Sum.inl i/\v=Value.int i t)\/(∃ x t,k=Sum.inr x/\v=Value.str x t)
 | .inl i,v,h=>by
  obtain ⟨t,e⟩:=Value.isInt_shape (k:=i) (v:=v) h;exact .inl ⟨i,t,rfl,e⟩
 | .inr x,v,h=>by
  obtain ⟨t,e⟩:=Value.isStrOf_shape (x:=x) (v:=v) h;exact .inr ⟨x,t,rfl,e⟩
theorem aiv(i:Int)(t:Tok):keyIs (.inl i) (.int i t)=true:=by simp [keyIs,Value.isInt]
theorem gM(x:Str)(t:Tok):keyIs (.inr x) (.str x t)=true:=by simp [keyIs,Value.isStrOf]
theorem aos(a b:Int):decide ((Sum.inl a:A7)=Sum.inl b)=(a==b):=by
 by_cases e:a=b
 .subst e;simp
 .have h:¬ (Sum.inl a:A7)=Sum.inl b:=fun q=>e (Sum.inl.inj q)
  rw [decide_eq_false h];exact (beq_eq_false_iff_ne.mpr e).symm
theorem aot(a b:Str):decide ((Sum.inr a:A7)=Sum.inr b)=decide (a=b):=by
 by_cases e:a=b
 .subst e;simp
 .have h:¬ (Sum.inr a:A7)=Sum.inr b:=fun q=>e (Sum.inr.inj q)
  rw [decide_eq_false h,decide_eq_false e]
theorem aou(a:Int)(b:Str):decide ((Sum.inl a:A7)=Sum.inr b)=false:=decide_eq_false (fun q=>nomatch q)
theorem aov(a:Str)(b:Int):decide ((Sum.inr a:A7)=Sum.inl b)=false:=decide_eq_false (fun q=>nomatch q)
noncomputable def M4 (prog:Program) (w:World):PySem.KeyKind prog w A7 where
 is:=keyIs
 hash:=keyH w
 inj:=fun v a b ha hb=>by
  rcases f9 ha with ⟨i,t,rfl,rfl⟩ | ⟨x,t,rfl,rfl⟩
  .rcases f9 hb with ⟨j,u,rfl,e⟩ | ⟨y,u,rfl,e⟩
   .injection e with e1 _;rw [e1]
   .exact nomatch e
  .rcases f9 hb with ⟨j,u,rfl,e⟩ | ⟨y,u,rfl,e⟩
   .exact nomatch e
   .injection e with e1 _;rw [e1]
 byValue:=fun k v h=>by
  rcases f9 h with ⟨i,t,rfl,rfl⟩ | ⟨x,t,rfl,rfl⟩ <;> rfl
 pyHash:=fun hv h=>by
  rcases f9 hv with ⟨i,t,rfl,rfl⟩ | ⟨x,t,rfl,rfl⟩
  .exact wpAny_pyHash_int h
  .exact wpAny_pyHash_str h
 eqBool:=fun hu hv h=>by
  rcases f9 hu with ⟨i,t,rfl,rfl⟩ | ⟨x,t,rfl,rfl⟩
  .rcases f9 hv with ⟨j,u,rfl,rfl⟩ | ⟨y,u,rfl,rfl⟩
   .rw [aos] at h;exact wpAny_eqBool_int h
   .rw [aou] at h;exact SeqAt.EqAt.int_str i t y u _ _ _ _ h
  .rcases f9 hv with ⟨j,u,rfl,rfl⟩ | ⟨y,u,rfl,rfl⟩
   .rw [aov] at h;exact SeqAt.EqAt.str_int x t j u _ _ _ _ h
   .rw [aot] at h;exact wpAny_eqBool_str h
 «strs»:=fun k x t v h=>by
  rcases f9 h with ⟨i,u,rfl,e⟩ | ⟨y,u,rfl,e⟩
  .exact nomatch e
  .injection e with e1 _
   subst e1
   cases v <;> rfl
theorem agl(prog:Program)(w:World)(i:Int)(t:Tok):(M4 prog w).is (.inl i) (.int i t)=true:=aiv i t
theorem agm(prog:Program)(w:World)(x:Str)(t:Tok):(M4 prog w).is (.inr x) (.str x t)=true:=gM x t
inductive V where
 | non | bl (b:Bool) | int (i:Int) | str (x:Str) | byt (b:Array UInt8) | flt (b:UInt64) | ref (a:Addr) | ty (n:String)
 deriving DecidableEq
noncomputable def RelV:V->Value->Prop
 | .non,u=>u=Value.none
 | .bl b,u=>u=Value.bool b
 | .int i,u=>∃ t,u=Value.int i t
 | .str x,u=>∃ t,u=Value.str x t
 | .byt b,u=>∃ t,u=Value.bytes b t
 | .flt b,u=>∃ t,u=Value.float b t
 | .ref a,u=>u=Value.ref a
 | .ty n,u=>u=Value.type n
noncomputable abbrev Vals:List V->List Value->Prop:=Paired RelV
theorem Vals.length{xs:List V}{us:List Value}(r:Vals xs us):xs.length=us.length:=Paired.length r
theorem Vals.get:∀ {xs:List V} {us:List Value} {i:Nat} {x:V},Vals xs us->xs[i]?=some x->∃ u,us[i]?=some u/\RelV x u
 | _,_,_,_,.nil,e=>by simp at e
 | _,_,0,_,.cons r _,e=>by simp at e;subst e;exact ⟨_,rfl,r⟩
 | _,_,i+1,x,.cons _ t,e=>by
  obtain ⟨u,h1,h2⟩:=Vals.get (i:=i) (x:=x) t (by simpa using e);exact ⟨u,by simpa using h1,h2⟩
theorem Vals.set{x:V}{u:Value}(r:RelV x u):∀ {xs:List V} {us:List Value} (i:Nat),Vals xs us->Vals (xs.set i x) (us.set i u)
 | _,_,_,.nil=>.nil
 | _,_,0,.cons _ t=>.cons r t
 | _,_,i+1,.cons q t=>.cons q (Vals.set r i t)
theorem Vals.append:∀ {xs ys:List V} {us ws:List Value},Vals xs us->Vals ys ws->Vals (xs++ys) (us++ws)
 | _,_,_,_,.nil,s=>s
 | _,_,_,_,.cons r t,s=>.cons r (Vals.append t s)
theorem Vals.take:∀ {xs:List V} {us:List Value} (n:Nat),Vals xs us->Vals (xs.take n) (us.take n)
 | _,_,0,_=>.nil
 | _,_,_+1,.nil=>.nil
 | _,_,n+1,.cons r t=>.cons r (Vals.take n t)
theorem Vals.drop:∀ {xs:List V} {us:List Value} (n:Nat),Vals xs us->Vals (xs.drop n) (us.drop n)
 | _,_,0,r=>r
 | _,_,_+1,.nil=>.nil
 | _,_,n+1,.cons _ t=>Vals.drop n t
theorem Vals.none_of:∀ {xs:List V} {us:List Value} {i:Nat},Vals xs us->xs[i]?=none->us[i]?=none:=fun {xs us i} r e=>by
 have h1:=r.length;have h2:xs.length<=i:=List.getElem?_eq_none_iff.mp e;exact List.getElem?_eq_none_iff.mpr 'b'
noncomputable def RelO:Option V->Option Value->Prop
 | some v,some u=>RelV v u
 | none,none=>True
 | _,_=>False
noncomputable def KV {κ:Type} : List (κ×V)->List (κ×Value)->Prop:=Paired fun (p:κ×V) (q:κ×Value)=>p.1=q.1/\RelV p.2 q.2
noncomputable def kV:A7->V
 | .inl i=>.int i
 | .inr x=>.str x
inductive HO where
 | lst (xs:List V)
 | tup (xs:List V)
 | dK (kvs:List (A7×V)) | dT (kvs:List (List A7×V))
 | set (S:Int->Bool) (n:Nat)
 | ins (C dx:Addr) (fs:List (Str×V))
 | own (x:Addr)
 | xd (fs:List (Str×V))
 | met (f x:Addr)
 | rng (lo hi:Int)
 | frz (o:Obj) (u:HO)
 | tbl (ps:Array Value)
 | ext (φ:Heap->Prop)
noncomputable abbrev Hp:=Addr->Option HO
noncomputable def A0 (H:Hp) (a:Addr) (o:HO):Hp:=fun b=>if b=a then some o else H b
theorem A1{H:Hp}{a:Addr}{o:HO} : A0 H a o a=some o:=by unfold A0;rw [if_pos rfl]
theorem A4{H:Hp}{a b:Addr}{o:HO}(h:b≠a):A0 H a o b=H b:=by unfold A0;rw [if_neg h]
theorem ne_of{H:Hp}{a b:Addr}{o u:HO}(h:H a=some o)(h':H b=some u)(d:o≠u):a≠b:=by
 intro e;subst e;rw [h] at h';exact d (Option.some.inj h')
theorem O3{H:Hp}{a b:Addr}{o:HO}(h:H a=some o)(h':H b=none):a≠b:=by
 intro e;subst e;rw [h] at h';cases h'
section
variable (P:Program) (w:World)
noncomputable def ObjOk (H:Hp) (h:Heap) (a:Addr):HO->Prop
 | .lst xs=>xs.length<=sizeLine/\∃ (its:List Value) (n:Nat),Vals xs its/\h.get? a=some { cls:=.type "list",data:=.seq its.toArray n }
 | .tup xs=>xs.length<=sizeLine/\∃ its:List Value,Vals xs its/\IsTup h a its.toArray
 | .dK kvs=>kvs.length<=sizeLine/\(a==sysModules)=false/\∃ vs,KV kvs vs/\h.DictOf (M4 P w) a vs
 | .dT kvs=>kvs.length<=sizeLine/\(a==sysModules)=false/\∃ xs:List (List A7×Addr×Value),
   Paired (fun (p:List A7×V) (q:List A7×Addr×Value)=>p.1=q.1/\H q.2.1=some (.tup (p.1.map kV))/\RelV p.2 q.2.2) kvs xs/\
   ∃ o es ep,h.get? a=some o/\o.ExactDict/\o.data=.dict es ep/\es.toList=xs.map (entryOfKey (tupleKind (M4 P w)))/\(xs.map (·.1)).Nodup
 | .set S n=>h.SetOf (intKind P w) a S n
 | .ins C dx fs=>H dx=some (.own a)/\fs.length<=1000/\dx≠a/\h.get? a=some (cK C dx)/\
   ∃ mA,h.Ns1 dx mA/\(∀ f,RelO (fs.lookup f) (mA f))/\PySem.Within mA (fs.map (·.1))
 | .own _=>∃ o,h.get? a=some o
 | .xd fs=>∃ mA,h.Ns1 a mA/\∀ f,RelO (fs.lookup f) (mA f)
 | .rng lo hi=>∃ t u v,h.get? a=some { cls:=.type "range",data:=.fields #[.int lo t,.int hi u,.int 1 v] }
 | .frz o u=>h.get? a=some o/\ObjOk H h a u
 | .tbl ps=>h.get? a=some { cls:=.none,data:=.fields ps }
 | .met f x=>h.get? a=some (PySem.W.methodObj (.ref f) (.ref x))
 | .ext φ=>φ h/\(∃ o,h.get? a=some o)/\∀ h1 h2:Heap,φ h1->(∀ o,h1.get? a=some o->h2.get? a=some o)->φ h2
noncomputable def L9 (H:Hp) (h:Heap):Prop:=∀ a o,H a=some o->ObjOk P w H h a o
end
section
variable {P:Program} {w:World} {H H':Hp} {h h':Heap} {a:Addr} {o:HO}
theorem ObjOk.lt(x:ObjOk P w H h a o):a<h.objs.size:=by
 cases o with
 | lst xs=>obtain ⟨_,_,_,_,e⟩:=x;exact Heap.lt_size e
 | tup xs=>obtain ⟨_,_,_,p⟩:=x;exact p.lt
 | dK kvs=>obtain ⟨_,_,_,_,o,_,_,e,_⟩:=x;exact Heap.lt_size e
 | dT kvs=>obtain ⟨_,_,_,_,o,_,_,e,_⟩:=x;exact Heap.lt_size e
 | set S n=>obtain ⟨o,_,_,_,e,_⟩:=x;exact Heap.lt_size e
 | ins C dx fs=>obtain ⟨_,_,_,e,_⟩:=x;exact Heap.lt_size e
 | own y=>obtain ⟨_,e⟩:=x;exact Heap.lt_size e
 | xd fs=>obtain ⟨_,⟨_,_,_,e,_⟩,_⟩:=x;exact Heap.lt_size e
 | rng lo hi=>obtain ⟨_,_,_,e⟩:=x;exact Heap.lt_size e
 | frz ob u=>obtain ⟨e,_⟩:=x;exact Heap.lt_size e
 | tbl ps=>exact Heap.lt_size (show h.get? a=some _ from x)
 | met f y=>exact Heap.lt_size (show h.get? a=some _ from x)
 | ext φ=>obtain ⟨_,⟨_,e⟩,_⟩:=x;exact Heap.lt_size e
theorem j8{α β:Type}{F G:α->β->Prop} : ∀ {zx:List α} {l₂:List β},Paired F zx l₂->(∀ a b,F a b->G a b)->Paired G zx l₂
 | _,_,.nil,_=>.nil
 | _,_,.cons r t,f=>.cons (f _ _ r) (j8 t f)
theorem ObjOk.stay(x:ObjOk P w H h a o)(k:∀ b u,(b=a\/H b=some (.own a))->h.get? b=some u->h'.get? b=some u)(ho:∀ b,H b=some (.own a)->H' b=some (.own a))(ht:∀ b xs,H b=some (.tup xs)->H' b=some (.tup xs)):ObjOk P w H' h' a o:=by
 induction o with
 | lst xs=>obtain ⟨z,its,n,r,e⟩:=x;exact ⟨z,its,n,r,k _ _ (.inl rfl) e⟩
 | tup xs=>obtain ⟨z,its,r,ob,e,c⟩:=x;exact ⟨z,its,r,ob,k _ _ (.inl rfl) e,c⟩
 | dK kvs=>obtain ⟨z,y,vs,r,ob,es,ep,e,c⟩:=x;exact ⟨z,y,vs,r,ob,es,ep,k _ _ (.inl rfl) e,c⟩
 | dT kvs=>
  obtain ⟨z,y,xs,r,ob,es,ep,e,c⟩:=x;exact ⟨z,y,xs,j8 r fun p q z=>⟨z.1,ht _ _ z.2.1,z.2.2⟩,ob,es,ep,k _ _ (.inl rfl) e,c⟩
 | set S n=>obtain ⟨ob,es,ep,t,e,c⟩:=x;exact ⟨ob,es,ep,t,k _ _ (.inl rfl) e,c⟩
 | ins C dx fs=>
  obtain ⟨d,z,ne,e,mA,⟨od,es,ep,e2,c⟩,r⟩:=x;exact ⟨ho _ d,z,ne,k _ _ (.inl rfl) e,mA,⟨od,es,ep,k _ _ (.inr d) e2,c⟩,r⟩
 | own y=>obtain ⟨ob,e⟩:=x;exact ⟨ob,k _ _ (.inl rfl) e⟩
 | xd fs=>obtain ⟨mA,⟨od,es,ep,e,c⟩,r⟩:=x;exact ⟨mA,⟨od,es,ep,k _ _ (.inl rfl) e,c⟩,r⟩
 | rng lo hi=>obtain ⟨t,u,v,e⟩:=x;exact ⟨t,u,v,k _ _ (.inl rfl) e⟩
 | frz ob u ih=>obtain ⟨e,q⟩:=x;exact ⟨k _ _ (.inl rfl) e,ih q⟩
 | tbl ps=>
  have e:h.get? a=some { cls:=.none,data:=.fields ps }:=x;show h'.get? a=some { cls:=.none,data:=.fields ps };exact k a _ (.inl rfl) e
 | met f y=>
  have e:h.get? a=some (PySem.W.methodObj (.ref f) (.ref y)):=x;show h'.get? a=some (PySem.W.methodObj (.ref f) (.ref y));exact k a _ (.inl rfl) e
 | ext φ=>obtain ⟨p,⟨o,e⟩,st⟩:=x;exact ⟨st _ _ p fun o q=>k _ _ (.inl rfl) q,⟨o,k _ _ (.inl rfl) e⟩,st⟩
theorem L9.lt(x:L9 P w H h)(e:H a=some o):a<h.objs.size:=(x a o e).lt
theorem L9.fresh(x:L9 P w H h)(e:h.objs.size<=a):H a=none:=by
 cases q:H a with
 | none=>rfl
 | some u=>exact absurd (Q6 (x.lt q) e) (j4 _)
theorem L9.kept(x:L9 P w H h)(k:∀ b u,h.get? b=some u->h'.get? b=some u):L9 P w H h':=fun a o e=>
 (x a o e).stay (fun b u _ q=>k b u q) (fun _ q=>q) fun _ _ q=>q
theorem L9.laid(x:L9 P w H h)(k:∀ b u,h.get? b=some u->h'.get? b=some u)(hp:h.objs.size<=a)(new:ObjOk P w (A0 H a o) h' a o):L9 P w (A0 H a o) h':=fun b u e=>by
 have hn:=x.fresh hp
 by_cases hb:b=a
 .subst hb;rw [A1] at e;cases e;exact new
 .rw [A4 hb] at e;exact (x b u e).stay (fun c v _ q=>k c v q) (fun c q=>by rw [A4 (O3 q hn)];exact q) fun c xs q=>by rw [A4 (O3 q hn)];exact q
end
noncomputable def Rd (H:Hp) (a:Addr) (u:HO):Prop:=H a=some u\/∃ o,H a=some (.frz o u)
theorem Rd.of{H:Hp}{a:Addr}{u:HO}(h:H a=some u):Rd H a u:=.inl h
theorem Rd.ok{P:Program}{w:World}{H:Hp}{h:Heap}{a:Addr}{u:HO}(r:Rd H a u)(x:L9 P w H h):ObjOk P w H h a u:=by
 rcases r with r | ⟨o,r⟩
 .exact x a u r
 .obtain ⟨_,q⟩:=x a _ r;exact q
noncomputable def gN:Option HO->Prop
 | some (.lst _)=>True
 | some (.dK _)=>True
 | some (.dT _)=>True
 | some (.set _ _)=>True
 | some (.ins _ _ _)=>True
 | some (.ext _)=>True
 | _=>False
section
variable {P:Program} {w:World} {H:Hp} {h h':Heap} {x e:Addr} {o':HO}
theorem L9.write(ok:L9 P w H h)(mu:gN (H x))(he:e=x\/H e=some (.own x))(k:∀ b u,b≠e->h.get? b=some u->h'.get? b=some u)(iY:∃ u,h'.get? e=some u)(new:ObjOk P w (A0 H x o') h' x o'):L9 P w (A0 H x o') h':=fun b u q=>by
 have nown:∀ c y,H c=some (.own y)->c≠x:=fun c y r z=>by subst z;rw [r] at mu;exact mu
 have ntup:∀ c xs,H c=some (.tup xs)->c≠x:=fun c xs r z=>by subst z;rw [r] at mu;exact mu
 by_cases hb:b=x
 .subst hb;rw [A1] at q;cases q;exact new
 .rw [A4 hb] at q
  by_cases fB:b=e
  .have q':H b=some (.own x):=by
    rcases he with z | z
    .exact absurd (fB.trans z) hb
    .rw [fB];exact z
   rw [q] at q';cases q';obtain ⟨v,hv⟩:=iY;exact ⟨v,by rw [fB];exact hv⟩
  .refine (ok b u q).stay (fun c v hc r=>k c v ?_ r) (fun c r=>by rw [A4 (nown c b r)];exact r) fun c xs r=>by rw [A4 (ntup c xs r)];exact r
   rcases hc with rfl | hc
   .exact fB
   .rintro rfl
    rcases he with z | z
    .exact nown c b hc z
    .rw [hc] at z;cases z;exact hb rfl
end
structure Un(fs ex:List Addr)(H H':Hp)(h h':Heap):Prop where
 keep:∀ b o,h.get? b=some o->H b=none->b∉fs->b∉ex->h'.get? b=some o
 slot:∀ b o,h.get? b=some o->H b=none->b∈fs->b∉ex->∃ sl,h'.get? b=some { o with slots:=sl }
 free:∀ b o,h.get? b=some o->H b=none->b∉ex->H' b=none
 there:∀ b o,h.get? b=some o->b∉ex->∃ o',h'.get? b=some o'
 tups:∀ b xs,H b=some (.tup xs)->H' b=some (.tup xs)
 frzs:∀ b o u,H b=some (.frz o u)->H' b=some (.frz o u)
 tbls:∀ b ps,H b=some (.tbl ps)->∃ more,H' b=some (.tbl (ps++more))
section
variable {fs fs' ex ex':List Addr} {H H1 H2:Hp} {h h1 h2 h':Heap} {a x e:Addr} {o:HO}
theorem Un.any(u:Un fs ex H H1 h h1){b:Addr}{ob:Obj}(q:h.get? b=some ob)(n:H b=none)(hx:b∉ex):∃ sl,h1.get? b=some { ob with slots:=sl }:=by
 by_cases hb:b∈fs
 .exact u.slot b ob q n hb hx
 .exact ⟨ob.slots,u.keep b ob q n hb hx⟩
theorem Un.kept(k:∀ b u,h.get? b=some u->h'.get? b=some u):Un fs ex H H h h':=
 ⟨fun b ob q _ _ _=>k b ob q,fun b ob q _ _ _=>⟨ob.slots,k b ob q⟩,fun _ _ _ n _=>n,fun b ob q _=>⟨ob,k b ob q⟩,fun _ _ q=>q,fun _ _ _ q=>q,fun _ ps q=>⟨#[],by rw [q];simp⟩⟩
theorem Un.refl:Un fs ex H H h h:=Un.kept fun _ _ q=>q
theorem Un.laid(k:∀ b u,h.get? b=some u->h'.get? b=some u)(hp:h.objs.size<=a)(hn:H a=none):Un fs ex H (A0 H a o) h h' where
 keep:=fun b u q _ _ _=>k b u q
 slot:=fun b u q _ _ _=>⟨u.slots,k b u q⟩
 free:=fun b u q n _=>by rw [A4 (J4 (Q6 (Heap.lt_size q) hp))];exact n
 there:=fun b u q _=>⟨u,k b u q⟩
 tups:=fun b xs q=>by rw [A4 (O3 q hn)];exact q
 frzs:=fun b u xs q=>by rw [A4 (O3 q hn)];exact q
 tbls:=fun b ps q=>⟨#[],by rw [A4 (O3 q hn),q];simp⟩
theorem Un.write(mu:gN (H x))(he:e=x\/H e=some (.own x))(k:∀ b u,b≠e->h.get? b=some u->h'.get? b=some u)(iY:∃ u,h'.get? e=some u):Un fs ex H (A0 H x o) h h':=by
 have hx:∀ b,H b=none->b≠x:=fun b n z=>by subst z;rw [n] at mu;exact mu
 have hb:∀ b,H b=none->b≠e:=fun b n z=>by
  subst z
  rcases he with r | r
  .exact hx b n r
  .rw [n] at r;cases r
 have hm:∀ b u,H b=some u->¬ gN (some u)->b≠x:=fun b u q nm z=>by subst z;rw [q] at mu;exact nm mu
 refine ⟨fun b u q n _ _=>k b u (hb b n) q,fun b u q n _ _=>⟨u.slots,k b u (hb b n) q⟩,fun b u q n _=>by rw [A4 (hx b n)];exact n,fun b u q _=>?_,
  fun b xs q=>by rw [A4 (hm b _ q fun z=>z)];exact q,fun b u xs q=>by rw [A4 (hm b _ q fun z=>z)];exact q,fun b ps q=>⟨#[],by rw [A4 (hm b _ q fun z=>z),q];simp⟩⟩
 by_cases fB:b=e
 .subst fB;exact iY
 .exact ⟨u,k b u fB q⟩
end
noncomputable def nP (h:Heap) (H:Hp):List Addr:=(U0 h.objs.size).filter fun a=>(H a).isSome
noncomputable def hidT (h:Heap) (H:Hp):Heap:=PySem.W.hideAll h (nP h H)
theorem aiw(h:Heap)(H:Hp):(hidT h H).objs.size=h.objs.size:=PySem.W.hideAll_size _ _
theorem akn{h:Heap}{H:Hp}{b:Addr}{o:Obj}(e:h.get? b=some o)(n:H b=none):(hidT h H).get? b=some o:=
 PySem.W.hideAll_get _ e fun hm=>by
  have q:(H b).isSome=true:=(N1.mp hm).2;rw [n] at q;simp at q
theorem amy{h:Heap}{H:Hp}{b:Addr}{o:Obj}(e:(hidT h H).get? b=some o):h.get? b=some o/\H b=none:=by
 have e':h.get? b=some o:=PySem.W.of_hideAll (nP h H) e;refine ⟨e',?_⟩
 cases q:H b with
 | none=>rfl
 | some x=>
  have hm:b∈nP h H:=N1.mpr ⟨aS.mpr (Heap.lt_size e'),by simp [q]⟩;have z:(hidT h H).get? b=none:=PySem.W.hideAll_none (nP h H) hm;rw [z] at e;cases e
noncomputable def amz (g h:Heap) (L:Addr):List (Addr×Obj):=(U0 h.objs.size).filterMap fun a=>if a=L\/(g.get? a).isSome=true then none else (h.get? a).map fun o=>(a,o)
noncomputable def rest (g h:Heap) (L d:Addr):List (Addr×Obj):=(amz g h L).filter fun p=>decide (p.1≠d)
structure Mod(K:PySem.W.Frag)(mg:Str->Option Value)(base:Heap):Prop where
 kin:K.In base
 glob:base.Ns mainGlobals mg
 blt:∃ mb,base.Ns builtinsNs mb/\∀ x:Str,x≠"__name__"->mb x=bootBuiltins x
 nolimit:base.NoLimit
structure Cx where
 prog:Program
 w:World
 K:PySem.W.Frag
 mg:Str->Option Value
 base:Heap
 A:Around
 N:List Str
 s₀:Shared
 H₀:Hp
 env:Env
 outer:List Env
 stack:List Env
 ex:List Addr
 fn:Str->Bool
 calm:Bool
 pn:List (Addr×Obj)
 xe:Value->Shared->Prop
noncomputable def Q8 (l:List Env):List Addr:=l.filterMap (·.frame)
noncomputable abbrev Cx.fs (X:Cx):List Addr:=Q8 X.outer
noncomputable def kE (sc:Scope) (x:Str):Prop:=sc.names.lookup x=some .local\/sc.names.lookup x=some .cell\/sc.names.lookup x=some .free
noncomputable def Y1 (sc:Scope) (x:Str):Prop:=sc.names.lookup x=some .local\/sc.names.lookup x=some .cell
noncomputable def Look (env:Env) (h:Heap) (m:Str->Option Value) (x:Str) (u:Value):Prop:=
 (env.kindOf x=some .local/\m x=some u)\/((env.kindOf x=some .cell\/env.kindOf x=some .free)/\∃ c,env.cells.lookup x=some c/\h.IsCell c (some u))
structure Cx.Ok(X:Cx):Prop where
 mod:Mod X.K X.mg X.base
 kind:X.env.scope.kind=.function
 glob:X.env.globals=mainGlobals
 blt:X.env.builtins=builtinsNs
 above:X.s₀.heap.objs.size<=X.env.locals
 inj:∀ x y c,X.env.cells.lookup x=some c->X.env.cells.lookup y=some c->x=y
 has:∀ x,(X.env.kindOf x=some .cell\/X.env.kindOf x=some .free)->∃ c,X.env.cells.lookup x=some c
 cab:∀ x c,X.fn x=true->X.env.cells.lookup x=some c->X.s₀.heap.objs.size<=c
 hd:X.calm=true->X.A.handled=none
 frames:X.A.frames=some X.stack
 stk:X.stack=X.outer\/(X.stack=X.env::X.outer/\X.env.frame=some X.env.locals)
 exf:∀ b∈X.ex,b≠X.env.locals/\∀ x c,X.env.cells.lookup x=some c->c≠b
 bs:∀ b o,X.base.get? b=some o->X.s₀.heap.get? b=some o/\X.H₀ b=none
 bsz:X.base.objs.size<=X.s₀.heap.objs.size
 noex:∀ b o,X.base.get? b=some o->b∉X.ex
 exfs:∀ b∈X.ex,b∉X.fs
 funs:X.s₀.heap.FunFrames X.base X.outer
 frf:∀ b∈X.fs,X.H₀ b=none
structure Inv(X:Cx)(pins:List (Addr×Obj))(Y:List (Option V))(H:Hp)(s:Shared):Prop where
 ok:X.Ok
 os:s.os=X.s₀.os
 bare:AllBare s.gens
 base:Un X.fs X.ex X.H₀ H X.s₀.heap s.heap
 loc:∃ m,s.heap.Ns X.env.locals m/\∀ (i:Nat) (x:Str) (v:V),X.N[i]?=some x->Y[i]?=some (some v)->kE X.env.scope x->∃ u,RelV v u/\Look X.env s.heap m x u
 cell:∀ x c,X.env.cells.lookup x=some c->∃ v,s.heap.IsCell c v
 free:H X.env.locals=none
 freeC:∀ x c,X.env.cells.lookup x=some c->H c=none
 pin:∀ p∈X.pn++pins,s.heap.get? p.1=some p.2/\H p.1=none/\p.1≠X.env.locals/\p.1∉X.fs/\∀ v,p.2.data≠.cell v
 hok:L9 X.prog X.w H s.heap
 len:Y.length=X.N.length
section
variable {X:Cx} {pins:List (Addr×Obj)} {Y:List (Option V)} {H H':Hp} {s:Shared} {h':Heap}
theorem Cx.Ok.nofr(ok:X.Ok){b:Addr}{o:Obj}(e:X.base.get? b=some o):b∉X.fs:=fun hb=>by
 have:=(ok.funs.mem hb).1
 rw [e] at this;cases this
theorem Inv.bs(I:Inv X pins Y H s):∀ b o,X.base.get? b=some o->s.heap.get? b=some o/\H b=none:=fun b o e=>
 ⟨I.base.keep b o (I.ok.bs b o e).1 (I.ok.bs b o e).2 (I.ok.nofr e) (I.ok.noex b o e),I.base.free b o (I.ok.bs b o e).1 (I.ok.bs b o e).2 (I.ok.noex b o e)⟩
theorem Inv.bk(I:Inv X pins Y H s):∀ b o,X.base.get? b=some o->s.heap.get? b=some o:=fun b o e=>(I.bs b o e).1
theorem Inv.mod(I:Inv X pins Y H s):Mod X.K X.mg X.base:=I.ok.mod
theorem Inv.kIn(I:Inv X pins Y H s):X.K.In s.heap:=I.ok.mod.kin.keeps I.bk
theorem Inv.lt(I:Inv X pins Y H s):X.env.locals<s.heap.objs.size:=let ⟨_,hn,_⟩:=I.loc;hn.lt
theorem Inv.sz(I:Inv X pins Y H s):X.s₀.heap.objs.size<=s.heap.objs.size:=D5 I.ok.above (Nat.le_of_lt I.lt)
theorem Inv.nofs(I:Inv X pins Y H s){a:Addr}(h:s.heap.objs.size<=a):a∉X.fs:=fun hb=>by
 obtain ⟨_,o,ho,_⟩:=I.ok.funs.mem hb;exact absurd (Q6 (Heap.lt_size ho) (D5 I.sz h)) (j4 _)
theorem Inv.cne(I:Inv X pins Y H s):∀ x c,X.env.cells.lookup x=some c->c≠X.env.locals:=fun x c e z=>by
 obtain ⟨v,o,ho,hd⟩:=I.cell x c e;obtain ⟨m,⟨o',es,ep,g8,lJ,_⟩,_⟩:=I.loc;rw [z,g8] at ho;cases ho;rw [lJ] at hd;cases hd
theorem Inv.funs(I:Inv X pins Y H s):s.heap.FunFrames X.base X.outer:=by
 have all:∀ (l:List Env),(∀ b∈Q8 l,b∈X.fs)->X.s₀.heap.FunFrames X.base l->s.heap.FunFrames X.base l:=by
  intro l
  induction l with
  | nil=>intro _ _;trivial
  | cons env r ih=>
   intro hs hl;obtain ⟨hk,⟨L,o,hf,hn,ho,hd⟩,hr⟩:=hl;have hL:L∈X.fs:=hs L (by unfold Q8;rw [aR,hf];exact K5);obtain ⟨sl,e⟩:=I.base.slot L o ho (I.ok.frf L hL) hL fun z=>I.ok.exfs L z hL
   exact ⟨hk,⟨L,_,hf,hn,e,hd⟩,ih (fun b hb=>hs b (by unfold Q8;rw [aR,hf];exact L8 _ hb)) hr⟩
 exact all X.outer (fun _ hb=>hb) I.ok.funs
theorem Inv.stack(I:Inv X pins Y H s):s.heap.FunFrames X.base X.stack:=by
 rcases I.ok.stk with e | ⟨e,hf⟩
 .rw [e];exact I.funs
 .rw [e];obtain ⟨m,hn,_⟩:=I.loc;refine .cons (by rw [I.ok.kind];decide) hf hn ?_ I.funs;exact Heap.get?_none_of_le (D5 I.ok.bsz I.ok.above)
theorem Inv.stkSub(I:Inv X pins Y H s):∀ b∈Q8 X.stack,b∈X.env.locals::X.fs:=fun b hb=>by
 rcases I.ok.stk with e | ⟨e,hf⟩
 .rw [e] at hb;exact L8 _ hb
 .rw [e] at hb;unfold Q8 at hb;rw [aR,hf] at hb;exact hb
theorem Inv.stkFree(I:Inv X pins Y H s):∀ b∈Q8 X.stack,H b=none:=fun b hb=>by
 rcases F9.mp (I.stkSub b hb) with e | hb
 .rw [e];exact I.free
 .obtain ⟨_,o,ho,_⟩:=I.ok.funs.mem hb;exact I.base.free b o ho (I.ok.frf b hb) fun z=>I.ok.exfs b z hb
theorem Inv.step{g':Array GenState}{t':Nat}{d':Drawn}{ch:List Addr}(I:Inv X pins Y H s)(aB:∀ b∈ch,(b∈X.ex\/X.s₀.heap.objs.size<=b)/\b≠X.env.locals/\(∀ x c,X.env.cells.lookup x=some c->c≠b)/\∀ p∈X.pn++pins,p.1≠b)(keep:∀ b o,b≠X.env.locals->b∉X.fs->b∉ch->s.heap.get? b=some o->H b=none->h'.get? b=some o)(slot:∀ b o,b≠X.env.locals->b∈X.fs->b∉ch->s.heap.get? b=some o->H b=none->∃ sl,h'.get? b=some { o with slots:=sl })(free:∀ b o,b∉ch->s.heap.get? b=some o->H b=none->H' b=none)(there:∀ b o,b∉ch->s.heap.get? b=some o->∃ o',h'.get? b=some o')(tups:∀ b xs,H b=some (.tup xs)->H' b=some (.tup xs))(frzs:∀ b o u,H b=some (.frz o u)->H' b=some (.frz o u))(tbls:∀ b ps,H b=some (.tbl ps)->∃ more,H' b=some (.tbl (ps++more)))(ns:∀ m,s.heap.Ns X.env.locals m->h'.Ns X.env.locals m)(hok:L9 X.prog X.w H' h')(hg:AllBare g') :
  Inv X pins Y H' { s with heap:=h',gens:=g',drawn:=d',toks:=t' }:=by
 have neL:∀ b o,X.s₀.heap.get? b=some o->b≠X.env.locals:=fun b o e=>J4 (Q6 (Heap.lt_size e) I.ok.above)
 have neC:∀ b o,X.s₀.heap.get? b=some o->b∉X.ex->b∉ch:=fun b o e hx hb=>by
  rcases (aB b hb).1 with z | z
  .exact hx z
  .exact absurd (Q6 (Heap.lt_size e) z) (j4 _)
 have cellK:∀ x c,X.env.cells.lookup x=some c->∀ v,s.heap.IsCell c v->h'.IsCell c v:=fun x c e v ⟨o,ho,hd⟩=>by
  have nch:c∉ch:=fun z=>(aB c z).2.2.1 x c e rfl
  by_cases hc:c∈X.fs
  .obtain ⟨sl,q⟩:=slot c o (I.cne x c e) hc nch ho (I.freeC x c e);exact ⟨_,q,hd⟩
  .exact ⟨o,keep c o (I.cne x c e) hc nch ho (I.freeC x c e),hd⟩
 refine ⟨I.ok,I.os,hg,⟨fun b o e n hb hx=>?_,fun b o e n hb hx=>?_,fun b o e n hx=>?_,fun b o e hx=>?_,fun b xs e=>tups b xs (I.base.tups b xs e),fun b o xs e=>frzs b o xs (I.base.frzs b o xs e),fun b ps e=>?_⟩,?_,fun x c e=>?_,?_,fun x c e=>?_,fun p hp=>?_,hok,I.len⟩
 .exact keep b o (neL b o e) hb (neC b o e hx) (I.base.keep b o e n hb hx) (I.base.free b o e n hx)
 .obtain ⟨sl,e1⟩:=I.base.slot b o e n hb hx;obtain ⟨sl',e2⟩:=slot b _ (neL b o e) hb (neC b o e hx) e1 (I.base.free b o e n hx);exact ⟨sl',e2⟩
 .obtain ⟨o',e1⟩:=I.base.there b o e hx;exact free b o' (neC b o e hx) e1 (I.base.free b o e n hx)
 .obtain ⟨o',e1⟩:=I.base.there b o e hx;exact there b o' (neC b o e hx) e1
 .obtain ⟨m1,e1⟩:=I.base.tbls b ps e;obtain ⟨m2,e2⟩:=tbls b _ e1;exact ⟨m1++m2,by rw [e2,Array.append_assoc]⟩
 .obtain ⟨m,hn,hl⟩:=I.loc;refine ⟨m,ns m hn,fun i x v e1 e2 e3=>?_⟩;obtain ⟨u,r,l⟩:=hl i x v e1 e2 e3;refine ⟨u,r,?_⟩
  rcases l with l | ⟨k,c,e,z⟩
  .exact .inl l
  .exact .inr ⟨k,c,e,cellK x c e _ z⟩
 .obtain ⟨v,z⟩:=I.cell x c e;exact ⟨v,cellK x c e v z⟩
 .obtain ⟨m,⟨o,_,_,ho,_⟩,_⟩:=I.loc;exact free _ o (fun z=>(aB _ z).2.1 rfl) ho I.free
 .obtain ⟨v,o,ho,hd⟩:=I.cell x c e;exact free c o (fun z=>(aB c z).2.2.1 x c e rfl) ho (I.freeC x c e)
 .obtain ⟨e,n,ne,nf,d⟩:=I.pin p hp;have nch:p.1∉ch:=fun z=>(aB p.1 z).2.2.2 p hp rfl
  exact ⟨keep p.1 p.2 ne nf nch e n,free p.1 p.2 nch e n,ne,nf,d⟩
theorem Inv.un{t':Nat}(I:Inv X pins Y H s)(u:Un X.fs [] H H' s.heap h')(hok:L9 X.prog X.w H' h'):Inv X pins Y H' { s with heap:=h',toks:=t' }:=by
 obtain ⟨m,⟨o,es,ep,ho,r⟩,_⟩:=id I.loc;obtain ⟨sl,hL⟩:=u.any ho I.free 'c';exact I.step (g':=s.gens) (d':=s.drawn) (ch:=[]) (fun _ z=>nomatch z) (fun b o _ hb _ e n=>u.keep b o e n hb 'c') (fun b o _ hb _ e n=>u.slot b o e n hb 'c') (fun b o _ e n=>u.free b o e n 'c') (fun b o _ e=>u.there b o e 'c') u.tups u.frzs u.tbls (fun m' hm=>by
  obtain ⟨o',es',ep',g8,r'⟩:=hm;rw [ho] at g8;cases g8;exact ⟨_,es',ep',hL,r'⟩) hok I.bare
theorem Inv.call{g':Array GenState}{t':Nat}{d':Drawn}{ch:List Addr}(I:Inv X pins Y H s)(u:Un (Q8 X.stack) ch H H' s.heap h')(hok:L9 X.prog X.w H' h')(hg:AllBare g')(aB:∀ b∈ch,(b∈X.ex\/X.s₀.heap.objs.size<=b)/\b≠X.env.locals/\(∀ x c,X.env.cells.lookup x=some c->c≠b)/\∀ p∈X.pn++pins,p.1≠b) :
  Inv X pins Y H' { s with heap:=h',gens:=g',drawn:=d',toks:=t' }:=by
 obtain ⟨m,⟨o,es,ep,ho,r⟩,_⟩:=id I.loc;obtain ⟨sl,hL⟩:=u.any ho I.free fun z=>(aB _ z).2.1 rfl
 exact I.step (ch:=ch) aB (fun b o hL hb hc e n=>u.keep b o e n (fun z=>(F9.mp (I.stkSub b z)).elim hL hb) hc) (fun b o _ _ hc e n=>u.any e n hc) (fun b o hc e n=>u.free b o e n hc) (fun b o hc e=>u.there b o e hc) u.tups u.frzs u.tbls (fun m' hm=>by
  obtain ⟨o',es',ep',g8,r'⟩:=hm;rw [ho] at g8;cases g8;exact ⟨_,es',ep',hL,r'⟩) hok hg
theorem Inv.turned{t':Nat}{it:Addr}(I:Inv X pins Y H s)(k:∀ b o,b≠it->s.heap.get? b=some o->h'.get? b=some o)(hn:H it=none)(hL:it≠X.env.locals)(h1:it∈X.ex\/X.s₀.heap.objs.size<=it)(h2:∀ x c,X.env.cells.lookup x=some c->c≠it)(h3:∀ p∈X.pn++pins,p.1≠it):Inv X pins Y H { s with heap:=h',toks:=t' }:=by
 have nit:∀ b u,H b=some u->b≠it:=fun b u e z=>by rw [z,hn] at e;cases e
 refine I.step (g':=s.gens) (d':=s.drawn) (ch:=[it]) (fun b hb=>?_) (fun b o _ _ hc e _=>k b o (fun z=>hc (by simp [z])) e) (fun b o _ _ hc e _=>⟨o.slots,k b o (fun z=>hc (by simp [z])) e⟩) (fun _ _ _ _ n=>n)
  (fun b o hc e=>⟨o,k b o (fun z=>hc (by simp [z])) e⟩) (fun _ _ e=>e) (fun _ _ _ e=>e) (fun b ps e=>⟨#[],by rw [e];simp⟩) (fun m hm=>?_) (fun b u e=>?_) I.bare
 .have e:b=it:=by simpa using hb
  subst e;exact ⟨h1,hL,h2,h3⟩
 .obtain ⟨o,es,ep,ho,r⟩:=hm;exact ⟨o,es,ep,k _ o (Ne.symm hL) ho,r⟩
 .refine (I.hok b u e).stay (fun c v hc q=>k c v ?_ q) (fun _ q=>q) fun _ _ q=>q
  rcases hc with z | z
  .rw [z];exact nit b u e
  .exact nit c _ z
theorem Inv.tok(I:Inv X pins Y H s)(t:Nat):Inv X pins Y H { s with toks:=t }:=I.un (h':=s.heap) (t':=t) Un.refl I.hok
theorem Inv.kept{t':Nat}(I:Inv X pins Y H s)(k:∀ b u,s.heap.get? b=some u->h'.get? b=some u):Inv X pins Y H { s with heap:=h',toks:=t' }:=I.un (Un.kept k) (I.hok.kept k)
theorem Inv.laid{a:Addr}{o:HO}{t':Nat}(I:Inv X pins Y H s)(k:∀ b u,s.heap.get? b=some u->h'.get? b=some u)(hp:s.heap.objs.size<=a)(new:ObjOk X.prog X.w (A0 H a o) h' a o) :
  Inv X pins Y (A0 H a o) { s with heap:=h',toks:=t' }:=I.un (Un.laid k hp (I.hok.fresh hp)) (I.hok.laid k hp new)
theorem Inv.write{x e:Addr}{o:HO}{t':Nat}(I:Inv X pins Y H s)(mu:gN (H x))(he:e=x\/H e=some (.own x))(k:∀ b u,b≠e->s.heap.get? b=some u->h'.get? b=some u)(iY:∃ u,h'.get? e=some u)(new:ObjOk X.prog X.w (A0 H x o) h' x o):Inv X pins Y (A0 H x o) { s with heap:=h',toks:=t' }:=I.un (Un.write mu he k iY) (I.hok.write mu he k iY new)
theorem Inv.pins_of{pins':List (Addr×Obj)}(I:Inv X pins Y H s)(h:∀ p∈pins',s.heap.get? p.1=some p.2/\H p.1=none/\p.1≠X.env.locals/\p.1∉X.fs/\∀ v,p.2.data≠.cell v):Inv X pins' Y H s:=
 ⟨I.ok,I.os,I.bare,I.base,I.loc,I.cell,I.free,I.freeC,fun p hp=>(D8.mp hp).elim (fun z=>I.pin p (O6 _ z)) (h p),I.hok,I.len⟩
theorem qY{N:List Str}(hN:N.Nodup){i j:Nat}{x:Str}(a:N[i]?=some x)(b:N[j]?=some x):i=j:=by
 obtain ⟨h1,e1⟩:=F8.mp a;obtain ⟨h2,e2⟩:=F8.mp b;exact (List.getElem_inj hN).mp (e1.trans e2.symm)
theorem aix{M:Model}{A:Around}{E:Value->Shared->Prop}{i:Nat}{x:Str}{v:V}{u:Value}{Q:Unit->Shared->Prop}(I:Inv X pins Y H s)(hN:X.N.Nodup)(hi:X.N[i]?=some x)(hx:Y1 X.env.scope x)(r:RelV v u)(h:∀ s',Inv X pins (Y.set i (some v)) H s'->(∃ a,Heap.SameBut a s.heap s'.heap/\(a=X.env.locals\/X.env.cells.lookup x=some a))->Q () s')(hf:X.fn x=true\/X.env.scope.names.lookup x=some .local:=by first | exact .inl rfl | exact .inr rfl | assumption):wpAny M A (storeName X.env x u) Q E s:=by
 obtain ⟨m,hn,hl⟩:=id I.loc;have fD:(X.env.scope.kind == .class || (X.env.scope.kind == .module&&X.env.locals != X.env.globals))=false:=by rw [I.ok.kind];rfl
 have hiσ:i<Y.length:=by rw [I.len];exact (F8.mp hi).1
 have cne:=I.cne;have tracked:∀ {a:Addr} {h':Heap},(∃ o,s.heap.get? a=some o/\H a=none)->Heap.SameBut a s.heap h'->L9 X.prog X.w H h':=fun {a h'} ha hs b ob e=>by
  obtain ⟨_,_,dG⟩:=ha;refine (I.hok b ob e).stay (fun c w' hc q=>(hs.2 c ?_).trans q) (fun _ q=>q) fun _ _ q=>q
  rintro rfl
  rcases hc with rfl | hc
  .rw [dG] at e;cases e
  .rw [dG] at hc;cases hc
 rcases hx with hk | hk
 .refine wpAny_storeName_local hk hn (fun h' dH hs=>?_) fD;obtain ⟨oL,_,_,hoL,_⟩:=id hn;refine h _ ⟨I.ok,I.os,I.bare,⟨fun b o e n hb hx=>?_,fun b o e n hb hx=>?_,I.base.free,fun b o e hx=>?_,I.base.tups,I.base.frzs,I.base.tbls⟩,⟨_,dH,fun j y v' e1 e2 e3=>?_⟩,fun y c e=>?_,I.free,I.freeC,fun p hp=>?_,tracked ⟨oL,hoL,I.free⟩ hs,by simpa using I.len⟩ ⟨_,hs,.inl rfl⟩
  .exact (hs.2 b (J4 (Q6 (Heap.lt_size e) I.ok.above))).trans (I.base.keep b o e n hb hx)
  .obtain ⟨sl,e1⟩:=I.base.slot b o e n hb hx;exact ⟨sl,(hs.2 b (J4 (Q6 (Heap.lt_size e) I.ok.above))).trans e1⟩
  .obtain ⟨o',e1⟩:=I.base.there b o e hx;exact ⟨o',(hs.2 b (J4 (Q6 (Heap.lt_size e) I.ok.above))).trans e1⟩
  .by_cases hj:j=i
   .subst hj;rw [hi] at e1;cases e1;rw [List.getElem?_set_self hiσ] at e2;cases e2;exact ⟨u,r,.inl ⟨hk,by simp⟩⟩
   .rw [List.getElem?_set_ne (Ne.symm hj)] at e2;obtain ⟨u',r',q⟩:=hl j y v' e1 e2 e3;refine ⟨u',r',?_⟩
    rcases q with ⟨k,e⟩ | ⟨k,c,e,z⟩
    .refine .inl ⟨k,?_⟩
     have:y≠x:=fun e=>hj (qY hN e1 (e ▸ hi))
     simp [this,e]
    .exact .inr ⟨k,c,e,z.sameBut hs (cne y c e)⟩
  .obtain ⟨w',z⟩:=I.cell y c e;exact ⟨w',z.sameBut hs (cne y c e)⟩
  .obtain ⟨e,n,ne,nf,d⟩:=I.pin p hp;exact ⟨(hs.2 p.1 ne).trans e,n,ne,nf,d⟩
 .have vU:X.fn x=true:=by
   rcases hf with z | z
   .exact z
   .rw [z] at hk;cases hk
  obtain ⟨c,hc⟩:=I.ok.has x (.inl hk);obtain ⟨w',z⟩:=I.cell x c hc;refine wpAny_storeName_cell I.ok.kind hk hc z (fun h' aD hs=>?_);obtain ⟨oc,vV,vW⟩:=id z;refine h { s with heap:=h' } ⟨I.ok,I.os,I.bare,⟨fun b o e n hb hx=>?_,fun b o e n hb hx=>?_,I.base.free,fun b o e hx=>?_,I.base.tups,I.base.frzs,I.base.tbls⟩,⟨m,hn.sameBut hs (Ne.symm (cne x c hc)),fun j y v' e1 e2 e3=>?_⟩,fun y c' e=>?_,I.free,I.freeC,fun p hp=>?_,tracked ⟨oc,vV,I.freeC x c hc⟩ hs,by simpa using I.len⟩ ⟨c,hs,.inr hc⟩
  .exact (hs.2 b (J4 (Q6 (Heap.lt_size e) (I.ok.cab x c vU hc)))).trans (I.base.keep b o e n hb hx)
  .obtain ⟨sl,e1⟩:=I.base.slot b o e n hb hx;exact ⟨sl,(hs.2 b (J4 (Q6 (Heap.lt_size e) (I.ok.cab x c vU hc)))).trans e1⟩
  .obtain ⟨o',e1⟩:=I.base.there b o e hx;exact ⟨o',(hs.2 b (J4 (Q6 (Heap.lt_size e) (I.ok.cab x c vU hc)))).trans e1⟩
  .by_cases hj:j=i
   .subst hj;rw [hi] at e1;cases e1;rw [List.getElem?_set_self hiσ] at e2;cases e2;exact ⟨u,r,.inr ⟨.inl hk,c,hc,aD⟩⟩
   .rw [List.getElem?_set_ne (Ne.symm hj)] at e2;obtain ⟨u',r',q⟩:=hl j y v' e1 e2 e3;refine ⟨u',r',?_⟩
    rcases q with q | ⟨k,c',e,z'⟩
    .exact .inl q
    .refine .inr ⟨k,c',e,z'.sameBut hs ?_⟩;rintro rfl;exact hj (qY hN e1 (I.ok.inj _ _ _ e hc ▸ hi))
  .by_cases hcc:c'=c
   .subst hcc;exact ⟨_,aD⟩
   .obtain ⟨w2,z2⟩:=I.cell y c' e;exact ⟨w2,z2.sameBut hs hcc⟩
  .obtain ⟨e,n,ne,nf,d⟩:=I.pin p hp;refine ⟨(hs.2 p.1 ?_).trans e,n,ne,nf,d⟩;intro q;rw [q,vV] at e;have q':oc=p.2:=Option.some.inj e;exact d w' (by rw [<- q'];exact vW)
theorem gO{M:Model}{A:Around}{E:Value->Shared->Prop}{i:Nat}{x:Str}{v:V}{u:Value}{Q:Unit->Shared->Prop}(I:Inv X pins Y H s)(hN:X.N.Nodup)(hi:X.N[i]?=some x)(hx:Y1 X.env.scope x)(r:RelV v u)(h:∀ s',Inv X pins (Y.set i (some v)) H s'->Q () s')(hf:X.fn x=true\/X.env.scope.names.lookup x=some .local:=by first | exact .inl rfl | exact .inr rfl | assumption):wpAny M A (storeName X.env x u) Q E s:=
 aix I hN hi hx r (fun s' I' _=>h s' I') hf
theorem Inv.call'{s':Shared}{ch:List Addr}(I:Inv X pins Y H s)(ho:s'.os=s.os)(u:Un (Q8 X.stack) ch H H' s.heap s'.heap)(hok:L9 X.prog X.w H' s'.heap)(hg:AllBare s'.gens)(aB:∀ b∈ch,(b∈X.ex\/X.s₀.heap.objs.size<=b)/\b≠X.env.locals/\(∀ x c,X.env.cells.lookup x=some c->c≠b)/\∀ p∈X.pn++pins,p.1≠b):Inv X pins Y H' s':=by
 obtain ⟨h',g',d',t',o'⟩:=s';have e:o'=s.os:=ho;subst e;exact I.call (g':=g') (t':=t') (d':=d') u hok hg aB
end
noncomputable abbrev XK:=Value->Option Addr->Hp->Prop
noncomputable abbrev St:=List (Option V)
noncomputable abbrev VK:=V->Hp->Prop
noncomputable abbrev TE:=St->Hp->VK->Prop
noncomputable abbrev TT:=St->Hp->(Bool->Hp->Prop)->Prop
noncomputable abbrev TA:=St->Hp->(List V->Hp->Prop)->Prop
structure Ends where
 nx:St->Hp->Prop
 rt:VK
 bk:St->Hp->Prop:=fun _ _=>False
 ct:St->Hp->Prop:=fun _ _=>False
noncomputable abbrev TS:=Ends->St->Hp->Prop
noncomputable def EP (X:Cx) (pins:List (Addr×Obj)) (Y:St) (Q:VK) (u:Value) (s':Shared):Prop:=∃ v H',Inv X pins Y H' s'/\RelV v u/\Q v H'
noncomputable def TP (X:Cx) (pins:List (Addr×Obj)) (Y:St) (Q:Bool->Hp->Prop) (b:Bool) (s':Shared):Prop:=∃ H',Inv X pins Y H' s'/\Q b H'
noncomputable def AP (X:Cx) (pins:List (Addr×Obj)) (Y:St) (Q:List V->Hp->Prop) (us:List Value) (s':Shared):Prop:=∃ vs H',Inv X pins Y H' s'/\Vals vs us/\Q vs H'
noncomputable def SP (X:Cx) (pins:List (Addr×Obj)) (D:Ends) (f:Flow) (s':Shared):Prop:=
 match f with
 | .next=>∃ σ' H',Inv X pins σ' H' s'/\D.nx σ' H'
 | .brk=>∃ σ' H',Inv X pins σ' H' s'/\D.bk σ' H'
 | .cont=>∃ σ' H',Inv X pins σ' H' s'/\D.ct σ' H'
 | .ret u=>∃ v σ' H',Inv X pins σ' H' s'/\RelV v u/\D.rt v H'
noncomputable def PE (X:Cx) (e:Expr) (t:TE):Prop:=
 ∀ (pins:List (Addr×Obj)) (s:Shared) (Y:St) (H:Hp) (Q:VK),Inv X pins Y H s->t Y H Q->wpAny 'a' X.A (eval e X.env) (EP X pins Y Q) X.xe s
noncomputable def PT (X:Cx) (e:Expr) (t:TT):Prop:=
 ∀ (pins:List (Addr×Obj)) (s:Shared) (Y:St) (H:Hp) (Q:Bool->Hp->Prop),Inv X pins Y H s->t Y H Q->wpAny 'a' X.A (isTrue e X.env (eval e X.env)) (TP X pins Y Q) X.xe s
noncomputable def PW (X:Cx) (e:Expr) (t:TT):Prop:=
 ∀ (whole:Sem Value) (pins:List (Addr×Obj)) (s:Shared) (Y:St) (H:Hp) (Q:Bool->Hp->Prop),Inv X pins Y H s->t Y H Q->wpAny 'a' X.A (isTrue e X.env whole) (TP X pins Y Q) X.xe s
theorem PW.pt{X:Cx}{e:Expr}{t:TT}(h:PW X e t):PT X e t:=h _
noncomputable def PA (X:Cx) (es:List Expr) (t:TA):Prop:=
 ∀ (pos:Pos) (pins:List (Addr×Obj)) (s:Shared) (Y:St) (H:Hp) (Q:List V->Hp->Prop),Inv X pins Y H s->t Y H Q->wpAny 'a' X.A (spliced (backTo pos (starEach es X.env))) (AP X pins Y Q) X.xe s
noncomputable def PS (X:Cx) (st:Stmt) (t:TS):Prop:=
 ∀ (pins:List (Addr×Obj)) (s:Shared) (Y:St) (H:Hp) (D:Ends),Inv X pins Y H s->t D Y H->wpAny 'a' X.A (exec st X.env) (SP X pins D) X.xe s
noncomputable def W5 (X:Cx) (st:List Stmt) (t:TS):Prop:=
 ∀ (pins:List (Addr×Obj)) (s:Shared) (Y:St) (H:Hp) (D:Ends),Inv X pins Y H s->t D Y H->wpAny 'a' X.A (execs st X.env) (SP X pins D) X.xe s
theorem B3{α:Type}{t:Sem α}{Q Q':α->Shared->Prop}{M:Model}{A:Around}{E:Value->Shared->Prop}{s:Shared}(h:wpAny M A t Q E s)(hQ:∀ a s,Q a s->Q' a s):wpAny M A t Q' E s:=wpAny_mono h hQ fun _ _ x=>x
section
variable {X:Cx}
noncomputable def tVar (i:Nat):TE:=fun Y H Q=>∃ v,Y[i]?=some (some v)/\Q v H
noncomputable def tC (v:V):TE:=fun _ H Q=>Q v H
theorem yN{i:Nat}{x:Str}{pos:Pos}(hN:X.N[i]?=some x)(hv:kE X.env.scope x)(hd:(x==("__debug__" : Str))=false:=by decide)(T3:(x==("__classdict__" : Str))=false:=by decide):PE X (.Name x pos) (tVar i):=by
 sleep 1;obtain ⟨v,e,h⟩:=h;obtain ⟨m,hn,hl⟩:=I.loc;obtain ⟨u,r,l⟩:=hl i x v hN e hv;have fin:EP X pins Y Q u s:=⟨v,H,I,r,h⟩
 rcases l with ⟨hk,hm⟩ | ⟨hk,c,hc,M8⟩
 .exact wpAny_Name (wpAny_loadName_local I.ok.kind hk hn hm fin) hd
 .rcases hk with hk | hk
  .exact wpAny_Name (wpAny_loadName_cell I.ok.kind hk hc M8 fin) hd
  .exact wpAny_Name (wpAny_loadName_free I.ok.kind hk hc M8 fin T3) hd
theorem yO{i j pos} : PE X (.Constant (.int i) j pos) (tC (.int i)):=fun _ _ _ H _ I h=>wpAny_Constant_int ⟨.int i,H,I.tok _,⟨_,rfl⟩,h⟩
theorem pe_bl{b j pos} : PE X (.Constant (.bool b) j pos) (tC (.bl b)):=fun _ _ _ H _ I h=>Constant_bool ⟨.bl b,H,I,rfl,h⟩
theorem aow{j pos} : PE X (.Constant .none j pos) (tC .non):=fun _ _ _ H _ I h=>Constant_none ⟨.non,H,I,rfl,h⟩
theorem aox{x j pos} : PE X (.Constant (.str x) j pos) (tC (.str x)):=fun _ _ _ H _ I h=>Calls.Constant_str ⟨.str x,H,I.tok _,⟨_,rfl⟩,h⟩
noncomputable def Gl (X:Cx) (x:Str):Prop:=X.env.kindOf x=some .globalImplicit
theorem gP{E:Value->Shared->Prop}{pins:List (Addr×Obj)}{s:Shared}{Y:St}{H:Hp}{x:Str}{u:Value}{pos:Pos}{Q:Value->Shared->Prop}(I:Inv X pins Y H s)(hg:Gl X x)(hm:X.mg x=some u)(h:Q u s)(hd:(x==("__debug__" : Str))=false:=by decide):wpAny 'a' X.A (eval (.Name x pos) X.env) Q E s:=
 Calls.Name_function_global I.ok.kind hg (Calls.loadGlobal_global (by rw [I.ok.glob];exact I.mod.glob.keeps I.bk) hm h) hd
theorem cQ{E:Value->Shared->Prop}{pins:List (Addr×Obj)}{s:Shared}{Y:St}{H:Hp}{x:Str}{u:Value}{pos:Pos}{Q:Value->Shared->Prop}(I:Inv X pins Y H s)(hg:Gl X x)(hm:X.mg x=none)(hv:bootBuiltins x=some u)(h:Q u s)(hn:x≠"__name__":=by decide)(hd:(x==("__debug__" : Str))=false:=by decide):wpAny 'a' X.A (eval (.Name x pos) X.env) Q E s:=by
 obtain ⟨mb,h1,h2⟩:=I.mod.blt;exact Calls.Name_function_global I.ok.kind hg (Calls.loadGlobal_builtin (by rw [I.ok.glob];exact I.mod.glob.keeps I.bk) hm (by rw [I.ok.blt];exact h1.keeps I.bk) ((h2 x hn).trans hv) h) hd
theorem yP{x:Str}{v:V}{u:Value}{pos:Pos}(hg:Gl X x)(hm:X.mg x=some u)(r:RelV v u)(hd:(x==("__debug__" : Str))=false:=by decide):PE X (.Name x pos) (tC v):=
 fun _ _ _ H _ I h=>gP I hg hm ⟨v,H,I,r,h⟩ hd
theorem amA{x:Str}{v:V}{u:Value}{pos:Pos}(hg:Gl X x)(hm:X.mg x=none)(hv:bootBuiltins x=some u)(r:RelV v u)(hn:x≠"__name__":=by decide)(hd:(x==("__debug__" : Str))=false:=by decide):PE X (.Name x pos) (tC v):=
 fun _ _ _ H _ I h=>cQ I hg hm hv ⟨v,H,I,r,h⟩ hn hd
variable {a b:Expr} {ta tb:TE} {pos:Pos}
noncomputable def tB (t:TE):TT:=fun Y H Q=>t Y H fun x H1=>∃ c,x=.bl c/\Q c H1
variable {tA tB':TT} {rest:List Expr}
noncomputable def tAnd (t u:TT):TT:=fun Y H Q=>t Y H fun c H1=>if c=true then u Y H1 Q else Q false H1
noncomputable def qZ (t u:TT):TT:=fun Y H Q=>t Y H fun c H1=>if c=true then Q true H1 else u Y H1 Q
noncomputable def tNot (t:TT):TT:=fun Y H Q=>t Y H fun c H1=>Q (!c) H1
theorem amB(ha:PT X a tA):PW X (.BoolOp .And [a] pos) tA:=by
 intro wh pins s Y H Q I h;refine isTrue_and (B3 (ha pins s Y H Q I h) fun c s1 e=>?_)
 cases c with
 | true=>exact isTrue_and_nil e
 | false=>exact e
theorem aoy(ha:PT X a tA):PW X (.BoolOp .Or [a] pos) tA:=by
 intro wh pins s Y H Q I h;refine isTrue_or (B3 (ha pins s Y H Q I h) fun c s1 e=>?_)
 cases c with
 | false=>exact isTrue_or_nil e
 | true=>exact e
theorem aoz(ha:PT X a tA)(hb:PW X (.BoolOp .And (b::rest) pos) tB'):PW X (.BoolOp .And (a::b::rest) pos) (tAnd tA tB'):=by
 intro wh pins s Y H Q I h;refine isTrue_and (B3 (ha pins s Y H _ I h) fun c s1 ⟨H1,I1,q1⟩=>?_)
 cases c with
 | true=>exact hb wh pins s1 Y H1 Q I1 q1
 | false=>exact ⟨H1,I1,q1⟩
theorem pw_or(ha:PT X a tA)(hb:PW X (.BoolOp .Or (b::rest) pos) tB'):PW X (.BoolOp .Or (a::b::rest) pos) (qZ tA tB'):=by
 intro wh pins s Y H Q I h;refine isTrue_or (B3 (ha pins s Y H _ I h) fun c s1 ⟨H1,I1,q1⟩=>?_)
 cases c with
 | true=>exact ⟨H1,I1,q1⟩
 | false=>exact hb wh pins s1 Y H1 Q I1 q1
theorem aoA(ha:PT X a tA):PT X (.UnaryOp .Not a pos) (tNot tA):=by
 sleep 1;exact isTrue_not (ha pins s Y H (fun c H1=>Q (!c) H1) I h)
noncomputable def tAndV (ta tb:TE):TE:=fun Y H Q=>ta Y H fun x H1=>∃ c,x=.bl c/\if c=true then tb Y H1 Q else Q (.bl false) H1
noncomputable def tOrV (ta tb:TE):TE:=fun Y H Q=>ta Y H fun x H1=>∃ c,x=.bl c/\if c=true then Q (.bl true) H1 else tb Y H1 Q
noncomputable def tNotV (ta:TE):TE:=fun Y H Q=>ta Y H fun x H1=>∃ c,x=.bl c/\Q (.bl (!c)) H1
theorem aoB{op}{t:TE}(h:PE X a t):PE X (.BoolOp op [a] pos) t:=fun pins s Y H Q I hw=>BoolOp_one (h pins s Y H Q I hw)
theorem aoC(ha:PE X a ta)(hb:PE X (.BoolOp .And (b::rest) pos) tb):PE X (.BoolOp .And (a::b::rest) pos) (tAndV ta tb):=by
 sleep 1;refine BoolOp_and (B3 (ha pins s Y H _ I h) fun v s1 ⟨x,H1,I1,r1,q1⟩=>?_);obtain ⟨c,rfl,q1⟩:=q1
 cases r1
 refine wpAny_truthy_bool ?_
 cases c with
 | true=>exact hb pins s1 Y H1 Q I1 q1
 | false=>exact ⟨.bl false,H1,I1,rfl,q1⟩
noncomputable def rA (t:TT) (ta tb:TE):TE:=fun Y H Q=>t Y H fun c H1=>if c=true then ta Y H1 Q else tb Y H1 Q
theorem ako{c:Expr}(hc:PT X c tA)(ha:PE X a ta)(hb:PE X b tb):PE X (.IfExp c a b pos) (rA tA ta tb):=by
 sleep 1;refine wpAny_IfExp (B3 (hc pins s Y H _ I h) fun d s1 ⟨H1,I1,q1⟩=>?_)
 cases d with
 | true=>exact ha pins s1 Y H1 Q I1 q1
 | false=>exact hb pins s1 Y H1 Q I1 q1
end
noncomputable def D6 (K:PySem.W.Frag) (H:Hp) (a:Addr) (xs:List V):Prop:=
 Rd H a (.lst xs)\/
  ∃ (o:Obj) (its:Array Value) (n:Nat),K.lookup a=some o/\o.cls=.type "list"/\o.dict=none/\o.data=.seq its n/\its.size<=sizeLine/\Vals xs its.toList
noncomputable def D1 (K:PySem.W.Frag) (H:Hp) (a:Addr) (xs:List V):Prop:=
 Rd H a (.tup xs)\/
  ∃ (o:Obj) (its:Array Value) (n:Nat),K.lookup a=some o/\o.cls=.type "tuple"/\o.data=.seq its n/\its.size<=sizeLine/\Vals xs its.toList
noncomputable def absV:Value->Option V
 | .none=>some .non
 | .bool b=>some (.bl b)
 | .int i _=>some (.int i)
 | .str x _=>some (.str x)
 | .bytes b _=>some (.byt b)
 | .float b _=>some (.flt b)
 | .ref a=>some 'f'
 | .type n=>some (.ty n)
 | _=>none
theorem RelV.abs{x:V}{u:Value}(r:RelV x u):absV u=some x:=by
 cases x with
 | non=>cases r;rfl
 | bl _=>cases r;rfl
 | int _=>obtain ⟨t,rfl⟩:=r;rfl
 | str _=>obtain ⟨t,rfl⟩:=r;rfl
 | byt _=>obtain ⟨t,rfl⟩:=r;rfl
 | flt _=>obtain ⟨t,rfl⟩:=r;rfl
 | ref _=>cases r;rfl
 | ty _=>cases r;rfl
theorem RelV.inj{x y:V}{u:Value}(r:RelV x u)(q:RelV y u):x=y:=Option.some.inj (r.abs.symm.trans q.abs)
theorem Vals.inj:∀ {xs ys:List V} {us:List Value},Vals xs us->Vals ys us->xs=ys
 | _,_,_,.nil,.nil=>rfl
 | _,_,_,.cons r t,.cons r' t'=>by rw [r.inj r',Vals.inj t t']
section
variable {X:Cx} {pins:List (Addr×Obj)} {Y:St} {H:Hp} {s:Shared} {a:Addr} {xs ys:List V}
theorem D6.of{K:PySem.W.Frag}(h:H a=some (.lst xs)):D6 K H a xs:=.inl (.inl h)
theorem D1.of{K:PySem.W.Frag}(h:H a=some (.tup xs)):D1 K H a xs:=.inl (.inl h)
theorem Inv.list(I:Inv X pins Y H s)(h:D6 X.K H a xs):∃ its:List Value,Vals xs its/\PlainL s.heap a its.toArray/\xs.length<=sizeLine:=by
 rcases h with h | ⟨o,its,n,hk,hc,hd,hs,hz,r⟩
 .obtain ⟨z,its,n,r,e⟩:=h.ok I.hok;exact ⟨its,r,⟨_,n,e,rfl,rfl,rfl⟩,z⟩
 .refine ⟨its.toList,r,⟨o,n,I.kIn a o hk,hc,hd,by simpa using hs⟩,?_⟩;have e:=r.length;simp only [P3] at e;lia
theorem Inv.tuple(I:Inv X pins Y H s)(h:D1 X.K H a xs):∃ its:List Value,Vals xs its/\IsTup s.heap a its.toArray/\xs.length<=sizeLine:=by
 rcases h with h | ⟨o,its,n,hk,hc,hs,hz,r⟩
 .obtain ⟨z,its,r,p⟩:=h.ok I.hok;exact ⟨its,r,p,z⟩
 .refine ⟨its.toList,r,⟨o,I.kIn a o hk,hc,n,by simpa using hs⟩,?_⟩;have e:=r.length;simp only [P3] at e;lia
theorem Inv.list_inj(I:Inv X pins Y H s)(h:D6 X.K H a xs)(h':D6 X.K H a ys):xs=ys:=by
 obtain ⟨its,r,⟨o,n,e,_,_,d⟩,_⟩:=I.list h;obtain ⟨its',r',⟨o',n',e',_,_,d'⟩,_⟩:=I.list h';rw [e] at e';cases e';rw [d] at d'
 injection d' with d1 _
 have:its=its':=by simpa using congrArg Array.toList d1
 subst this;exact r.inj r'
theorem Inv.tuple_inj(I:Inv X pins Y H s)(h:D1 X.K H a xs)(h':D1 X.K H a ys):xs=ys:=by
 obtain ⟨its,r,⟨o,e,_,n,d⟩,_⟩:=I.tuple h;obtain ⟨its',r',⟨o',e',_,n',d'⟩,_⟩:=I.tuple h';rw [e] at e';cases e';rw [d] at d'
 injection d' with d1 _
 have:its=its':=by simpa using congrArg Array.toList d1
 subst this;exact r.inj r'
end
noncomputable abbrev Cx.wish (X:Cx) (E:Value->Shared->Prop):Cx:={ X with xe:=E }
noncomputable abbrev Cx.nox (X:Cx):Cx:=X.wish fun _ _=>False
theorem Cx.Ok.wish{X:Cx}(ok:X.Ok)(E:Value->Shared->Prop):(X.wish E).Ok:=
 ⟨ok.mod,ok.kind,ok.glob,ok.blt,ok.above,ok.inj,ok.has,ok.cab,ok.hd,ok.frames,ok.stk,ok.exf,ok.bs,ok.bsz,ok.noex,ok.exfs,ok.funs,ok.frf⟩
theorem Cx.Ok.unwish{X:Cx}{E:Value->Shared->Prop}(ok:(X.wish E).Ok):X.Ok:=
 ⟨ok.mod,ok.kind,ok.glob,ok.blt,ok.above,ok.inj,ok.has,ok.cab,ok.hd,ok.frames,ok.stk,ok.exf,ok.bs,ok.bsz,ok.noex,ok.exfs,ok.funs,ok.frf⟩
section
variable {X:Cx} {pins:List (Addr×Obj)} {Y:St} {H:Hp} {s:Shared} {E:Value->Shared->Prop}
theorem Inv.wish(I:Inv X pins Y H s)(E:Value->Shared->Prop):Inv (X.wish E) pins Y H s:=⟨I.ok.wish E,I.os,I.bare,I.base,I.loc,I.cell,I.free,I.freeC,I.pin,I.hok,I.len⟩
theorem Inv.unwish(I:Inv (X.wish E) pins Y H s):Inv X pins Y H s:=⟨I.ok.unwish,I.os,I.bare,I.base,I.loc,I.cell,I.free,I.freeC,I.pin,I.hok,I.len⟩
theorem SP.unwish{D:Ends}{f:Flow}{s':Shared}(h:SP (X.wish E) pins D f s'):SP X pins D f s':=by
 cases f with
 | next=>obtain ⟨σ',H',I,q⟩:=h;exact ⟨σ',H',I.unwish,q⟩
 | brk=>obtain ⟨σ',H',I,q⟩:=h;exact ⟨σ',H',I.unwish,q⟩
 | cont=>obtain ⟨σ',H',I,q⟩:=h;exact ⟨σ',H',I.unwish,q⟩
 | ret u=>obtain ⟨v,σ',H',I,r,q⟩:=h;exact ⟨v,σ',H',I.unwish,r,q⟩
theorem W5.nox{st:List Stmt}{t:TS}(h:W5 X.nox st t):W5 X st t:=fun pins s Y H D I hw=>
 wpAny_mono (h pins s Y H D (I.wish _) hw) (fun _ _ q=>q.unwish) fun _ _ z=>False.elim z
end
section
variable {X:Cx} {st:Stmt} {rest:List Stmt} {t u:TS} {e:Expr} {te:TE} {pos:Pos}
noncomputable def tNext:TS:=fun D Y H=>D.nx Y H
noncomputable def tSeq (t u:TS):TS:=fun D Y H=>t { D with nx:=u D } Y H
theorem amC:W5 X [] tNext:=fun _ _ Y H _ I h=>wpAny_execs_nil ⟨Y,H,I,h⟩
theorem akp(h1:PS X st t)(h2:W5 X rest u):W5 X (st::rest) (tSeq t u):=by
 intro pins s Y H D I h;refine wpAny_execs_cons (B3 (h1 pins s Y H { D with nx:=u D } I h) fun f s1 q=>?_)
 cases f with
 | next=>
  obtain ⟨σ',H',I',q⟩:=q;exact h2 pins s1 σ' H' D I' q
 | ret v=>exact q
 | brk=>exact q
 | cont=>exact q
theorem amD(h1:PS X st t):W5 X [st] t:=by
 intro pins s Y H D I h;refine wpAny_execs_cons (B3 (h1 pins s Y H D I h) fun f s1 q=>?_)
 cases f with
 | next=>exact wpAny_execs_nil q
 | ret v=>exact q
 | brk=>exact q
 | cont=>exact q
noncomputable def aoD:TS:=fun D Y H=>D.bk Y H
noncomputable def tCont:TS:=fun D Y H=>D.ct Y H
theorem Inv.quiet{pins:List (Addr×Obj)}{Y:St}{H:Hp}{s:Shared}(I:Inv X pins Y H s):interactive X.env=false:=by simp [interactive,I.ok.kind]
noncomputable def tDrop (te:TE):TS:=fun D Y H=>te Y H fun _ H1=>D.nx Y H1
theorem amE(he:PE X e te)(hs:swapsWith e none pos.line X.env=pure false:=by rfl):PS X (.Expr e pos) (tDrop te):=by
 intro pins s Y H D I h;exact wpAny_Expr_any (B3 (he pins s Y H _ I h) fun v s1 ⟨x,H1,I1,r1,q1⟩=>⟨Y,H1,I1,q1⟩) I.quiet hs
noncomputable def tRet (te:TE):TS:=fun D Y H=>te Y H D.rt
theorem aoE(he:PE X e te):PS X (.Return (some e) pos) (tRet te):=by
 intro pins s Y H D I h;exact wpAny_Return_some (B3 (he pins s Y H _ I h) fun v s1 ⟨x,H1,I1,r1,q1⟩=>⟨x,Y,H1,I1,r1,q1⟩)
noncomputable def tRetN:TS:=fun D _ H=>D.rt .non H
noncomputable def tIfS (c:TT) (t u:TS):TS:=fun D Y H=>c Y H fun b H1=>if b=true then t D Y H1 else u D Y H1
theorem ps_if{c:Expr}{a b:List Stmt}{tc:TT}(hc:PT X c tc)(ha:W5 X a t)(hb:W5 X b u):PS X (.If c a b pos) (tIfS tc t u):=by
 intro pins s Y H D I h;refine wpAny_If (B3 (hc pins s Y H _ I h) fun d s1 ⟨H1,I1,q1⟩=>?_)
 cases d with
 | true=>exact ha pins s1 Y H1 D I1 q1
 | false=>exact hb pins s1 Y H1 D I1 q1
noncomputable def aoF:TS:=fun _ _ _=>False
end
noncomputable abbrev TG:=V->St->Hp->(St->Hp->Prop)->Prop
noncomputable abbrev j9:=List V->St->Hp->(St->Hp->Prop)->Prop
noncomputable def PG (X:Cx) (target:Expr) (t:TG):Prop:=
 ∀ (pins:List (Addr×Obj)) (s:Shared) (Y:St) (H:Hp) (v:V) (u:Value) (Q:St->Hp->Prop),Inv X pins Y H s->RelV v u->t v Y H Q->
  wpAny 'a' X.A (assign target X.env u) (fun _ s'=>∃ σ' H',Inv X pins σ' H' s'/\Q σ' H') X.xe s
noncomputable def kF (X:Cx) (ts:List Expr) (t:j9):Prop:=
 ∀ (pins:List (Addr×Obj)) (s:Shared) (Y:St) (H:Hp) (vs:List V) (us:List Value) (Q:St->Hp->Prop),Inv X pins Y H s->Vals vs us->t vs Y H Q->
  wpAny 'a' X.A (assignInOrder ((assignEach ts X.env).map (·.2)) us) (fun _ s'=>∃ σ' H',Inv X pins σ' H' s'/\Q σ' H') X.xe s
noncomputable abbrev TSet:=V->V->V->Hp->(Hp->Prop)->Prop
noncomputable abbrev cR:=V->V->Hp->VK->Prop
noncomputable def rB (X:Cx) (op:Operator) (t:cR):Prop:=
 ∀ (pins:List (Addr×Obj)) (s:Shared) (Y:St) (H:Hp) (x y:V) (v u:Value) (Q:VK),Inv X pins Y H s->RelV x v->RelV y u->t x y H Q->
  wpAny 'a' X.A (inplaceOp op v u) (EP X pins Y Q) X.xe s
section
variable {X:Cx} {pos:Pos}
noncomputable def gName (i:Nat):TG:=fun v Y H Q=>Q (Y.set i (some v)) H
theorem amF{i:Nat}{x:Str}(hN:X.N.Nodup)(hi:X.N[i]?=some x)(hx:Y1 X.env.scope x)(hf:X.fn x=true\/X.env.scope.names.lookup x=some .local:=by first | exact .inl rfl | exact .inr rfl | assumption):PG X (.Name x pos) (gName i):=by
 intro pins s Y H v u Q I r h;exact wpAny_assign_Name (gO I hN hi hx r (fun s' I'=>⟨_,H,I',h⟩) hf)
noncomputable def gNil:j9:=fun vs Y H Q=>vs=[]/\Q Y H
noncomputable def gCons (t:TG) (u:j9):j9:=fun vs Y H Q=>∃ v r,vs=v::r/\t v Y H fun σ' H'=>u r σ' H' Q
theorem amG:kF X [] gNil:=by
 intro pins s Y H vs us Q I r h;obtain ⟨e,h⟩:=h;subst e
 cases r
 exact assignInOrder_nil ⟨Y,H,I,h⟩
theorem akq{e:Expr}{es:List Expr}{t:TG}{u:j9}(h1:PG X e t)(h2:kF X es u)(hs:(assignEach (e::es) X.env).map (·.2)=assign e X.env::(assignEach es X.env).map (·.2):=by rfl):kF X (e::es) (gCons t u):=by
 intro pins s Y H vs us Q I r h;obtain ⟨v,vr,e1,h⟩:=h;subst e1
 cases r with
 | cons r rr=>
  rw [hs];refine assignInOrder_cons (B3 (h1 pins s Y H _ _ _ I r h) fun _ s1 ⟨σ1,H1,I1,q1⟩=>?_);exact h2 pins s1 σ1 H1 _ _ Q I1 rr q1
noncomputable def gTup (K:PySem.W.Frag) (n:Nat) (t:j9):TG:=fun v Y H Q=>∃ a xs,v=.ref a/\D1 K H a xs/\xs.length=n/\t xs Y H Q
theorem aoG{es:List Expr}{k:Nat}{t:j9}{n:Nat}(hc:X.calm=true)(h:kF X es t)(hn:(assignEach es X.env).length=n:=by rfl)(Z7:(assignEach es X.env).findIdx? (·.1)=none:=by rfl):PG X (.Tuple es k pos) (gTup X.K n t):=by
 intro pins s Y H v u Q I r hw;obtain ⟨a,xs,e1,hq,hl,hw⟩:=hw;subst e1
 cases r
 obtain ⟨its,rv,ht,hz⟩:=I.tuple hq;refine assign_Tuple_tuple (I.ok.hd hc) ht (by simp [hn,<- hl,rv.length]) Z7 fun h' hx=>?_
 have I1:Inv X pins Y H { s with heap:=h' }:=I.kept (t':=s.toks) fun b o e=>hx b o (J4 (Heap.lt_size e)) e
 exact h pins _ Y H xs _ Q I1 (by simpa using rv) hw
noncomputable def gSub (to ti:TE) (t:TSet):TG:=fun v Y H Q=>to Y H fun o H1=>ti Y H1 fun i H2=>t o i v H2 fun H3=>Q Y H3
noncomputable def tAsg (te:TE) (g:TG):TS:=fun D Y H=>te Y H fun x H1=>g x Y H1 D.nx
theorem aoH{tg e:Expr}{te:TE}{g:TG}(he:PE X e te)(hg:PG X tg g)(hs:swapsWithSole [tg] e pos.line X.env=pure false:=by rfl)(hw:swappedStores [tg] e X.env=pure none:=by rfl)(h1:(assignEach [tg] X.env).map (·.2)=[assign tg X.env]:=by rfl):PS X (.Assign [tg] e pos) (tAsg te g):=by
 intro pins s Y H D I h;refine wpAny_Assign_stores (B3 (he pins s Y H _ I h) fun v s1 ⟨x,H1,I1,r1,q1⟩=>?_) hs hw;rw [h1];exact B3 (hg pins s1 Y H1 x v _ I1 r1 q1) fun _ s2 q=>q
theorem aoI{i:Nat}{x:Str}{e:Expr}{te:TE}{pos':Pos}(hN:X.N.Nodup)(hi:X.N[i]?=some x)(hx:Y1 X.env.scope x)(he:PE X e te)(hs:swapsWith e (some (.Name x pos')) pos.line X.env=pure false:=by rfl)(hf:X.fn x=true\/X.env.scope.names.lookup x=some .local:=by first | exact .inl rfl | exact .inr rfl | assumption) :
  PS X (.Assign [.Name x pos'] e pos) (tAsg te (gName i)):=by
 intro pins s Y H D I h;refine wpAny_Assign_Name (B3 (he pins s Y H _ I h) fun v s1 ⟨y,H1,I1,r1,q1⟩=>?_) hs;exact gO I1 hN hi hx r1 (fun s2 I2=>⟨_,H1,I2,q1⟩) hf
noncomputable def tAug (i:Nat) (te:TE) (ti:cR):TS:=fun D Y H=>∃ x,Y[i]?=some (some x)/\te Y H fun y H1=>ti x y H1 fun z H2=>D.nx (Y.set i (some z)) H2
theorem aoJ{i:Nat}{x:Str}{e:Expr}{te:TE}{op:Operator}{ti:cR}{pos':Pos}(hN:X.N.Nodup)(hi:X.N[i]?=some x)(hx:Y1 X.env.scope x)(he:PE X e te)(ho:rB X op ti)(hf:X.fn x=true\/X.env.scope.names.lookup x=some .local:=by first | exact .inl rfl | exact .inr rfl | assumption) :
  PS X (.AugAssign (.Name x pos') op e pos) (tAug i te ti):=by
 intro pins s Y H D I h;obtain ⟨v,e1,h⟩:=h;obtain ⟨m,hn,hl⟩:=I.loc;have vis:kE X.env.scope x:=by rcases hx with k | k;exact .inl k;exact .inr (.inl k)
 obtain ⟨u,r,l⟩:=hl i x v hi e1 vis;refine wpAny_AugAssign_Name ?_;have go:wpAny 'a' X.A (eval e X.env) (fun w zw=>wpAny 'a' X.A (inplaceOp op u w) (fun r zu=>wpAny 'a' X.A (storeName X.env x r) (fun _=>SP X pins D .next) X.xe zu) X.xe zw) X.xe s:=by
  refine B3 (he pins s Y H _ I h) fun w s1 ⟨y,H1,I1,r1,q1⟩=>?_
  refine B3 (ho pins s1 Y H1 v y u w _ I1 r r1 q1) fun z s2 ⟨zv,H2,I2,r2,q2⟩=>?_
  exact gO I2 hN hi hx r2 (fun s3 I3=>⟨_,H2,I3,q2⟩) hf
 rcases l with ⟨hk,hm⟩ | ⟨hk,c,hc,M8⟩
 .exact wpAny_loadName_local I.ok.kind hk hn hm go
 .rcases hk with hk | hk
  .exact wpAny_loadName_cell I.ok.kind hk hc M8 go
  .rcases hx with k | k
   .have:X.env.scope.names.lookup x=some .free:=hk
    rw [k] at this;cases this
   .have:X.env.scope.names.lookup x=some .free:=hk
    rw [k] at this;cases this
noncomputable def rD (f:Int->Int->Int):cR:=fun x y H Q=>∃ i j,x=.int i/\y=.int j/\Q (.int (f i j)) H
theorem aoK:rB X .Add (rD fun i j=>i+j):=by
 intro pins s Y H x y v u Q I r1 r2 h;obtain ⟨i,j,e1,e2,q⟩:=h;subst e1;subst e2;obtain ⟨t,rfl⟩:=r1;obtain ⟨t',rfl⟩:=r2;exact iadd_int ⟨.int _,H,I.tok _,⟨_,rfl⟩,q⟩
end
section
variable {X:Cx} {pos:Pos}
noncomputable def nQ (c:TT) (tb:TS):TS:=fun D Y H=>∃ W:Nat->St->Hp->Prop,(∃ m,W m Y H)/\∀ m Y H,W m Y H->
 c Y H fun b H1=>if b=true then ∃ N:St->Hp->Prop,(∀ σ' H',N σ' H'->∃ m',m'<m/\W m' σ' H')/\tb { D with nx:=N,ct:=N,bk:=D.nx } Y H1 else D.nx Y H1
theorem akr{c:Expr}{body:List Stmt}{tc:TT}{tb:TS}(hp:PassesOwn 'a' X.A X.env X.xe)(hc:PT X c tc)(hb:W5 X body tb):PS X (.While c body [] pos) (nQ tc tb):=by
 intro pins s Y H D I h;obtain ⟨W,⟨m0,w0⟩,turn⟩:=h;refine wpAny_While (codeAny_whileLoop (fun n s'=>∃ σ' H',Inv X pins σ' H' s'/\W n σ' H') ?_ m0 ⟨Y,H,I,w0⟩);rintro n s1 ⟨σ1,H1,I1,w1⟩;refine wpAny_passesOwn hp (B3 (hc pins s1 σ1 H1 _ I1 (turn n σ1 H1 w1)) fun b s2 ⟨H2,I2,q2⟩=>?_)
 cases b with
 | true=>
  obtain ⟨N,hN,q2⟩:=q2;rw [if_pos rfl];refine wpAny_passesOwn hp (B3 (hb pins s2 σ1 H2 _ I2 q2) fun f s3 q3=>?_)
  cases f with
  | next=>
   obtain ⟨σ3,H3,I3,n3⟩:=q3;obtain ⟨m',hm,w3⟩:=hN σ3 H3 n3;exact ⟨m',hm,σ3,H3,I3,w3⟩
  | cont=>
   obtain ⟨σ3,H3,I3,n3⟩:=q3;obtain ⟨m',hm,w3⟩:=hN σ3 H3 n3;exact ⟨m',hm,σ3,H3,I3,w3⟩
  | brk=>exact q3
  | ret v=>exact q3
 | false=>
  rw [if_neg K4];exact wpAny_execs_nil ⟨σ1,H2,I2,q2⟩
end
structure It where
 go:Nat->Hp->Prop
 yld:Nat->Hp->V->Hp->Prop
 stop:Nat->Hp->Prop
noncomputable def FpOk (X:Cx) (pins:List (Addr×Obj)) (H:Hp) (b:Addr):Prop:=
 H b=none/\b≠X.env.locals/\b∉X.fs/\(b∈X.ex\/X.s₀.heap.objs.size<=b)/\(∀ x c,X.env.cells.lookup x=some c->c≠b)/\∀ p∈X.pn++pins,p.1≠b
theorem Inv.fpOk{X:Cx}{pins:List (Addr×Obj)}{Y:St}{H H':Hp}{s:Shared}{b:Addr}(I:Inv X pins Y H s)(hb:s.heap.objs.size<=b)(hn:H' b=none):FpOk X pins H' b:=by
 refine ⟨hn,q9 (Q6 I.lt hb),I.nofs hb,.inr (D5 I.sz hb),fun x c e z=>?_,fun p hp z=>?_⟩
 .obtain ⟨v,q⟩:=I.cell x c e;exact absurd (Q6 q.lt (by rw [z];exact hb)) (j4 _)
 .exact absurd (Q6 (Heap.lt_size (I.pin p hp).1) (by rw [z];exact hb)) (j4 _)
structure Turn(P:Program)(w:World)(K:PySem.W.Frag)(tg:Expr)(J:It)(fp:List Addr)(it:Addr)(tn:Nat->Heap->Prop):Prop where
 mem:it∈fp
 obj:∀ i h,tn i h->∀ b∈fp,∃ o,h.get? b=some o/\∀ v,o.data≠.cell v
 keep:∀ i h h',tn i h->(∀ b∈fp,∀ o,h.get? b=some o->h'.get? b=some o)->tn i h'
 item:∀ (X:Cx),X.prog=P->X.w=w->X.K=K->X.calm=true->∀ (i:Nat) (pins:List (Addr×Obj)) (s:Shared) (Y:St) (H:Hp) (E:Value->Shared->Prop),Inv X pins Y H s->(∀ b∈fp,FpOk X pins H b)->tn i s.heap->J.go i H->
  wpAny (model P w) X.A (pyNext (.ref it)) (fun r s1=>∃ u,r=some u/\
   wpAny (model P w) X.A (letOwnedTupleGo tg (.ref it) u) (fun _ s2=>∃ x H',Inv X pins Y H' s2/\RelV x u/\J.yld i H x H'/\tn (i+1) s2.heap/\∀ b∈fp,H' b=none) E s1) E s
 done:∀ (X:Cx),X.prog=P->X.w=w->X.K=K->X.calm=true->∀ (i:Nat) (pins:List (Addr×Obj)) (s:Shared) (Y:St) (H:Hp) (E:Value->Shared->Prop),Inv X pins Y H s->(∀ b∈fp,FpOk X pins H b)->tn i s.heap->J.stop i H->
  wpAny (model P w) X.A (pyNext (.ref it)) (fun r s1=>r=none/\Inv X pins Y H s1) E s
 self:∀ (A:Around) (i:Nat) (s:Shared) (Q:Value->Shared->Prop) (E:Value->Shared->Prop),tn i s.heap->Q (.ref it) s->wpAny (model P w) A (pyIter (.ref it)) Q E s
noncomputable abbrev TI:=St->Hp->(It->Hp->Prop)->Prop
noncomputable def rE (X:Cx) (pins:List (Addr×Obj)) (Y:St) (tg:Expr) (R:It->Hp->Prop) (itv:Value) (s2:Shared):Prop:=
 ∃ (it:Addr) (fp:List Addr) (tn:Nat->Heap->Prop) (J:It) (H':Hp),itv=.ref it/\Inv X pins Y H' s2/\Turn X.prog X.w X.K tg J fp it tn/\tn 0 s2.heap/\(∀ b∈fp,FpOk X pins H' b)/\R J H'
noncomputable def PI (X:Cx) (tg iter:Expr) (wi:TI):Prop:=
 ∀ (pins:List (Addr×Obj)) (s:Shared) (Y:St) (H:Hp) (R:It->Hp->Prop),Inv X pins Y H s->wi Y H R->
  wpAny 'a' X.A (eval iter X.env) (fun v s1=>wpAny 'a' X.A (pyIter v) (rE X pins Y tg R) X.xe s1) X.xe s
theorem go_of{M : Model}{A : Around}{E : Value -> Shared -> Prop}{s : Shared}{tg : Expr}{it : Addr}{u : Value}{o : Obj}{n : String}{vs : Array Value}{Q : Unit -> Shared -> Prop}(ho : s.heap.get? it = some o)(hc : o.cls = .type n)(hd : o.data = .fields vs)(hn : ["enumerate", "zip", "dict_itemiterator", "dict_reverseitemiterator", "odict_iterator", "itertools.zip_longest", "itertools.pairwise"].contains n = false)(hQ : Q () s) : wpAny M A (letOwnedTupleGo tg (.ref it) u) Q E s := by
  unfold letOwnedTupleGo
  cases tg <;> first
    | exact wpAny_pure hQ
    | (cases u <;> first
        | exact wpAny_pure hQ
        | (refine wpAny_bind (wpAny_load ho ?_)
           rw [hc, hd];show wpAny M A (if (["enumerate", "zip", "dict_itemiterator", "dict_reverseitemiterator", "odict_iterator", "itertools.zip_longest", "itertools.pairwise"].contains n&&vs[0]? == some (rawInt _)) = true then _ else _) Q E s;rw [if_neg (by intro h; rw [hn, Bool.false_and] at h; cases h)];exact wpAny_pure hQ))
noncomputable def aY (K:PySem.W.Frag) (a:Addr):It:=
 ⟨fun i H=>∃ xs x,D6 K H a xs/\xs[i]?=some x,fun i H x H'=>H'=H/\∀ xs,D6 K H a xs->xs[i]?=some x,fun i H=>∃ xs,D6 K H a xs/\xs.length<=i⟩
noncomputable def cS (K:PySem.W.Frag) (a:Addr):It:=
 ⟨fun i H=>∃ xs x,D1 K H a xs/\xs[i]?=some x,fun i H x H'=>H'=H/\∀ xs,D1 K H a xs->xs[i]?=some x,fun i H=>∃ xs,D1 K H a xs/\xs.length<=i⟩
noncomputable def r8 (lo:Int) (n:Nat):It:=⟨fun i _=>i<n,fun i H x H'=>H'=H/\x=.int (lo+i),fun i _=>n<=i⟩
theorem aiz{P:Program}{w:World}{K:PySem.W.Frag}{tg:Expr}(a it:Addr):Turn P w K tg (aY K a) [it] it (fun i h=>h.IsListIter it a i) where
 mem:=by simp
 obj:=fun i h st b hb=>by
  have e:b=it:=by simpa using hb
  subst e;obtain ⟨o,e,c,d⟩:=st;exact ⟨o,e,fun v z=>by rw [d] at z;cases z⟩
 keep:=fun i h h' st k=>st.at fun o e=>k it 'c' o e
 item:=by
  intro X hP hw hK hc i pins s Y H E I hf st hg;subst hP hw hK;obtain ⟨xs,x,hq,hx⟩:=hg;obtain ⟨its,rv,p,hz⟩:=I.list hq;obtain ⟨u,hu,ru⟩:=rv.get hx;obtain ⟨f0,f1,f2,f3,f4,f5⟩:=hf it 'c';refine wpAny_pyNext_list_item st p.isList (x:=u) (by simpa using hu) fun h' st' sb=>?_
  have I1:Inv X pins Y H { s with heap:=h' }:=I.turned (t':=s.toks) (fun b o hb e=>(sb.2 b hb).trans e) f0 f1 f3 f4 f5;obtain ⟨o,e,c,d⟩:=id st';exact ⟨u,rfl,go_of (s:={ s with heap:=h' }) e c d 'g' ⟨x,H,I1,ru,⟨rfl,fun ys hy=>by rw [I.list_inj hy hq];exact hx⟩,st',fun b hb=>(hf b hb).1⟩⟩
 done:=by
  intro X hP hw hK hc i pins s Y H E I hf st hg;subst hP hw hK;obtain ⟨xs,hq,hx⟩:=hg;obtain ⟨its,rv,p,hz⟩:=I.list hq;obtain ⟨f0,f1,f2,f3,f4,f5⟩:=hf it 'c';have hl:=rv.length;exact wpAny_pyNext_list_end (I.ok.hd hc) st p.isList (by simp;lia) fun h' eb=>⟨rfl,I.turned (t':=s.toks) (fun b o hb e=>eb b o hb e) f0 f1 f3 f4 f5⟩
 self:=fun _ _ _ _ _ st h=>wpAny_pyIter_listiter st h
theorem ahS{P:Program}{w:World}{K:PySem.W.Frag}{tg:Expr}(a it:Addr):Turn P w K tg (cS K a) [it] it (fun i h=>h.IsTupleIter it a i) where
 mem:=by simp
 obj:=fun i h st b hb=>by
  have e:b=it:=by simpa using hb
  subst e;obtain ⟨o,e,c,d⟩:=st;exact ⟨o,e,fun v z=>by rw [d] at z;cases z⟩
 keep:=fun i h h' st k=>st.at fun o e=>k it 'c' o e
 item:=by
  intro X hP hw hK hc i pins s Y H E I hf st hg;subst hP hw hK;obtain ⟨xs,x,hq,hx⟩:=hg;obtain ⟨its,rv,p,hz⟩:=I.tuple hq;obtain ⟨u,hu,ru⟩:=rv.get hx;obtain ⟨f0,f1,f2,f3,f4,f5⟩:=hf it 'c';refine wpAny_pyNext_tuple_item st (show s.heap.IsTuple a its.toArray from p) (x:=u) (by simpa using hu) fun h' st' sb=>?_
  have I1:Inv X pins Y H { s with heap:=h' }:=I.turned (t':=s.toks) (fun b o hb e=>(sb.2 b hb).trans e) f0 f1 f3 f4 f5;obtain ⟨o,e,c,d⟩:=id st';exact ⟨u,rfl,go_of (s:={ s with heap:=h' }) e c d 'g' ⟨x,H,I1,ru,⟨rfl,fun ys hy=>by rw [I.tuple_inj hy hq];exact hx⟩,st',fun b hb=>(hf b hb).1⟩⟩
 done:=by
  intro X hP hw hK hc i pins s Y H E I hf st hg;subst hP hw hK;obtain ⟨xs,hq,hx⟩:=hg;obtain ⟨its,rv,p,hz⟩:=I.tuple hq;obtain ⟨f0,f1,f2,f3,f4,f5⟩:=hf it 'c';have hl:=rv.length;exact wpAny_pyNext_tuple_end (I.ok.hd hc) st (show s.heap.IsTuple a its.toArray from p) (by simp;lia) fun h' eb=>⟨rfl,I.turned (t':=s.toks) (fun b o hb e=>eb b o hb e) f0 f1 f3 f4 f5⟩
 self:=fun _ _ _ _ _ st h=>wpAny_pyIter_tupleiter st h
theorem ahT{P:Program}{w:World}{K:PySem.W.Frag}{tg:Expr}(it:Addr)(lo:Int)(n:Nat):Turn P w K tg (r8 lo n) [it] it (fun i h=>IsRangeIter h it (lo+(i:Nat)*1) ((n:Int)-(i:Nat)) 1) where
 mem:=by simp
 obj:=fun i h st b hb=>by
  have e:b=it:=by simpa using hb
  subst e;exact ⟨_,st,fun v z=>by
   have z':Data.fields _=Data.cell v:=z
   cases z'⟩
 keep:=fun i h h' st k=>k it 'c' _ st
 item:=by
  intro X hP hw hK hc i pins s Y H E I hf st hg;subst hP hw hK;obtain ⟨f0,f1,f2,f3,f4,f5⟩:=hf it 'c';have W:=Walks.range (prog:=X.prog) (w:=X.w) (I.ok.hd hc) it lo 1 n;refine W.item i s _ _ hg st fun v h' tk hv st' kk=>?_
  obtain ⟨t,rfl⟩:=hv;have I1:Inv X pins Y H { s with heap:=h',toks:=tk }:=I.turned (fun b o hb e=>kk b o (by simpa using hb) e) f0 f1 f3 f4 f5;refine ⟨_,rfl,go_of (s:={ s with heap:=h',toks:=tk }) (n:="range_iterator") st' rfl rfl 'g' ⟨.int (lo+i),H,I1,⟨t,?_⟩,⟨rfl,rfl⟩,st',fun b hb=>(hf b hb).1⟩⟩;rw [Int.mul_one]
 done:=by
  intro X hP hw hK hc i pins s Y H E I hf st hg;subst hP hw hK;obtain ⟨f0,f1,f2,f3,f4,f5⟩:=hf it 'c';exact wpAny_pyNext_range_end (I.ok.hd hc) st (by have:n<=i:=hg;lia) fun h' eb=>⟨rfl,I.turned (t':=s.toks) (fun b o hb e=>eb b o hb e) f0 f1 f3 f4 f5⟩
 self:=fun _ _ _ _ _ st h=>wpAny_pyIter_rangeiter st h
section
variable {X:Cx} {tg:Expr}
noncomputable def iList (K:PySem.W.Frag) (tl:TE):TI:=fun Y H R=>tl Y H fun x H1=>∃ a,x=.ref a/\(∃ xs,D6 K H1 a xs)/\R (aY K a) H1
noncomputable def iTup (K:PySem.W.Frag) (tl:TE):TI:=fun Y H R=>tl Y H fun x H1=>∃ a,x=.ref a/\(∃ xs,D1 K H1 a xs)/\R (cS K a) H1
theorem amH{l:Expr}{tl:TE}(hl:PE X l tl):PI X tg l (iList X.K tl):=by
 intro pins s Y H R I h;refine B3 (hl pins s Y H _ I h) fun v s1 ⟨x,H1,I1,r1,q1⟩=>?_
 obtain ⟨a,e,⟨xs,hq⟩,q⟩:=q1;subst e
 cases r1
 obtain ⟨its,rv,p,hz⟩:=I1.list hq;refine wpAny_pyIter_list p.isList ?_;refine ⟨s1.heap.objs.size,[s1.heap.objs.size],_,_,H1,rfl,I1.kept (t':=s1.toks) fun b o e=>Heap.get?_push_of_some _ e,aiz a _,⟨_,Heap.get?_push_size _ rfl,rfl,rfl⟩,fun b hb=>?_,q⟩;have e:b=s1.heap.objs.size:=by simpa using hb
 subst e;exact I1.fpOk (C3 _) (I1.hok.fresh (C3 _))
theorem aoL{l:Expr}{tl:TE}(hl:PE X l tl):PI X tg l (iTup X.K tl):=by
 intro pins s Y H R I h;refine B3 (hl pins s Y H _ I h) fun v s1 ⟨x,H1,I1,r1,q1⟩=>?_
 obtain ⟨a,e,⟨xs,hq⟩,q⟩:=q1;subst e
 cases r1
 obtain ⟨its,rv,p,hz⟩:=I1.tuple hq;refine wpAny_pyIter_tuple (show s1.heap.IsTuple a its.toArray from p) ?_;refine ⟨s1.heap.objs.size,[s1.heap.objs.size],_,_,H1,rfl,I1.kept (t':=s1.toks) fun b o e=>Heap.get?_push_of_some _ e,ahS a _,⟨_,Heap.get?_push_size _ rfl,rfl,rfl⟩,fun b hb=>?_,q⟩;have e:b=s1.heap.objs.size:=by simpa using hb
 subst e;exact I1.fpOk (C3 _) (I1.hok.fresh (C3 _))
theorem yQ{pins:List (Addr×Obj)}{Y:St}{H:Hp}{s:Shared}{R:It->Hp->Prop}{E:Value->Shared->Prop}{lo hi:Int}{t u v:Tok}{tk:Nat}(I:Inv X pins Y H s)(h1:-(2 ^ 62)<=lo)(h2:lo<2 ^ 62)(h3:-(2 ^ 62)<=hi)(h4:hi<2 ^ 62)(q:R (r8 lo (hi-lo).toNat) H):wpAny 'a' X.A (pyIter (.ref s.heap.objs.size)) (rE X pins Y tg R) E { s with heap:=s.heap.push { cls:=.type "range",data:=.fields #[.int lo t,.int hi u,.int 1 v] },toks:=tk }:=by
 refine wpAny_pyIter_range (IsRange.new ..) (small_one h1 h2 h3 h4) ?_;have I1:Inv X pins Y H { s with heap:=s.heap.push { cls:=.type "range",data:=.fields #[.int lo t,.int hi u,.int 1 v] },toks:=tk }:=I.kept fun b o e=>Heap.get?_push_of_some _ e
 refine ⟨(s.heap.push { cls:=.type "range",data:=.fields #[.int lo t,.int hi u,.int 1 v] }).objs.size,[(s.heap.push { cls:=.type "range",data:=.fields #[.int lo t,.int hi u,.int 1 v] }).objs.size],_,_,H,rfl,
  I1.kept (t':=tk) fun b o e=>Heap.get?_push_of_some _ e,ahT _ lo (hi-lo).toNat,?_,fun b hb=>?_,q⟩
 .have e1:lo+((0:Nat):Int)*1=lo:=by simp
  have e2:(((hi-lo).toNat:Nat):Int)-((0:Nat):Int)=Builtin.Range.rangeSize lo hi 1:=by rw [rangeSize_one];split <;> lia
  show IsRangeIter _ _ (lo+((0:Nat):Int)*1) ((((hi-lo).toNat:Nat):Int)-((0:Nat):Int)) 1;rw [e1,e2];exact Heap.get?_push_size _ rfl
 .have e:b=(s.heap.push { cls:=.type "range",data:=.fields #[.int lo t,.int hi u,.int 1 v] }).objs.size:=by simpa using hb
  subst e;exact I1.fpOk (C3 _) (I1.hok.fresh (C3 _))
noncomputable def iRng1 (ta:TA):TI:=fun Y H R=>ta Y H fun vs H1=>∃ j:Int,vs=[.int j]/\-(2 ^ 62)<=j/\j<2 ^ 62/\R (r8 0 j.toNat) H1
noncomputable def iRng2 (ta:TA):TI:=fun Y H R=>ta Y H fun vs H1=>∃ i j:Int,vs=[.int i,.int j]/\(-(2 ^ 62)<=i/\i<2 ^ 62/\-(2 ^ 62)<=j/\j<2 ^ 62)/\R (r8 i (j-i).toNat) H1
theorem aiA{a:Expr}{ta:TA}{p pos:Pos}(hg:Gl X "range")(hm:X.mg "range"=none)(ha:PA X [a] ta)(hs:starEach [a] X.env=[(false,eval a X.env)]:=by rfl):PI X tg (.Call (.Name "range" p) [a] [] pos) (iRng1 ta):=by
 intro pins s Y H R I h;refine Call_ (cQ I hg hm boot_range (PyProof.Rows.callWith_type1 (B3 (ha pos pins s Y H _ I h) fun us s1 ⟨vs,H1,I1,r1,q1⟩=>?_) hs rfl));obtain ⟨j,e,q1,q2,q⟩:=q1;subst e
 cases r1 with
 | cons r rr=>
  cases rr
  obtain ⟨t,rfl⟩:=r;exact call_range_1 (yQ I1 'b' 'b' q1 q2 (by simpa using q))
theorem aiB{a b:Expr}{ta:TA}{p pos:Pos}(hg:Gl X "range")(hm:X.mg "range"=none)(ha:PA X [a,b] ta)(hs:starEach [a,b] X.env=[(false,eval a X.env),(false,eval b X.env)]:=by rfl)(bJ:starEach [b] X.env=[(false,eval b X.env)]:=by rfl) :
  PI X tg (.Call (.Name "range" p) [a,b] [] pos) (iRng2 ta):=by
 intro pins s Y H R I h;refine Call_ (cQ I hg hm boot_range (PyProof.Rows.callWith_type1 (B3 (ha pos pins s Y H _ I h) fun us s1 ⟨vs,H1,I1,r1,q1⟩=>?_) (by rw [hs,bJ]) (by rw [bJ];rfl)));obtain ⟨i,j,e,⟨q1,q2,q3,q4⟩,q⟩:=q1;subst e
 cases r1 with
 | cons r rr=>
  cases rr with
  | cons r' rr=>
   cases rr
   obtain ⟨t,rfl⟩:=r;obtain ⟨t',rfl⟩:=r';exact call_range_2 (yQ I1 q1 q2 q3 q4 q)
noncomputable def tFor (wi:TI) (g:TG) (tb:TS):TS:=fun D Y H=>wi Y H fun J H1=>∃ W:Nat->Nat->St->Hp->Prop,(∃ m,W 0 m Y H1)/\∀ i m Y H,W i m Y H->
 (J.stop i H/\D.nx Y H)\/(J.go i H/\∃ N:St->Hp->Prop,(∀ σ' H',N σ' H'->∃ m',m'<m/\W (i+1) m' σ' H')/\∀ x H',J.yld i H x H'->g x Y H' fun σ2 H2=>tb { D with nx:=N,ct:=N,bk:=D.nx } σ2 H2)
noncomputable def gQ (fp:List Addr) (h:Heap):List (Addr×Obj):=fp.filterMap fun b=>(h.get? b).map fun o=>(b,o)
theorem gS{fp:List Addr}{h:Heap}{b:Addr}{o:Obj}(hb:b∈fp)(e:h.get? b=some o):(b,o)∈gQ fp h:=List.mem_filterMap.mpr ⟨b,hb,by rw [e];rfl⟩
theorem aiC{fp:List Addr}{h:Heap}{p:Addr×Obj}(hp:p∈gQ fp h):p.1∈fp/\h.get? p.1=some p.2:=by
 obtain ⟨b,hb,e⟩:=List.mem_filterMap.mp hp
 cases q:h.get? b with
 | none=>rw [q] at e;cases e
 | some o=>
  rw [q] at e;have e':(b,o)=p:=Option.some.inj e;subst e';exact ⟨hb,q⟩
theorem Inv.pinned{pins:List (Addr×Obj)}{Y:St}{H:Hp}{s:Shared}{fp:List Addr}(I:Inv X pins Y H s)(hf:∀ b∈fp,FpOk X pins H b)(ho:∀ b∈fp,∃ o,s.heap.get? b=some o/\∀ v,o.data≠.cell v):Inv X (pins++gQ fp s.heap) Y H s:=
 I.pins_of fun p hp=>(D8.mp hp).elim (fun z=>I.pin p (O5 _ z)) fun z=>by
  obtain ⟨hb,e⟩:=aiC z;obtain ⟨f0,f1,f2,_⟩:=hf p.1 hb;obtain ⟨o,e',d⟩:=ho p.1 hb;rw [e] at e';cases e';exact ⟨e,f0,f1,f2,d⟩
theorem Inv.unpinned{pins pl:List (Addr×Obj)}{Y:St}{H:Hp}{s:Shared}(I:Inv X (pins++pl) Y H s):Inv X pins Y H s:=I.pins_of fun p hp=>I.pin p (O5 _ (O6 _ hp))
theorem aoM{iter:Expr}{body:List Stmt}{wi:TI}{g:TG}{tb:TS}{pos:Pos}(hp:PassesOwn 'a' X.A X.env X.xe)(hc:X.calm=true)(hi:PI X tg iter wi)(hg:PG X tg g)(hb:W5 X body tb)(hs:∀ x,foldedSetIterable iter X.env x=pure x:=by intro _;rfl):PS X (.For tg iter body [] pos) (tFor wi g tb):=by
 intro pins s Y H D I h;refine wpAny_For (B3 (hi pins s Y H _ I h) fun v s1 h1=>B3 h1 fun itv s2 h2=>?_) hs;obtain ⟨it,fp,tn,J,H2,e,I2,T,lK,f2,W,⟨m0,w0⟩,turn⟩:=h2;subst e;have stat:∀ {H':Hp},(∀ b∈fp,H' b=none)->∀ b∈fp,FpOk X pins H' b:=fun hn b hb=>⟨hn b hb,(f2 b hb).2⟩
 refine codeAny_forLoop_any (fun n s'=>∃ i σ' H',Inv X pins σ' H' s'/\tn i s'.heap/\(∀ b∈fp,H' b=none)/\W i n σ' H') ?_ m0 ⟨0,Y,H2,I2,lK,fun b hb=>(f2 b hb).1,w0⟩;rintro n s3 ⟨i,σ3,H3,I3,dI,lL,w3⟩
 rcases turn i n σ3 H3 w3 with ⟨stop,qn⟩ | ⟨go,N,hN,step⟩
 .refine wpAny_passesOwn hp (B3 (T.done X rfl rfl rfl hc i pins s3 σ3 H3 X.xe I3 (stat lL) dI stop) fun r s4 ⟨hr,I4⟩=>?_);subst hr;exact wpAny_execs_nil ⟨σ3,H3,I4,qn⟩
 .refine wpAny_passesOwn hp (B3 (T.item X rfl rfl rfl hc i pins s3 σ3 H3 X.xe I3 (stat lL) dI go) fun r s4 ⟨u,hr,h4⟩=>?_);subst hr;refine wpAny_passesOwn hp (B3 h4 fun _ s5 ⟨x,H5,I5,r5,y5,fE,vX⟩=>?_);have I5':=I5.pinned (stat vX) (T.obj _ _ fE);refine wpAny_passesOwn hp (B3 (hg _ s5 σ3 H5 x u _ I5' r5 (step x H5 y5)) fun _ s6 ⟨σ6,H6,I6,q6⟩=>?_);refine wpAny_passesOwn hp (B3 (hb _ s6 σ6 H6 _ I6 q6) fun f s7 q7=>?_);have again:∀ {σ7:St} {H7:Hp},Inv X (pins++gQ fp s5.heap) σ7 H7 s7->N σ7 H7->∃ m,m<n/\∃ i σ' H',Inv X pins σ' H' s7/\tn i s7.heap/\(∀ b∈fp,H' b=none)/\W i m σ' H':=fun {σ7 H7} I7 n7=>by
   obtain ⟨m',hm,w7⟩:=hN σ7 H7 n7;refine ⟨m',hm,i+1,σ7,H7,I7.unpinned,T.keep _ _ _ fE fun b hb o e=>(I7.pin (b,o) (O5 _ (O5 _ (gS hb e)))).1,fun b hb=>?_,w7⟩;obtain ⟨o,e,d⟩:=T.obj _ _ fE b hb;exact (I7.pin (b,o) (O5 _ (O5 _ (gS hb e)))).2.1
  cases f with
  | next=>obtain ⟨σ7,H7,I7,n7⟩:=q7;exact again I7 n7
  | cont=>obtain ⟨σ7,H7,I7,n7⟩:=q7;exact again I7 n7
  | brk=>obtain ⟨σ7,H7,I7,q7⟩:=q7;exact ⟨σ7,H7,I7.unpinned,q7⟩
  | ret v=>obtain ⟨x7,σ7,H7,I7,r7,q7⟩:=q7;exact ⟨x7,σ7,H7,I7.unpinned,r7,q7⟩
end
theorem aks{K:PySem.W.Frag}{a:Addr}{xs:List V}{g:TG}{tb:TS}{D:Ends}{Y:St}{H:Hp}(Pv:Nat->St->Hp->Prop)(h0:Pv 0 Y H)(hl:∀ i Y H,i<=xs.length->Pv i Y H->D6 K H a xs)(hs:∀ i x Y H,xs[i]?=some x->Pv i Y H->g x Y H fun σ2 H2=>tb { D with nx:=Pv (i+1),ct:=Pv (i+1),bk:=D.nx } σ2 H2)(hd:∀ Y H,Pv xs.length Y H->D.nx Y H) :
  ∃ W:Nat->Nat->St->Hp->Prop,(∃ m,W 0 m Y H)/\∀ i m Y H,W i m Y H->
   ((aY K a).stop i H/\D.nx Y H)\/((aY K a).go i H/\∃ N:St->Hp->Prop,(∀ σ' H',N σ' H'->∃ m',m'<m/\W (i+1) m' σ' H')/\∀ x H',(aY K a).yld i H x H'->g x Y H' fun σ2 H2=>tb { D with nx:=N,ct:=N,bk:=D.nx } σ2 H2):=by
 refine ⟨fun i m Y H=>m=xs.length-i/\i<=xs.length/\Pv i Y H,⟨xs.length,by simp,J0 _,h0⟩,?_⟩;rintro i m Y H ⟨rfl,hi,p⟩;have q:=hl i Y H hi p
 by_cases C7:i<xs.length
 .refine .inr ⟨⟨xs,xs[i],q,by simp [C7]⟩,Pv (i+1),fun σ' H' p'=>⟨xs.length-(i+1),by lia,rfl,C7,p'⟩,fun x H' y=>?_⟩;obtain ⟨e,y⟩:=y;subst e;exact hs i x Y _ (y xs q) p
 .have e:i=xs.length:=by lia
  subst e;exact .inl ⟨⟨xs,q,C3 _⟩,hd Y H p⟩
theorem amI{K:PySem.W.Frag}{a:Addr}{xs:List V}{g:TG}{tb:TS}{D:Ends}{Y:St}{H:Hp}(Pv:Nat->St->Hp->Prop)(h0:Pv 0 Y H)(hl:∀ i Y H,i<=xs.length->Pv i Y H->D1 K H a xs)(hs:∀ i x Y H,xs[i]?=some x->Pv i Y H->g x Y H fun σ2 H2=>tb { D with nx:=Pv (i+1),ct:=Pv (i+1),bk:=D.nx } σ2 H2)(hd:∀ Y H,Pv xs.length Y H->D.nx Y H) :
  ∃ W:Nat->Nat->St->Hp->Prop,(∃ m,W 0 m Y H)/\∀ i m Y H,W i m Y H->
   ((cS K a).stop i H/\D.nx Y H)\/((cS K a).go i H/\∃ N:St->Hp->Prop,(∀ σ' H',N σ' H'->∃ m',m'<m/\W (i+1) m' σ' H')/\∀ x H',(cS K a).yld i H x H'->g x Y H' fun σ2 H2=>tb { D with nx:=N,ct:=N,bk:=D.nx } σ2 H2):=by
 refine ⟨fun i m Y H=>m=xs.length-i/\i<=xs.length/\Pv i Y H,⟨xs.length,by simp,J0 _,h0⟩,?_⟩;rintro i m Y H ⟨rfl,hi,p⟩;have q:=hl i Y H hi p
 by_cases C7:i<xs.length
 .refine .inr ⟨⟨xs,xs[i],q,by simp [C7]⟩,Pv (i+1),fun σ' H' p'=>⟨xs.length-(i+1),by lia,rfl,C7,p'⟩,fun x H' y=>?_⟩;obtain ⟨e,y⟩:=y;subst e;exact hs i x Y _ (y xs q) p
 .have e:i=xs.length:=by lia
  subst e;exact .inl ⟨⟨xs,q,C3 _⟩,hd Y H p⟩
theorem aiD{lo:Int}{n:Nat}{g:TG}{tb:TS}{D:Ends}{Y:St}{H:Hp}(Pv:Nat->St->Hp->Prop)(h0:Pv 0 Y H)(hs:∀ i Y H,i<n->Pv i Y H->g (.int (lo+i)) Y H fun σ2 H2=>tb { D with nx:=Pv (i+1),ct:=Pv (i+1),bk:=D.nx } σ2 H2)(hd:∀ Y H,Pv n Y H->D.nx Y H) :
  ∃ W:Nat->Nat->St->Hp->Prop,(∃ m,W 0 m Y H)/\∀ i m Y H,W i m Y H->
   ((r8 lo n).stop i H/\D.nx Y H)\/((r8 lo n).go i H/\∃ N:St->Hp->Prop,(∀ σ' H',N σ' H'->∃ m',m'<m/\W (i+1) m' σ' H')/\∀ x H',(r8 lo n).yld i H x H'->g x Y H' fun σ2 H2=>tb { D with nx:=N,ct:=N,bk:=D.nx } σ2 H2):=by
 refine ⟨fun i m Y H=>m=n-i/\i<=n/\Pv i Y H,⟨n,by simp,J0 _,h0⟩,?_⟩;rintro i m Y H ⟨rfl,hi,p⟩
 by_cases C7:i<n
 .refine .inr ⟨C7,Pv (i+1),fun σ' H' p'=>⟨n-(i+1),by lia,rfl,C7,p'⟩,fun x H' y=>?_⟩;obtain ⟨e,y⟩:=y;subst e y;exact hs i Y _ C7 p
 .have e:i=n:=by lia
  subst e;exact .inl ⟨C3 _,hd Y H p⟩
noncomputable abbrev R2:=V->V->Hp->VK->Prop
noncomputable def G0 (X:Cx) (f:Value->Value->Sem Value) (r:R2):Prop:=
 ∀ (pins:List (Addr×Obj)) (s:Shared) (Y:St) (H:Hp) (x y:V) (v u:Value) (Q:VK),Inv X pins Y H s->RelV x v->RelV y u->r x y H Q->
  wpAny 'a' X.A (f v u) (EP X pins Y Q) X.xe s
noncomputable def nR (X:Cx) (f:Value->Sem Value) (r:V->Hp->VK->Prop):Prop:=
 ∀ (pins:List (Addr×Obj)) (s:Shared) (Y:St) (H:Hp) (x:V) (v:Value) (Q:VK),Inv X pins Y H s->RelV x v->r x H Q->
  wpAny 'a' X.A (f v) (EP X pins Y Q) X.xe s
noncomputable def CallR (X:Cx) (f:Value) (r:List V->Hp->VK->Prop):Prop:=
 ∀ (pins:List (Addr×Obj)) (s:Shared) (Y:St) (H:Hp) (xs:List V) (us:List Value) (Q:VK),Inv X pins Y H s->Vals xs us->r xs H Q->
  wpAny 'a' X.A (call f us) (EP X pins Y Q) X.xe s
noncomputable def TruR (X:Cx) (r:V->Hp->(Bool->Hp->Prop)->Prop):Prop:=
 ∀ (pins:List (Addr×Obj)) (s:Shared) (Y:St) (H:Hp) (x:V) (v:Value) (Q:Bool->Hp->Prop),Inv X pins Y H s->RelV x v->r x H Q->
  wpAny 'a' X.A (truthy v) (TP X pins Y Q) X.xe s
noncomputable def aZ (r:R2) (ta tb:TE):TE:=fun Y H Q=>ta Y H fun x H1=>tb Y H1 fun y H2=>r x y H2 Q
noncomputable def rF (r:V->Hp->VK->Prop) (ta:TE):TE:=fun Y H Q=>ta Y H fun x H1=>r x H1 Q
noncomputable def rI (C:Int->Int->Prop) (g:Int->Int->V):R2:=fun x y H Q=>∃ i j,x=.int i/\y=.int j/\C i j/\Q (g i j) H
noncomputable def s0 (g:Int->Int->V):R2:=fun x y H Q=>∃ i j,x=.int i/\y=.int j/\Q (g i j) H
noncomputable def rU (g:Int->V):V->Hp->VK->Prop:=fun x H Q=>∃ i,x=.int i/\Q (g i) H
section
variable {X:Cx} {a b c:Expr} {ta tb tc:TE} {pos:Pos}
theorem binT(ha:PE X a ta)(hb:PE X b tb){pins:List (Addr×Obj)}{s:Shared}{Y:St}{H:Hp}{R:V->V->Hp->Prop}(I:Inv X pins Y H s)(h:ta Y H fun x H1=>tb Y H1 fun y H2=>R x y H2){Q:Value->Shared->Prop}{f:Value->Value->Sem Value}(hf:∀ v u s2 x y H2,Inv X pins Y H2 s2->RelV x v->RelV y u->R x y H2->wpAny 'a' X.A (f v u) Q X.xe s2) :
  wpAny 'a' X.A (eval a X.env) (fun v zt=>wpAny 'a' X.A (eval b X.env) (fun u zw=>wpAny 'a' X.A (f v u) Q X.xe zw) X.xe zt) X.xe s:=by
 refine B3 (ha pins s Y H _ I h) fun v s1 ⟨x,H1,I1,r1,q1⟩=>?_
 refine B3 (hb pins s1 Y H1 _ I1 q1) fun u s2 ⟨y,H2,I2,r2,q2⟩=>?_
 exact hf v u s2 x y H2 I2 r1 r2 q2
theorem pe_op{op:Operator}{r:R2}(ho:G0 X (binaryOp op) r)(ha:PE X a ta)(hb:PE X b tb):PE X (.BinOp a op b pos) (aZ r ta tb):=by
 sleep 1;exact wpAny_BinOp (binT ha hb I h fun v u s2 x y H2 I2 rx ry q=>ho pins s2 Y H2 x y v u Q I2 rx ry q)
theorem pe_un{op:UnaryOp}{r:V->Hp->VK->Prop}(ho:nR X (unaryOp op) r)(ha:PE X a ta):PE X (.UnaryOp op a pos) (rF r ta):=by
 sleep 1;exact UnaryOp_ (B3 (ha pins s Y H _ I h) fun v s1 ⟨x,H1,I1,r1,q1⟩=>ho pins s1 Y H1 x v Q I1 r1 q1)
theorem nS{f:Value->Value->Sem Value}{C:Int->Int->Prop}{g:Int->Int->Int}(rule:∀ (i j:Int) (t u:Tok) (s:Shared) (Q:Value->Shared->Prop) (E:Value->Shared->Prop),C i j->Q (.int (g i j) s.toks) { s with toks:=s.toks+1 }->wpAny 'a' X.A (f (.int i t) (.int j u)) Q E s) :
  G0 X f (rI C fun i j=>.int (g i j)):=by
 sleep 0;obtain ⟨i,j,rfl,rfl,hc,q⟩:=h;obtain ⟨t,rfl⟩:=rx;obtain ⟨t',rfl⟩:=ry;exact rule i j t t' s _ _ hc ⟨.int (g i j),H,I.tok _,⟨_,rfl⟩,q⟩
theorem opI0{f:Value->Value->Sem Value}{g:Int->Int->Int}(rule:∀ (i j:Int) (t u:Tok) (s:Shared) (Q:Value->Shared->Prop) (E:Value->Shared->Prop),Q (.int (g i j) s.toks) { s with toks:=s.toks+1 }->wpAny 'a' X.A (f (.int i t) (.int j u)) Q E s) :
  G0 X f (s0 fun i j=>.int (g i j)):=by
 sleep 0;obtain ⟨i,j,rfl,rfl,q⟩:=h;obtain ⟨t,rfl⟩:=rx;obtain ⟨t',rfl⟩:=ry;exact rule i j t t' s _ _ ⟨.int (g i j),H,I.tok _,⟨_,rfl⟩,q⟩
theorem opB0{f:Value->Value->Sem Value}{g:Int->Int->Bool}(rule:∀ (i j:Int) (t u:Tok) (s:Shared) (Q:Value->Shared->Prop) (E:Value->Shared->Prop),Q (.bool (g i j)) s->wpAny 'a' X.A (f (.int i t) (.int j u)) Q E s) :
  G0 X f (s0 fun i j=>.bl (g i j)):=by
 sleep 0;obtain ⟨i,j,rfl,rfl,q⟩:=h;obtain ⟨t,rfl⟩:=rx;obtain ⟨t',rfl⟩:=ry;exact rule i j t t' s _ _ ⟨.bl (g i j),H,I,rfl,q⟩
noncomputable def CDiv (i j:Int):Prop:=0<j/\j<1073741824
noncomputable def CPow (i j:Int):Prop:=0<=j/\j<=1000000/\i.natAbs<2 ^ 64
noncomputable def CMul (i j:Int):Prop:=(-(2 ^ 64)<i/\i<2 ^ 64)\/(-(2 ^ 64)<j/\j<2 ^ 64)
theorem CMul.ok{i j:Int}(h:CMul i j):IntMulOk i j:=by
 rcases h with ⟨h1,h2⟩ | ⟨h1,h2⟩
 .exact .of_left (intBits_le_64 h1 h2)
 .exact .of_right (intBits_le_64 h1 h2)
theorem aoN:G0 X (binaryOp .Add) (s0 fun i j=>.int (i+j)):=opI0 fun _ _ _ _ _ _ _ q=>add_int q
theorem aoO:G0 X (binaryOp .Sub) (s0 fun i j=>.int (i-j)):=opI0 fun _ _ _ _ _ _ _ q=>sub_int q
theorem aoP:G0 X (binaryOp .Mult) (rI CMul fun i j=>.int (i*j)):=nS fun _ _ _ _ _ _ _ hc q=>mul_int q hc.ok
theorem amJ:G0 X (binaryOp .FloorDiv) (rI CDiv fun i j=>.int (i / j)):=nS fun i j _ _ _ _ _ hc q=>by
 have h1:(0:Int)<j:=hc.1;have h2:j<1073741824:=hc.2;exact floordiv_int 'b' (by rw [Int.fdiv_eq_ediv_of_nonneg i 'b'];exact q) (.inl (PyProof.noPylong_small 'b'))
theorem aoQ:G0 X (binaryOp .Mod) (rI (fun _ j=>0<j) fun i j=>.int (i % j)):=nS fun i j _ _ _ _ _ hc q=>by
 have h1:(0:Int)<j:=hc;exact mod_int' 'b' (by rw [Int.fmod_eq_emod_of_nonneg i 'b'];exact q)
theorem aoR:G0 X (binaryOp .Pow) (rI CPow fun i j=>.int (i ^ j.toNat)):=nS fun _ _ _ _ _ _ _ hc q=>pow_int_small hc.1 hc.2.1 hc.2.2 q
theorem unI{f:Value->Sem Value}{g:Int->Int}(rule:∀ (i:Int) (t:Tok) (s:Shared) (Q:Value->Shared->Prop) (E:Value->Shared->Prop),Q (.int (g i) s.toks) { s with toks:=s.toks+1 }->wpAny 'a' X.A (f (.int i t)) Q E s) :
  nR X f (rU fun i=>.int (g i)):=by
 intro pins s Y H x v Q I rx h;obtain ⟨i,rfl,q⟩:=h;obtain ⟨t,rfl⟩:=rx;exact rule i t s _ _ ⟨.int (g i),H,I.tok _,⟨_,rfl⟩,q⟩
theorem aoS:nR X (unaryOp .USub) (rU fun i=>.int (-i)):=unI fun _ _ _ _ _ q=>neg_int q
end
noncomputable def scal:V->V->Bool
 | .non,.non=>true | .non,.int _=>true | .int _,.non=>true | .non,.bl _=>true | .bl _,.non=>true | .non,.str _=>true | .str _,.non=>true
 | .int _,.int _=>true | .bl _,.bl _=>true | .str _,.str _=>true | .byt _,.byt _=>true
 | .int _,.str _=>true | .str _,.int _=>true | .bl _,.str _=>true | .str _,.bl _=>true
 | _,_=>false
noncomputable def yR:R2:=fun x y H Q=>scal x y=true/\Q (.bl (decide (x=y))) H
noncomputable def yS:R2:=fun x y H Q=>scal x y=true/\Q (.bl (!decide (x=y))) H
theorem yT{i j:Int} : decide (V.int i=V.int j)=(i==j):=by
 rw [eG]
 simp
theorem yU{i j:Bool} : decide (V.bl i=V.bl j)=(i==j):=by
 rw [eG]
 simp
theorem yV{i j:Str} : decide (V.str i=V.str j)=(i==j):=by
 rw [eG]
 simp
theorem yW{i j:Array UInt8} : decide (V.byt i=V.byt j)=(i.toList==j.toList):=by
 rw [eG]
 cases i
 cases j
 simp
section
variable {X:Cx} {a b c:Expr} {ta tb tc:TE} {pos:Pos}
theorem M0{pins:List (Addr×Obj)}{Y:St}{H:Hp}{s:Shared}{Q:VK}{k k':Bool}(I:Inv X pins Y H s)(q:Q (.bl k) H)(e:k=k'):EP X pins Y Q (.bool k') s:=by
 subst e;exact ⟨.bl k,H,I,rfl,q⟩
theorem op_eq:G0 X (compareOp .Eq) yR:=by
 sleep 0;obtain ⟨hs,q⟩:=h
 cases x with
 | non=>
  cases rx
  cases y with
  | non=>cases ry;exact PySem.EqNone.eq_none_none (M0 I q 'c')
  | bl j=>cases ry;exact PySem.EqNone.eq_none_bool (M0 I q 'c')
  | int j=>obtain ⟨t',rfl⟩:=ry;exact PySem.EqNone.eq_none_int (M0 I q 'c')
  | str j=>obtain ⟨t',rfl⟩:=ry;exact PySem.EqNone.eq_none_str (M0 I q 'c')
  | _=>exact absurd (show false=true from hs) K4
 | bl i=>
  cases rx
  cases y with
  | non=>cases ry;exact PySem.EqNone.eq_bool_none (M0 I q 'c')
  | bl j=>cases ry;exact eq_bool (M0 I q yU)
  | str j=>obtain ⟨t',rfl⟩:=ry;exact PySem.EqMixed.eq_bool_str (M0 I q 'c')
  | _=>exact absurd (show false=true from hs) K4
 | int i=>
  obtain ⟨t,rfl⟩:=rx
  cases y with
  | non=>cases ry;exact PySem.EqNone.eq_int_none (M0 I q 'c')
  | int j=>obtain ⟨t',rfl⟩:=ry;exact eq_int (M0 I q yT)
  | str j=>obtain ⟨t',rfl⟩:=ry;exact PySem.EqMixed.eq_int_str (M0 I q 'c')
  | _=>exact absurd (show false=true from hs) K4
 | str i=>
  obtain ⟨t,rfl⟩:=rx
  cases y with
  | non=>cases ry;exact PySem.EqNone.eq_str_none (M0 I q 'c')
  | bl j=>cases ry;exact PySem.EqMixed.eq_str_bool (M0 I q 'c')
  | int j=>obtain ⟨t',rfl⟩:=ry;exact PySem.EqMixed.eq_str_int (M0 I q 'c')
  | str j=>obtain ⟨t',rfl⟩:=ry;exact eq_str (M0 I q yV)
  | _=>exact absurd (show false=true from hs) K4
 | byt i=>
  obtain ⟨t,rfl⟩:=rx
  cases y with
  | byt j=>obtain ⟨t',rfl⟩:=ry;exact PySem.W.eq_bytes (M0 I q yW)
  | _=>exact absurd (show false=true from hs) K4
 | _=>cases y <;> exact absurd (show false=true from hs) K4
theorem op_ne:G0 X (compareOp .NotEq) yS:=by
 sleep 0;obtain ⟨hs,q⟩:=h
 cases x with
 | non=>
  cases rx
  cases y with
  | non=>cases ry;exact PySem.EqNone.ne_none_none (M0 I q 'c')
  | bl j=>cases ry;exact PySem.EqNone.ne_none_bool (M0 I q 'c')
  | int j=>obtain ⟨t',rfl⟩:=ry;exact PySem.EqNone.ne_none_int (M0 I q 'c')
  | str j=>obtain ⟨t',rfl⟩:=ry;exact PySem.EqNone.ne_none_str (M0 I q 'c')
  | _=>exact absurd (show false=true from hs) K4
 | bl i=>
  cases rx
  cases y with
  | non=>cases ry;exact PySem.EqNone.ne_bool_none (M0 I q 'c')
  | bl j=>cases ry;exact ne_bool (M0 I q (congrArg not yU))
  | str j=>obtain ⟨t',rfl⟩:=ry;exact PySem.EqMixed.ne_bool_str (M0 I q 'c')
  | _=>exact absurd (show false=true from hs) K4
 | int i=>
  obtain ⟨t,rfl⟩:=rx
  cases y with
  | non=>cases ry;exact PySem.EqNone.ne_int_none (M0 I q 'c')
  | int j=>obtain ⟨t',rfl⟩:=ry;exact ne_int (M0 I q (congrArg not yT))
  | str j=>obtain ⟨t',rfl⟩:=ry;exact PySem.EqMixed.ne_int_str (M0 I q 'c')
  | _=>exact absurd (show false=true from hs) K4
 | str i=>
  obtain ⟨t,rfl⟩:=rx
  cases y with
  | non=>cases ry;exact PySem.EqNone.ne_str_none (M0 I q 'c')
  | bl j=>cases ry;exact PySem.EqMixed.ne_str_bool (M0 I q 'c')
  | int j=>obtain ⟨t',rfl⟩:=ry;exact PySem.EqMixed.ne_str_int (M0 I q 'c')
  | str j=>obtain ⟨t',rfl⟩:=ry;exact ne_str (M0 I q (congrArg not yV))
  | _=>exact absurd (show false=true from hs) K4
 | byt i=>
  obtain ⟨t,rfl⟩:=rx
  cases y with
  | byt j=>obtain ⟨t',rfl⟩:=ry;exact PySem.W.ne_bytes (M0 I q (congrArg not yW))
  | _=>exact absurd (show false=true from hs) K4
 | _=>cases y <;> exact absurd (show false=true from hs) K4
theorem op_lt:G0 X (compareOp .Lt) (s0 fun i j=>.bl (decide (i<j))):=opB0 fun _ _ _ _ _ _ _ q=>lt_int q
theorem op_le:G0 X (compareOp .LtE) (s0 fun i j=>.bl (decide (i<=j))):=opB0 fun _ _ _ _ _ _ _ q=>le_int q
theorem op_gt:G0 X (compareOp .Gt) (s0 fun i j=>.bl (decide (j<i))):=opB0 fun _ _ _ _ _ _ _ q=>gt_int q
theorem op_ge:G0 X (compareOp .GtE) (s0 fun i j=>.bl (decide (j<=i))):=opB0 fun _ _ _ _ _ _ _ q=>ge_int q
theorem aiH:G0 X (compareOp .Lt) (fun x y H Q=>∃ i j,x=.str i/\y=.str j/\Q (.bl (decide (i.cps.toList<j.cps.toList))) H):=by
 sleep 0;obtain ⟨i,j,rfl,rfl,q⟩:=h;obtain ⟨t,rfl⟩:=rx;obtain ⟨t',rfl⟩:=ry;exact lt_str (M0 I q rfl)
theorem aiI:G0 X (compareOp .In) (fun x y H Q=>∃ i j,x=.str i/\y=.str j/\Q (.bl (!(Builtin.Str.occurrences j i 0 j.length 1).isEmpty)) H):=by
 sleep 0;obtain ⟨i,j,rfl,rfl,q⟩:=h;obtain ⟨t,rfl⟩:=rx;obtain ⟨t',rfl⟩:=ry;exact in_str (M0 I q rfl)
theorem aoT:G0 X (compareOp .Is) (fun x y H Q=>y=.non/\Q (.bl (decide (x=.non))) H):=by
 sleep 0;obtain ⟨rfl,q⟩:=h
 cases ry
 refine is_none_gen (M0 I q ?_)
 cases x <;> first
  | (cases rx;rfl)
  | (obtain ⟨t,rfl⟩:=rx;rfl)
theorem yX(b:Expr){op:CmpOp}(h:op≠.In:=by decide)(h2:op≠.NotIn:=by decide):behindInMarks op b=false:=by
 have e1:(op==CmpOp.In)=false:=by cases op <;> first | rfl | exact absurd rfl h
 have e2:(op==CmpOp.NotIn)=false:=by cases op <;> first | rfl | exact absurd rfl h2
 cases b <;> simp [behindInMarks,e1,e2]
theorem amK{op:CmpOp}{r:R2}(ho:G0 X (compareOp op) r)(ha:PE X a ta)(hb:PE X b tb)(hm:behindInMarks op b=false):PE X (.Compare a [op] [b] pos) (aZ r ta tb):=by
 sleep 1;exact wpAny_Compare1 (binT ha hb I h fun v u s2 x y H2 I2 rx ry q=>ho pins s2 Y H2 x y v u Q I2 rx ry q) hm
noncomputable def tTest (t:TE):TT:=fun Y H Q=>t Y H fun x H'=>∃ k,x=.bl k/\Q k H'
theorem amL{op:CmpOp}{r:R2}(ho:G0 X (compareOp op) r)(ha:PE X a ta)(hb:PE X b tb)(hm:behindInMarks op b=false):PT X (.Compare a [op] [b] pos) (tTest (aZ r ta tb)):=by
 sleep 1;refine wpAny_isTrue_Compare1 (B3 (ha pins s Y H _ I h) fun v s1 ⟨x,H1,I1,r1,q1⟩=>B3 (hb pins s1 Y H1 _ I1 q1) fun u s2 ⟨y,H2,I2,r2,q2⟩=>
  B3 (ho pins s2 Y H2 x y v u _ I2 r1 r2 q2) fun c s3 ⟨z,H3,I3,r3,k,e,q3⟩=>?_) hm
 subst e
 cases r3
 exact wpAny_truthy_bool ⟨H3,I3,q3⟩
noncomputable def rG (r r':R2) (ta tb tc:TE):TE:=fun Y H Q=>ta Y H fun x H1=>tb Y H1 fun y H2=>r x y H2 fun z H3=>∃ k,z=.bl k/\
 (if k=true then tc Y H3 fun w' H4=>r' y w' H4 Q else Q (.bl false) H3)
theorem akt{op op':CmpOp}{r r':R2}(ho:G0 X (compareOp op) r)(g8:G0 X (compareOp op') r')(ha:PE X a ta)(hb:PE X b tb)(hc:PE X c tc)(hm:lastMarks [op,op'] [b,c]=false:=by with_unfolding_all rfl):PE X (.Compare a [op,op'] [b,c] pos) (rG r r' ta tb tc):=by
 sleep 1;refine Compare_chain (B3 (ha pins s Y H _ I h) fun v s1 ⟨x,H1,I1,r1,q1⟩=>chain_link (B3 (hb pins s1 Y H1 _ I1 q1) fun u s2 ⟨y,H2,I2,r2,q2⟩=>
  B3 (ho pins s2 Y H2 x y v u _ I2 r1 r2 q2) fun d s3 ⟨z,H3,I3,r3,k,e,q3⟩=>?_)) hm
 subst e
 cases r3
 refine wpAny_truthy_bool ?_
 cases k with
 | false=>exact ite_ff ⟨.bl false,H3,I3,rfl,q3⟩
 | true=>exact ite_tt (chain_last (B3 (hc pins s3 Y H3 _ I3 q3) fun w' s4 ⟨z',H4,I4,r4,q4⟩=>g8 pins s4 Y H4 y z' u w' Q I4 r2 r4 q4))
noncomputable def TruV (K:PySem.W.Frag) (x:V) (H:Hp) (k:Bool):Prop:=
 match x with
 | .non=>k=false
 | .bl b=>k=b
 | .int i=>k=(i != 0)
 | .str y=>y.length<=sizeLine/\k=((y.length:Int) != 0)
 | .byt y=>y.size<=sizeLine/\k=((y.size:Int) != 0)
 | .ref p=>(∃ xs,D6 K H p xs/\k=!xs.isEmpty)\/(∃ xs,D1 K H p xs/\k=!xs.isEmpty)\/∃ kvs,H p=some (.dK kvs)/\k=!kvs.isEmpty
 | _=>False
theorem ahU{κ:Type}{kvs:List (κ×V)}{vs:List (κ×Value)}(r:KV kvs vs):(!vs.isEmpty)=!kvs.isEmpty:=by
 cases r <;> rfl
theorem yY{xs:List V}{its:List Value}(r:Vals xs its):(!its.toArray.isEmpty)=!xs.isEmpty:=by
 cases r <;> simp
theorem kG:(sizeLine:Nat)<2 ^ 63:=by rw [sizeLine_eq];decide
theorem yZ:TruR X (fun x H Q=>∃ k,TruV X.K x H k/\Q k H):=by
 intro pins s Y H x v Q I rx h;obtain ⟨k,e,q⟩:=h;have hl:=kG;have hs:sizeLine=16777216:=sizeLine_eq
 cases x with
 | non=>
  cases rx
  have e':k=false:=e;subst e';exact truthy_none ⟨H,I,q⟩
 | bl b=>
  cases rx
  have e':k=b:=e;subst e';exact wpAny_truthy_bool ⟨H,I,q⟩
 | int i=>
  obtain ⟨t,rfl⟩:=rx;have e':k=(i != 0):=e;subst e';exact PySem.P.truthy_int ⟨H,I,q⟩
 | str y=>
  obtain ⟨t,rfl⟩:=rx;obtain ⟨hy,e'⟩:y.length<=sizeLine/\k=((y.length:Int) != 0):=e;subst e';exact PySem.P.truthy_str 'b' ⟨H,I.tok _,q⟩
 | byt y=>
  obtain ⟨t,rfl⟩:=rx;obtain ⟨hy,e'⟩:y.size<=sizeLine/\k=((y.size:Int) != 0):=e;subst e';exact PySem.W.truthy_bytes 'b' ⟨H,I.tok _,q⟩
 | ref p=>
  cases rx
  have e':(∃ xs,D6 X.K H p xs/\k=!xs.isEmpty)\/(∃ xs,D1 X.K H p xs/\k=!xs.isEmpty)\/∃ kvs,H p=some (.dK kvs)/\k=!kvs.isEmpty:=e
  rcases e' with ⟨xs,hx,e'⟩ | ⟨xs,hx,e'⟩ | ⟨kvs,hx,e'⟩
  .subst e';obtain ⟨its,r,pl,hz⟩:=I.list hx;have A6:=r.length;exact wpAny_truthy_list pl.isList (by simp only [K3];lia) ⟨H,I.tok _,by rw [yY r];exact q⟩
  .subst e';obtain ⟨its,r,pl,hz⟩:=I.tuple hx;have A6:=r.length;exact truthy_tuple pl (by simp only [K3];lia) ⟨H,I.tok _,by rw [yY r];exact q⟩
  .subst e';obtain ⟨hz,hS,vs,r,m⟩:kvs.length<=sizeLine/\(p==sysModules)=false/\∃ vs,KV kvs vs/\s.heap.DictOf (M4 X.prog X.w) p vs:=I.hok p _ hx;have A6:kvs.length=vs.length:=Paired.length r;exact wpAny_truthy_dict hS m 'b' ⟨H,I.tok _,by rw [ahU r];exact q⟩
 | _=>exact (show False from e).elim
theorem aku(ha:PE X a ta)(he:∀ whole,isTrue a X.env whole=(do let v <- whole;standAt a.pos;holding [v] (truthy v))) :
  PT X a (fun Y H Q=>ta Y H fun x H'=>∃ k,TruV X.K x H' k/\Q k H'):=by
 sleep 1;exact isTrue_plain (B3 (ha pins s Y H _ I h) fun v s1 ⟨x,H1,I1,r1,q1⟩=>yZ pins s1 Y H1 x v Q I1 r1 q1) (he _)
theorem ahV:G0 X (binaryOp .Add) (fun x y H Q=>∃ i j,x=.str i/\y=.str j/\i.length+j.length<=sizeLine/\Q (.str (i++j)) H):=by
 sleep 0;obtain ⟨i,j,rfl,rfl,hz,q⟩:=h;obtain ⟨t,rfl⟩:=rx;obtain ⟨t',rfl⟩:=ry;exact add_str (fun t' tk=>⟨.str (i++j),H,I.tok _,⟨_,rfl⟩,q⟩) hz
theorem vals1{x:V}{us:List Value}(r:Vals [x] us):∃ u,us=[u]/\RelV x u:=by
 cases r with
 | cons r1 r2=>cases r2;exact ⟨_,rfl,r1⟩
theorem vals2{x y:V}{us:List Value}(r:Vals [x,y] us):∃ u w',us=[u,w']/\RelV x u/\RelV y w':=by
 cases r with
 | cons r1 r2=>
  cases r2 with
  | cons r3 r4=>cases r4;exact ⟨_,_,rfl,r1,r3⟩
noncomputable def LenV (K:PySem.W.Frag) (x:V) (H:Hp) (n:Nat):Prop:=
 match x with
 | .str y=>y.length<=sizeLine/\n=y.length
 | .byt y=>y.size<=sizeLine/\n=y.size
 | .ref p=>(∃ xs,D6 K H p xs/\n=xs.length)\/∃ xs,D1 K H p xs/\n=xs.length
 | _=>False
theorem rH:CallR X (.builtin "len") (fun xs H Q=>∃ x n,xs=[x]/\LenV X.K x H n/\Q (.int n) H):=by
 intro pins s Y H xs us Q I r h;obtain ⟨x,n,rfl,e,q⟩:=h;obtain ⟨u,rfl,rx⟩:=vals1 r;have hl:=kG;have hs:sizeLine=16777216:=sizeLine_eq
 cases x with
 | str y=>
  obtain ⟨t,rfl⟩:=rx;obtain ⟨hy,e'⟩:y.length<=sizeLine/\n=y.length:=e;subst e';exact len_str 'b' ⟨.int _,H,I.tok _,⟨_,rfl⟩,q⟩
 | byt y=>
  obtain ⟨t,rfl⟩:=rx;obtain ⟨hy,e'⟩:y.size<=sizeLine/\n=y.size:=e;subst e';exact PySem.W.len_bytes 'b' ⟨.int _,H,I.tok _,⟨_,rfl⟩,q⟩
 | ref p=>
  cases rx
  have e':(∃ xs,D6 X.K H p xs/\n=xs.length)\/∃ xs,D1 X.K H p xs/\n=xs.length:=e
  rcases e' with ⟨xs,hx,e'⟩ | ⟨xs,hx,e'⟩
  .subst e';obtain ⟨its,r',pl,hz⟩:=I.list hx;have A6:=r'.length;exact Calls.call_len_list pl.isList (by simp only [K3];lia) ⟨.int xs.length,H,I.tok _,⟨_,by simp only [K3];rw [A6]⟩,q⟩
  .subst e';obtain ⟨its,r',pl,hz⟩:=I.tuple hx;have A6:=r'.length;exact len_tuple pl (by simp only [K3];lia) ⟨.int xs.length,H,I.tok _,⟨_,by simp only [K3];rw [A6]⟩,q⟩
 | _=>exact (show False from e).elim
end
structure ObjM(h:Heap)(x dx C:Addr)(mA:Str->Option Value):Prop where
 obj:h.get? x=some (cK C dx)
 ns:h.Ns1 dx mA
 ne:dx≠x
theorem zA{h:Heap}{dx:Addr}{mA:Str->Option Value}(n:h.Ns1 dx mA):∃ od,h.get? dx=some od/\∀ name,PySem.W.lookIn name od=some (mA name):=by
 obtain ⟨o,es,ep,ho,hd,hk,_,hm⟩:=n;refine ⟨o,ho,fun name=>?_⟩;have e:=hm name;unfold nsFind findBy at e;rw [<- Array.find?_toList] at e;unfold PySem.W.lookIn;rw [hd]
 dsimp only
 split
 .rename_i y q
  rw [q] at e;exact congrArg some e
 .rename_i q
  rw [q] at e;have a:es.toList.any (·.refKey)=false:=by
   rw [List.any_eq_false];intro y hy;obtain ⟨z,t,P5⟩:=hk y (Array.mem_toList_iff.mp hy);simp [DictEntry.refKey,P5]
  have a':¬ es.toList.any (·.refKey)=true:=by rw [a];exact K4
  rw [if_neg a'];exact congrArg some e
theorem ObjM.look{h:Heap}{x dx C:Addr}{mA:Str->Option Value}(I:ObjM h x dx C mA):∃ od,PySem.W.InstAt h x (cK C dx) C (some od)/\∀ name,PySem.W.lookIn name od=some (mA name):=
 let ⟨od,ho,hl⟩:=zA I.ns
 ⟨od,⟨I.obj,rfl,rfl,ho⟩,hl⟩
section
variable {prog:Program} {w:World} {A:Around} {E:Value->Shared->Prop} {s:Shared} {K:PySem.W.Frag} {x dx C f:Addr} {mA:Str->Option Value} {name:Str} {v:Value}
theorem amM{expr:Bool}{Q:Value->Shared->Prop}(X:K.In s.heap)(I:ObjM s.heap x dx C mA)(hg:kB K C name=true)(hh:gI K C=true)(ha:J8 K (.ref C) name=some none)(hv:mA name=some v)(dJ:PySem.W.handedIn v=true)(h:Q v { s with toks:=s.toks+1 }) :
  wpAny 'd' A (getAttr (.ref x) name expr) Q E s:=by
 obtain ⟨od,J,hl⟩:=I.look;exact PySem.W.get_value X J (PySem.W.plainGet_of hg).1 (PySem.W.findObj_own hh ha rfl (by rw [hl,hv])) dJ h
theorem akv{pl:Sem Bool}{Q:Value×List Value->Shared->Prop}(X:K.In s.heap)(I:ObjM s.heap x dx C mA)(hg:kB K C name=true)(hf:J8 K (.ref C) name=some (some (.ref f)))(ht:y1 K (.ref f)=true)(hv:mA name=none)(h:Q (.ref f,[.ref x]) s) :
  wpAny 'd' A (getMethod (.ref x) name pl) Q E s:=by
 obtain ⟨od,J,hl⟩:=I.look;exact PySem.W.method_fn X J (PySem.W.plainGet_of hg).1 (PySem.W.plainGet_of hg).2 hf (beq_iff_eq.mp ht) (by show (PySem.W.lookIn name od).map (·.isSome)=some false;rw [hl,hv];rfl) h
theorem amN{ns:List Str}{Q:Unit->Shared->Prop}(X:K.In s.heap)(I:ObjM s.heap x dx C mA)(hs:J8 K (.ref C) "__setattr__"=some (some (.builtin "object.__setattr__")))(hp:PySem.W.plainOver K C=true)(ht:PySem.W.takerIn K C name=some none)(hh:gI K C=true)(hw:PySem.Within mA ns)(hsz:ns.length<=sizeLine)(h:∀ h',ObjM h' x dx C (fun y=>if y=name then some v else mA y)->Heap.SameBut dx s.heap h'->Q () { s with heap:=h',toks:=s.toks+2 }) :
  wpAny 'd' A (setAttr (.ref x) name v) Q E s:=by
 obtain ⟨od,J,hl⟩:=I.look;refine PySem.W.set_plain X J hs (PySem.W.osa_open (s:={ s with toks:=s.toks+1 }) (r:=none) X J hp ht fun b=>?_);obtain ⟨cd,hc,lJ⟩:=PySem.W.any_some hh;have hx:s.heap.get? x=some ⟨.ref C,some dx,.plain,#[]⟩:=I.obj;refine wpAny_bind (wpAny_pure (wpAny_bind (wpAny_bind (wpAny_loadPart hx (wpAny_bind (PySem.W.Looks.here (s:={ s with toks:=s.toks+1 }) (PySem.W.looks_clsIn X hc) ?_))))));rw [lJ];refine wpAny_pure (a:=some dx) (wpAny_bind (wpAny_pure (wpAny_bind ?_)));refine wpAny_nsSet1 (s:={ s with toks:=s.toks+1 }) I.ns fun h' dL bJ=>?_
 obtain ⟨oD,esD,epD,hoD,hdD,hcD⟩:=dL.count (PySem.Within.cons name v hw);refine wpAny_bind (wpAny_lookBehind hoD (by rw [hdD];exact pastItsLine_dict (D5 hcD (by rw [G8];lia))) ?_);exact wpAny_pure (h _ ⟨(bJ.2 _ (Ne.symm I.ne)).trans I.obj,dL,I.ne⟩ bJ)
theorem akw{R:Result->Shared->Prop}{vs:List Value}{kw:List (Str×Value)}(X:K.In s.heap)(hm:PySem.W.makesIn K C=true)(hi:J8 K (.ref C) "__init__"=some (some (.ref f)))(hf:PySem.W.typeIn K (.ref f)=some (.type "function"))(h:codeAny 'd' (A.under (.builtin "type.__call__" ⟨.ref C::vs,kw⟩)) (.call (.ref f) ⟨.ref 'i'::vs,kw⟩) (PySem.W.InitBack 'i' R)
   { s with heap:=(s.heap.push aV).push (cK C s.heap.objs.size) }) :
  codeAny 'd' A (.call (.ref C) ⟨vs,kw⟩) R s:=by
 obtain ⟨hh,g,d,t,os⟩:=s;exact PySem.W.make_core (PySem.W.makes_of X hm) (PySem.W.looks_findIn X hi) (fun self=>PySem.W.bind_fn X self hf) (.inl rfl) h
end
noncomputable def putF (f:Str) (v:V):List (Str×V)->List (Str×V)
 | []=>[(f,v)]
 | (g,x)::r=>if g=f then (g,v)::r else (g,x)::putF f v r
theorem V0(f g:Str)(v:V):∀ fs:List (Str×V),(putF f v fs).lookup g=if g=f then some v else fs.lookup g
 | []=>by
  show List.lookup g [(f,v)]=_
  by_cases h:g=f
  .have hb:(g==f)=true:=beq_iff_eq.mpr h;simp only [List.lookup,hb,if_pos h]
  .have hb:(g==f)=false:=beq_eq_false_iff_ne.mpr h;simp only [List.lookup,hb,if_neg h]
 | (k,x)::r=>by
  have ih:=V0 f g v r;rw [show putF f v ((k,x)::r)=(if k=f then (k,v)::r else (k,x)::putF f v r) from rfl]
  by_cases hk:k=f
  .rw [if_pos hk]
   by_cases h:g=k
   .have hb:(g==k)=true:=beq_iff_eq.mpr h;simp only [List.lookup,hb,if_pos (h.trans hk)]
   .have hb:(g==k)=false:=beq_eq_false_iff_ne.mpr h;simp only [List.lookup,hb,if_neg (fun e:g=f=>h (e.trans hk.symm))]
  .rw [if_neg hk]
   by_cases h:g=k
   .have hb:(g==k)=true:=beq_iff_eq.mpr h;simp only [List.lookup,hb,if_neg (fun e:g=f=>hk (h.symm.trans e))]
   .have hb:(g==k)=false:=beq_eq_false_iff_ne.mpr h;simp only [List.lookup,hb];exact ih
theorem rJ(f:Str)(v:V):∀ fs:List (Str×V),f∈(putF f v fs).map (·.1)/\∀ g,g∈fs.map (·.1)->g∈(putF f v fs).map (·.1)
 | []=>⟨by simp [putF],fun g h=>by simp at h⟩
 | (k,x)::r=>by
  obtain ⟨i1,i2⟩:=rJ f v r;rw [show putF f v ((k,x)::r)=(if k=f then (k,v)::r else (k,x)::putF f v r) from rfl]
  by_cases hk:k=f
  .rw [if_pos hk];subst hk;exact ⟨by simp,fun g h=>by simpa using h⟩
  .rw [if_neg hk];refine ⟨?_,fun g h=>?_⟩
   .rw [J3];exact L8 _ i1
   .rw [J3] at h ⊢
    rcases F9.mp h with e | e
    .exact F9.mpr (.inl e)
    .exact L8 _ (i2 g e)
theorem rK(f:Str)(v:V):∀ fs:List (Str×V),(putF f v fs).length<=fs.length+1
 | []=>by simp [putF]
 | (k,x)::r=>by
  have ih:=rK f v r;rw [show putF f v ((k,x)::r)=(if k=f then (k,v)::r else (k,x)::putF f v r) from rfl]
  by_cases hk:k=f
  .rw [if_pos hk,G8,G8];lia
  .rw [if_neg hk,G8,G8];lia
theorem gU{v:V}{o:Option Value}(r:RelO (some v) o):∃ u,o=some u/\RelV v u:=by
 cases o with
 | none=>exact (show False from r).elim
 | some u=>exact ⟨u,rfl,r⟩
theorem RelO.none_of{o:Option Value}(r:RelO none o):o=none:=by
 cases o with
 | none=>rfl
 | some u=>exact (show False from r).elim
theorem zB{v:V}{u:Value}(r:RelV v u):PySem.W.handedIn u=true:=by
 cases v with
 | non=>cases (show u=Value.none from r);rfl
 | bl b=>cases (show u=Value.bool b from r);rfl
 | int i=>obtain ⟨t,e⟩:=(show ∃ t,u=Value.int i t from r);cases e;rfl
 | str x=>obtain ⟨t,e⟩:=(show ∃ t,u=Value.str x t from r);cases e;rfl
 | byt b=>obtain ⟨t,e⟩:=(show ∃ t,u=Value.bytes b t from r);cases e;rfl
 | flt b=>obtain ⟨t,e⟩:=(show ∃ t,u=Value.float b t from r);cases e;rfl
 | ref a=>cases (show u=Value.ref a from r);rfl
 | ty n=>cases (show u=Value.type n from r);rfl
section
variable {P:Program} {w:World} {H H':Hp} {h h':Heap} {a C dx:Addr} {fs fs':List (Str×V)}
theorem nU(hok:L9 P w H h)(e:H a=some (.ins C dx fs)):∃ mA,ObjM h a dx C mA/\(∀ f,RelO (fs.lookup f) (mA f))/\PySem.Within mA (fs.map (·.1))/\fs.length<=1000/\H dx=some (.own a):=by
 obtain ⟨d,z,ne,ob,mA,n,r,q⟩:=(show ObjOk P w H h a (.ins C dx fs) from hok a _ e)
 exact ⟨mA,⟨ob,n,ne⟩,r,q,z,d⟩
end
structure Cls(K:PySem.W.Frag)(C:Addr):Prop where
 pg:kB K C Str.empty=true
 hd:gI K C=true
 po:PySem.W.plainOver K C=true
 sa:J8 K (.ref C) "__setattr__"=some (some (.builtin "object.__setattr__"))
theorem Cls.get{K:PySem.W.Frag}{C:Addr}(c:Cls K C)(f:Str):kB K C f=true:=c.pg
noncomputable def NoAttr (K:PySem.W.Frag) (C:Addr) (f:Str):Prop:=J8 K (.ref C) f=some none
theorem NoAttr.taker{K:PySem.W.Frag}{C:Addr}{f:Str}(n:NoAttr K C f):PySem.W.takerIn K C f=some none:=by
 unfold PySem.W.takerIn;rw [show J8 K (.ref C) f=some none from n];rfl
structure Meth(K:PySem.W.Frag)(C:Addr)(m:Str)(f:Addr):Prop where
 at_:J8 K (.ref C) m=some (some (.ref f))
 fn:y1 K (.ref f)=true
 kp:O8 K (.ref f)=true
section
variable {X:Cx} {pins:List (Addr×Obj)} {Y:St} {H:Hp} {s:Shared} {a C dx:Addr} {fs:List (Str×V)} {f:Str} {v:V} {A:Around} {E:Value->Shared->Prop}
theorem ahW{b:Bool}{Q:Value->Shared->Prop}(I:Inv X pins Y H s)(e:H a=some (.ins C dx fs))(c:Cls X.K C)(n:NoAttr X.K C f)(l:fs.lookup f=some v)(h:∀ u s',Inv X pins Y H s'->RelV v u->Q u s'):wpAny 'a' A (getAttr 'f' f b) Q E s:=by
 obtain ⟨mA,O,r,_,_,_⟩:=nU I.hok e;obtain ⟨u,hu,ru⟩:=gU (v:=v) (o:=mA f) (by rw [<- l];exact r f);exact amM I.kIn O (c.get f) c.hd n hu (zB ru) (h u _ (I.tok _) ru)
theorem ahX{m:Str}{g:Addr}{pl:Sem Bool}{Q:Value×List Value->Shared->Prop}(I:Inv X pins Y H s)(e:H a=some (.ins C dx fs))(c:Cls X.K C)(k:Meth X.K C m g)(l:fs.lookup m=none)(h:Q (.ref g,[.ref a]) s):wpAny 'a' A (getMethod 'f' m pl) Q E s:=by
 obtain ⟨mA,O,r,_,_,_⟩:=nU I.hok e;have hn:mA m=none:=RelO.none_of (by rw [<- l];exact r m);exact akv I.kIn O (c.get m) k.at_ k.fn hn h
theorem ahY{y:V}{u:Value}{Q:Unit->Shared->Prop}(I:Inv X pins Y H s)(e:H a=some (.ins C dx fs))(c:Cls X.K C)(n:NoAttr X.K C f)(hl:fs.length<1000)(ry:RelV y u)(h:∀ s',Inv X pins Y (A0 H a (.ins C dx (putF f y fs))) s'->Q () s'):wpAny 'a' A (setAttr 'f' f u) Q E s:=by
 obtain ⟨mA,O,r,wi,_,ho⟩:=nU I.hok e;have hz:(fs.map (·.1)).length<=sizeLine:=by rw [A3,sizeLine_eq];lia
 refine amN I.kIn O c.sa c.po n.taker c.hd wi hz fun h' O' sb=>h _ ?_
 have hd:∃ o,h'.get? dx=some o:=let ⟨o,_,_,e',_⟩:=O'.ns;⟨o,e'⟩
 refine I.write (x:=a) (e:=dx) (by rw [e];exact True.intro) (.inr ho) (fun b q hb z=>(sb.2 b hb).trans z) hd ?_;refine ⟨by rw [A4 O.ne];exact ho,?_,O.ne,O'.obj,_,O'.ns,fun g=>?_,fun g hg=>?_⟩
 .have:=rK f y fs;lia
 .show RelO ((putF f y fs).lookup g) (if g=f then some u else mA g);rw [V0]
  by_cases q:g=f
  .rw [if_pos q,if_pos q];exact ry
  .rw [if_neg q,if_neg q];exact r g
 .by_cases q:g=f
  .rw [q];exact (rJ f y fs).1
  .refine (rJ f y fs).2 g (wi g fun z=>hg ?_);show (if g=f then some u else mA g)=none;rw [if_neg q];exact z
theorem Inv.made(I:Inv X pins Y H s):Inv X pins Y (A0 (A0 H s.heap.objs.size (.own 'i')) 'i' (.ins C s.heap.objs.size []))
  { s with heap:=(s.heap.push aV).push (cK C s.heap.objs.size) }:=by
 have e1:(s.heap.push aV).get? s.heap.objs.size=some aV:=Heap.get?_push_size s.heap rfl;have e2:((s.heap.push aV).push (cK C s.heap.objs.size)).get? 'i'=some (cK C s.heap.objs.size):=by
  have:=Heap.get?_push_size (s.heap.push aV) (o:=cK C s.heap.objs.size) rfl
  rwa [Heap.size_push] at this
 have e3:(s.heap.push aV).Ns s.heap.objs.size (fun _=>none):=⟨aV,#[],_,e1,rfl,(fun e he=>absurd he 'c'),fun _=>rfl⟩
 have I1:=I.laid (a:=s.heap.objs.size) (o:=.own 'i') (h':=s.heap.push aV) (t':=s.toks) (fun b u q=>Heap.get?_push_of_some _ q) (C3 _) ⟨_,e1⟩;refine I1.laid (a:=s.heap.objs.size+1) (o:=.ins C s.heap.objs.size []) (t':=s.toks) (fun b u q=>Heap.get?_push_of_some _ q) (Nat.le_of_eq (Heap.size_push _ _)) ?_;have ne:s.heap.objs.size≠s.heap.objs.size+1:=J4 (Nat.lt_succ_self _);refine ⟨by rw [A4 ne,A1],J0 _,ne,e2,fun _=>none,(Heap.Ns1.of_empty e3).at fun o q=>Heap.get?_push_of_some _ q,fun _=>True.intro,fun y hy=>absurd rfl hy⟩
theorem zC{prog:Program}{w:World}{env:Env}{e:Expr}{f:Str}{pos:Pos}{s:Shared}{Q:Value->Shared->Prop}(hb:attributeBase e f env (eval e env)=eval e env)(h:wpAny 'd' A (eval e env) (fun o zt=>wpAny 'd' A (getAttr o f true) Q E zt) E s):wpAny 'd' A (eval (.Attribute e f pos) env) Q E s:=
 Attribute_any_ h (by rw [arm_eval_Attribute,hb])
end
noncomputable def tFld (K:PySem.W.Frag) (ta:TE) (f:Str):TE:=fun Y H Q=>ta Y H fun x H1=>∃ a C dx fs v,x=.ref a/\H1 a=some (.ins C dx fs)/\Cls K C/\NoAttr K C f/\fs.lookup f=some v/\Q v H1
noncomputable def sFld (K:PySem.W.Frag) (ta tv:TE) (f:Str):TS:=fun D Y H=>tv Y H fun y H1=>ta Y H1 fun x H2=>∃ a C dx fs,x=.ref a/\H2 a=some (.ins C dx fs)/\Cls K C/\NoAttr K C f/\fs.length<1000/\
 D.nx Y (A0 H2 a (.ins C dx (putF f y fs)))
noncomputable def InOp (X:Cx) (op:Operator) (rd:V->V->Hp->VK->Prop):Prop:=
 ∀ (pins:List (Addr×Obj)) (s:Shared) (Y:St) (H:Hp) (x y:V) (u v:Value) (Q:VK),Inv X pins Y H s->RelV x u->RelV y v->rd x y H Q->wpAny 'a' X.A (inplaceOp op u v) (EP X pins Y Q) X.xe s
section
variable {X:Cx} {o e value:Expr} {f:Str} {pos pos' tpos:Pos} {ta tv:TE}
theorem aoU(he:PE X e ta)(hb:attributeBase e f X.env (eval e X.env)=eval e X.env):PE X (.Attribute e f pos) (tFld X.K ta f):=by
 sleep 1;refine zC hb (B3 (he pins s Y H _ I h) fun u s1 ⟨x,H1,I1,rx,a,C,dx,fs,v,ex,ea,c,n,l,q⟩=>?_);subst ex;obtain rfl:u=Value.ref a:=rx;exact ahW I1 ea c n l fun u' s2 I2 ru=>⟨v,H1,I2,ru,q⟩
theorem aoV(ha:PE X o ta)(hv:PE X value tv)(hs:swapsWith value (some (.Attribute o f pos')) pos.line X.env=pure false):PS X (.Assign [.Attribute o f pos'] value pos) (sFld X.K ta tv f):=by
 intro pins s Y H D I h;refine plainObj_wpAny_Assign_Attribute (B3 (hv pins s Y H _ I h) fun u s1 ⟨y,H1,I1,ry,q⟩=>B3 (ha pins s1 Y H1 _ I1 q) fun ov s2 ⟨x,H2,I2,rx,a,C,dx,fs,ex,ea,c,n,l,q2⟩=>?_) hs;subst ex;obtain rfl:ov=Value.ref a:=rx;exact ahY I2 ea c n l ry fun s3 I3=>⟨Y,_,I3,q2⟩
noncomputable def rAdd:V->V->Hp->VK->Prop:=fun x y H Q=>∃ i j,x=.int i/\y=.int j/\Q (.int (i+j)) H
noncomputable def rSub:V->V->Hp->VK->Prop:=fun x y H Q=>∃ i j,x=.int i/\y=.int j/\Q (.int (i-j)) H
theorem aoW:InOp X .Add rAdd:=by
 rintro pins s Y H x y u v Q I rx ry ⟨i,j,rfl,rfl,q⟩;obtain ⟨t,rfl⟩:=(show ∃ t,u=Value.int i t from rx)
 obtain ⟨t',rfl⟩:=(show ∃ t',v=Value.int j t' from ry)
 exact PyProof.Rows.iadd_int ⟨.int (i+j),H,I.tok _,⟨_,rfl⟩,q⟩
theorem aoX:InOp X .Sub rSub:=by
 rintro pins s Y H x y u v Q I rx ry ⟨i,j,rfl,rfl,q⟩;obtain ⟨t,rfl⟩:=(show ∃ t,u=Value.int i t from rx)
 obtain ⟨t',rfl⟩:=(show ∃ t',v=Value.int j t' from ry)
 exact PyProof.Rows.isub_int ⟨.int (i-j),H,I.tok _,⟨_,rfl⟩,q⟩
end
section
variable {X:Cx} {pins:List (Addr×Obj)} {Y:St} {H:Hp} {s:Shared} {A:Around} {E:Value->Shared->Prop} {Q:Value->Shared->Prop} {c:Value} {b:Bool}
inductive TyOf (K:PySem.W.Frag) (H:Hp):V->Value->Prop where
 | non:TyOf K H .non (.type "NoneType")
 | bl (x:Bool):TyOf K H (.bl x) (.type "bool")
 | int (i:Int):TyOf K H (.int i) (.type "int")
 | str (x:Str):TyOf K H (.str x) (.type "str")
 | flt (x:UInt64):TyOf K H (.flt x) (.type "float")
 | lst {a:Addr} {xs:List V} (e:H a=some (.lst xs)):TyOf K H 'f' (.type "list")
 | frz {a:Addr} {o:Obj} {xs:List V} (e:H a=some (.frz o (.lst xs))):TyOf K H 'f' (.type "list")
 | tup {a:Addr} {xs:List V} (e:H a=some (.tup xs)):TyOf K H 'f' (.type "tuple")
 | dK {a:Addr} {kvs:List (A7×V)} (e:H a=some (.dK kvs)):TyOf K H 'f' (.type "dict")
 | dT {a:Addr} {kvs:List (List A7×V)} (e:H a=some (.dT kvs)):TyOf K H 'f' (.type "dict")
 | ins {a C dx:Addr} {fs:List (Str×V)} (e:H a=some (.ins C dx fs)) (cl:Cls K C) (ha:J8 K (.ref C) "__class__"=some (some (.builtin "object.__class__")))
   (hn:eE K (.builtin "object.__class__") "__get__"=some (some (.builtin "getset_descriptor.__get__"))) (fF:kC K (.builtin "object.__class__")=some true)
   (hm:R6 K C (.type "object")=some true):TyOf K H 'f' (.ref C)
theorem aiL{x:V}{u t:Value}(I:Inv X pins Y H s)(rx:RelV x u)(ty:TyOf X.K H x t)(e:C5 X.K t c=some b)(h:∀ tk,Q (.bool b) { s with toks:=tk }) :
  wpAny 'a' A (call (.builtin "isinstance") [u,c]) Q E s:=by
 cases ty with
 | non=>cases (show u=Value.none from rx);exact j3 PySem.W.kitx_none I.kIn True.intro e (fun z=>nomatch z) h
 | bl y=>cases (show u=Value.bool y from rx);exact j3 PySem.W.kitx_bool I.kIn True.intro e (fun z=>nomatch z) h
 | int i=>obtain ⟨t,q⟩:=(show ∃ t,u=Value.int i t from rx);cases q;exact j3 PySem.W.kitx_int I.kIn True.intro e (fun z=>nomatch z) h
 | str y=>obtain ⟨t,q⟩:=(show ∃ t,u=Value.str y t from rx);cases q;exact j3 PySem.W.kitx_str I.kIn True.intro e (fun z=>nomatch z) h
 | flt y=>obtain ⟨t,q⟩:=(show ∃ t,u=Value.float y t from rx);cases q;exact j3 PySem.W.kitx_float I.kIn True.intro e (fun z=>nomatch z) h
 | @lst a xs ea=>
  cases (show u=Value.ref a from rx)
  obtain ⟨_,_,n,_,h1⟩:=(show ObjOk X.prog X.w H s.heap a (.lst xs) from I.hok a _ ea)
  exact j3 PySem.W.kitx_list I.kIn ⟨_,h1,rfl⟩ e (fun z=>nomatch z) h
 | @frz a ob xs ea=>
  cases (show u=Value.ref a from rx)
  obtain ⟨_,_,_,n,_,h1⟩:=(show ObjOk X.prog X.w H s.heap a (.frz ob (.lst xs)) from I.hok a _ ea)
  exact j3 PySem.W.kitx_list I.kIn ⟨_,h1,rfl⟩ e (fun z=>nomatch z) h
 | @tup a xs ea=>
  cases (show u=Value.ref a from rx)
  obtain ⟨_,_,_,p⟩:=(show ObjOk X.prog X.w H s.heap a (.tup xs) from I.hok a _ ea)
  obtain ⟨o,h1,h2,_⟩:=p;exact j3 PySem.W.kitx_tuple I.kIn ⟨o,h1,h2⟩ e (fun z=>nomatch z) h
 | @dK a kvs ea=>
  cases (show u=Value.ref a from rx)
  obtain ⟨_,_,vs,_,p⟩:=(show ObjOk X.prog X.w H s.heap a (.dK kvs) from I.hok a _ ea)
  obtain ⟨o,es,ep,h1,h2,_⟩:=p;exact j3 PySem.W.kitx_dict I.kIn ⟨o,h1,h2.1⟩ e (fun z=>nomatch z) h
 | @dT a kvs ea=>
  cases (show u=Value.ref a from rx)
  obtain ⟨_,_,xs,_,o,es,ep,h1,h2,_⟩:=(show ObjOk X.prog X.w H s.heap a (.dT kvs) from I.hok a _ ea)
  exact j3 PySem.W.kitx_dict I.kIn ⟨o,h1,h2.1⟩ e (fun z=>nomatch z) h
 | @ins a C dx fs ea cl ha hn fF hm=>
  cases (show u=Value.ref a from rx)
  obtain ⟨mA,O,_⟩:=nU I.hok ea;obtain ⟨od,J,_⟩:=O.look;exact j3 (PySem.W.kitx_own (cl.get _) cl.hd ha hn fF hm) I.kIn J e (fun z=>nomatch z) h
end
structure Room(k:Nat)(A:Around):Prop where
 hd:A.handled=none
 dp:A.depth+3*k+5<recursionLimit
 un:A.units+16*k+200<cLine
 gd:A.guards=some []
theorem Room.mono{j k:Nat}{A:Around}(r:Room k A)(h:j<=k):Room j A:=⟨r.hd,by have:=r.dp;lia,by have:=r.un;lia,r.gd⟩
theorem Room.deeper{k:Nat}{A:Around}(r:Room (k+1) A)(env:Env):Room k (A.deeper env):=
 ⟨r.hd,by have:=r.dp;show A.depth+1+3*k+5<_;lia,by have:=r.un;show A.units+3+16*k+200<_;lia,r.gd⟩
theorem ahZ{A:Around}{C:Addr}{us:List Value}{kw:List (Str×Value)} : (A.under (.builtin "type.__call__" ⟨.ref C::us,kw⟩)).depth=A.depth+1:=by
 first | rfl | simp [Around.under,Code.weight,Code.isCreation,Code.isGuard,Code.isCaller,Code.frames,Code.isFrame,guardIds]
theorem ah0{A:Around}{C:Addr}{us:List Value}{kw:List (Str×Value)} : (A.under (.builtin "type.__call__" ⟨.ref C::us,kw⟩)).units=A.units+1:=by
 first | rfl | simp [Around.under,Code.cUnits,Code.frames,Code.isFrame]
theorem Room.make{k:Nat}{A:Around}(r:Room (k+1) A)(C:Addr)(us:List Value)(kw:List (Str×Value)):Room k (A.under (.builtin "type.__call__" ⟨.ref C::us,kw⟩)):=
 ⟨r.hd,by have:=r.dp;rw [ahZ];lia,by have:=r.un;rw [ah0];lia,r.gd⟩
theorem Room.depth{k:Nat}{A:Around}(r:Room k A):A.depth<recursionLimit:=by have:=r.dp;lia
theorem Room.units{k:Nat}{A:Around}(r:Room k A):A.units+64<cLine:=by have:=r.un;lia
noncomputable def tNil:TA:=fun _ H Q=>Q [] H
noncomputable def tCons (ta:TE) (tr:TA):TA:=fun Y H Q=>ta Y H fun x H1=>tr Y H1 fun xs H2=>Q (x::xs) H2
section
variable {X:Cx} {e:Expr} {es:List Expr} {te:TE} {t:TA} {pos:Pos}
theorem aoY:PA X [] tNil:=fun _ _ _ _ H Q I h=>Calls.spliced_nil ⟨[],H,I,.nil,h⟩
theorem amO(ha:PE X e te)(hr:PA X es t)(hs:starEach (e::es) X.env=(false,eval e X.env)::starEach es X.env:=by rfl):PA X (e::es) (tCons te t):=by
 intro pos pins s Y H Q I h;rw [hs];show wpAny _ _ (spliced ((false,eval e X.env)::backTo pos (starEach es X.env))) _ _ s;refine Calls.spliced_cons (B3 (ha pins s Y H _ I h) fun u s1 ⟨x,H1,I1,r1,q1⟩=>?_);exact B3 (hr pos pins s1 Y H1 _ I1 q1) fun us s2 ⟨xs,H2,I2,r2,q2⟩=>⟨x::xs,H2,I2,.cons r1 r2,q2⟩
noncomputable def tTup (t:TA):TE:=fun Y H Q=>t Y H fun xs H1=>xs.length<=sizeLine/\∀ p,H1 p=none->Q (.ref p) (A0 H1 p (.tup xs))
noncomputable def tLst (t:TA):TE:=fun Y H Q=>t Y H fun xs H1=>xs.length<=sizeLine/\∀ p,H1 p=none->Q (.ref p) (A0 H1 p (.lst xs))
theorem aoZ{x1}(h:PA X es t):PE X (.Tuple es x1 pos) (tTup t):=by
 intro pins s Y H Q I hq;refine wpAny_Tuple_spliced (B3 (h pos pins s Y H _ I hq) fun us s1 ⟨xs,H1,I1,r,z,q⟩=>⟨by rw [<- r.length];exact z,?_⟩);have hf:H1 s1.heap.objs.size=none:=I1.hok.fresh (C3 _);refine ⟨.ref s1.heap.objs.size,A0 H1 s1.heap.objs.size (.tup xs),I1.laid (t':=s1.toks) (fun b u e=>Heap.get?_push_of_some _ e) (C3 _) ?_,rfl,q _ hf⟩;exact ⟨z,us,r,⟨_,Heap.get?_push_size _ rfl,rfl,_,rfl⟩⟩
theorem ao0(h:PA X es t):PE X (.List es pos) (tLst t):=by
 intro pins s Y H Q I hq;refine wpAny_List_spliced (B3 (h pos pins s Y H _ I hq) fun us s1 ⟨xs,H1,I1,r,z,q⟩=>⟨by rw [<- r.length];exact z,?_⟩);have hf:H1 s1.heap.objs.size=none:=I1.hok.fresh (C3 _);refine ⟨.ref s1.heap.objs.size,A0 H1 s1.heap.objs.size (.lst xs),I1.laid (t':=s1.toks) (fun b u e=>Heap.get?_push_of_some _ e) (C3 _) ?_,rfl,q _ hf⟩;exact ⟨z,us,0,r,Heap.get?_push_size _ rfl⟩
end
noncomputable abbrev Sp:=List V->Hp->VK->XK->Prop
noncomputable abbrev Y8:=List Env->Hp->Shared->XK->Value->Shared->Prop
structure Env0(P:Program)(w:World)(K:PySem.W.Frag)(mg:Str->Option Value)(base:Heap)(A:Around)(outer:List Env)(s:Shared)(H:Hp):Prop where
 frames:A.frames=some outer
 mod:Mod K mg base
 bs:∀ b o,base.get? b=some o->s.heap.get? b=some o/\H b=none
 bsz:base.objs.size<=s.heap.objs.size
 funs:s.heap.FunFrames base outer
 frf:∀ b∈Q8 outer,H b=none
 hok:L9 P w H s.heap
 bare:AllBare s.gens
noncomputable def CE (outer:List Env) (P:Program) (w:World) (H:Hp) (s:Shared) (Q:VK) (u:Value) (s':Shared):Prop:=
 ∃ v H',s'.os=s.os/\AllBare s'.gens/\Un (Q8 outer) [] H H' s.heap s'.heap/\L9 P w H' s'.heap/\RelV v u/\Q v H'
noncomputable def CR (CX:Y8) (outer:List Env) (P:Program) (w:World) (H:Hp) (s:Shared) (Q:VK) (E:XK) (r:Result) (s':Shared):Prop:=
 match r with
 | .ok (.ret u)=>CE outer P w H s Q u s'
 | .ok _=>False
 | .error e=>CX outer H s E e s'
structure FnOk(P:Program)(w:World)(K:PySem.W.Frag)(mg:Str->Option Value)(base:Heap)(CX:Y8)(k:Nat)(f:Addr)(fd:FuncData)(ps:List Str)(sp:Sp):Prop where
 len:∀ vs H Q E,sp vs H Q E->vs.length=ps.length
 run:∀ (A:Around) (outer:List Env) (s:Shared) (H:Hp) (args:Args) (us:List Value) (vs:List V) (Q:VK) (E:XK),Room k A->Env0 P w K mg base A outer s H->BindsTo s fd args (ps.zip us)->Vals vs us->sp vs H Q E->
  codeAny (model P w) A (.call (.ref f) args) (CR CX outer P w H s Q E) s
theorem Env0.make{P:Program}{w:World}{K:PySem.W.Frag}{mg:Str->Option Value}{base:Heap}{A:Around}{outer:List Env}{s:Shared}{H:Hp}(e:Env0 P w K mg base A outer s H)(C:Addr)(us:List Value)(kw:List (Str×Value)) :
  Env0 P w K mg base (A.under (.builtin "type.__call__" ⟨.ref C::us,kw⟩)) outer s H:=⟨by first | exact e.frames | (simpa [Around.under,Code.envs,Code.isFrame,pushEnvs] using e.frames),e.mod,e.bs,e.bsz,e.funs,e.frf,e.hok,e.bare⟩
section
variable {X:Cx} {pins:List (Addr×Obj)} {Y:St} {H:Hp} {s s':Shared}
theorem Inv.env0(I:Inv X pins Y H s):Env0 X.prog X.w X.K X.mg X.base X.A X.stack s H:=
 ⟨I.ok.frames,I.ok.mod,I.bs,D5 I.ok.bsz I.sz,I.stack,I.stkFree,I.hok,I.bare⟩
theorem Inv.after{Q:VK}{u:Value}(I:Inv X pins Y H s)(h:CE X.stack X.prog X.w H s Q u s'):EP X pins Y Q u s':=by
 obtain ⟨v,H',os,bare,un,hok,r,q⟩:=h;obtain ⟨hh,g,d,t,os'⟩:=s';obtain rfl:os'=s.os:=os;exact ⟨v,H',I.call (h':=hh) (g':=g) (d':=d) (t':=t) (ch:=[]) un hok bare (fun b z=>absurd z 'c'),r,q⟩
end
noncomputable def tCall (sp:Sp) (dvs:List V) (E:XK) (t:TA):TE:=fun Y H Q=>t Y H fun vs H1=>sp (vs++dvs) H1 Q E
noncomputable def tMeth (C:Addr) (m:Str) (sp:Sp) (dvs:List V) (E:XK) (ta:TE) (t:TA):TE:=fun Y H Q=>ta Y H fun x H1=>∃ a dx fs,x=.ref a/\H1 a=some (.ins C dx fs)/\fs.lookup m=none/\
 t Y H1 fun vs H2=>sp (x::(vs++dvs)) H2 Q E
noncomputable def tMake (C:Addr) (sp:Sp) (dvs:List V) (E:XK) (t:TA):TE:=fun Y H Q=>t Y H fun vs H1=>∀ x dx,H1 x=none->H1 dx=none->dx≠x->
 sp (.ref x::(vs++dvs)) (A0 (A0 H1 dx (.own x)) x (.ins C dx [])) (fun v H2=>v=.non/\Q (.ref x) H2) E
noncomputable def Binds (K:PySem.W.Frag) (fd:FuncData) (ps:List Str) (ds:List Value):Prop:=
 ∀ (s:Shared) (us:List Value),K.In s.heap->(us++ds).length=ps.length->BindsTo s fd ⟨us,[]⟩ (ps.zip (us++ds))
theorem Binds.all{K:PySem.W.Frag}{fd:FuncData}{ps:List Str}(h:∀ us:List Value,us.length=ps.length->bindArgs fd ⟨us,[]⟩=pure (ps.zip us)):Binds K fd ps []:=fun s us _ hl=>by
 rw [K7] at hl ⊢
 exact .of_eq (h us hl)
noncomputable def gW (CX:Y8) (X:Cx) (E:XK):Prop:=∀ (pins:List (Addr×Obj)) (Y:St) (H:Hp) (s:Shared) (e:Value) (s':Shared),Inv X pins Y H s->CX X.stack H s E e s'->X.xe e s'
section
variable {X:Cx} {CX:Y8} {k:Nat} {f C:Addr} {fd:FuncData} {ps:List Str} {sp:Sp} {dvs:List V} {ds:List Value} {E:XK} {x m:Str} {p pos apos:Pos} {e o:Expr} {es:List Expr} {ta:TE} {t:TA}
theorem zD{pins:List (Addr×Obj)}{Y:St}{H:Hp}{s:Shared}{Q:VK}{us:List Value}{vs:List V}(F:FnOk X.prog X.w X.K X.mg X.base CX k f fd ps sp)(hr:Room k X.A)(hb:Binds X.K fd ps ds)(hd:Vals dvs ds)(hx:gW CX X E)(I:Inv X pins Y H s)(r:Vals vs us)(h:sp (vs++dvs) H Q E):wpAny 'a' X.A (call (.ref f) us) (EP X pins Y Q) X.xe s:=by
 have r2:Vals (vs++dvs) (us++ds):=r.append hd;have hl:(us++ds).length=ps.length:=by rw [<- r2.length];exact F.len _ _ _ _ h
 refine wpAny_call (codeAny_mono (F.run X.A X.stack s H ⟨us,[]⟩ (us++ds) (vs++dvs) Q E hr I.env0 (hb s us I.kIn hl) r2 h) fun r s' hq=>?_)
 cases r with
 | error e=>exact hx pins Y H s e s' I hq
 | ok fl=>
  cases fl with
  | ret u=>exact I.after hq
  | next=>exact False.elim hq
  | brk=>exact False.elim hq
  | cont=>exact False.elim hq
theorem zE(F:FnOk X.prog X.w X.K X.mg X.base CX k f fd ps sp)(hr:Room k X.A)(hg:Gl X x)(hm:X.mg x=some (.ref f))(hk:O8 X.K (.ref f)=true)(hb:Binds X.K fd ps ds)(hd:Vals dvs ds)(hx:gW CX X E)(ha:PA X (e::es) t)(N2:(x==("__debug__" : Str))=false:=by decide)(he:starEach (e::es) X.env=(false,eval e X.env)::starEach es X.env:=by rfl)(V5:(backTo pos (starEach es X.env)).any (·.1)=false:=by rfl) :
  PE X (.Call (.Name x p) (e::es) [] pos) (tCall sp dvs E t):=by
 sleep 1;refine wpAny_Call_Name_kw (gP I hg hm ?_ N2);refine PySem.W.callWith_K (h₀:=X.base) I.ok.mod.kin hk (B3 (ha pos pins s Y H _ I h) fun us s1 ⟨vs,H1,I1,r,q⟩=>⟨I1.kIn,?_⟩) he V5;exact zD F hr hb hd hx I1 r q
theorem akx{pl:Sem Bool}(he:PE X o ta)(c:Cls X.K C)(hm:Meth X.K C m f)(F:FnOk X.prog X.w X.K X.mg X.base CX k f fd ps sp)(hr:Room k X.A)(hb:Binds X.K fd ps ds)(hd:Vals dvs ds)(hx:gW CX X E)(ht:eval (.Call (.Attribute o m apos) [] [] pos) X.env=(do
   let ov <- eval o X.env
   standAt apos.atName
   let (f,first) <- holding [ov] (getMethod ov m pl)
   callWith pos f first (backTo pos (starEach [] X.env)) (backToKw pos (keywordEach [] X.env))):=by rfl) :
  PE X (.Call (.Attribute o m apos) [] [] pos) (tMeth C m sp dvs E ta tNil):=by
 sleep 1;refine PySem.W.methodCall_KW (pl:=pl) (B3 (he pins s Y H _ I h) fun u s1 ⟨x,H1,I1,rx,a,dx,fs,ex,ea,l,q⟩=>?_) ht;subst ex;obtain rfl:u=Value.ref a:=rx;refine ahX I1 ea c hm l ?_;exact PySem.W.callWith_K0 (first:=[.ref a]) I1.kIn hm.kp (zD (us:=[.ref a]) (vs:=[.ref a]) F hr hb hd hx I1 (.cons rfl .nil) q)
structure Mk(K:PySem.W.Frag)(C f:Addr):Prop where
 makes:PySem.W.makesIn K C=true
 init:J8 K (.ref C) "__init__"=some (some (.ref f))
 fn:y1 K (.ref f)=true
 kp:O8 K (.ref C)=true
end
noncomputable def PK (X:Cx) (kws:List Keyword) (t:TA):Prop:=
 ∀ (pos:Pos) (pins:List (Addr×Obj)) (s:Shared) (Y:St) (H:Hp) (Q:List V->Hp->Prop),Inv X pins Y H s->t Y H Q->wpAny 'a' X.A (evalAll ((backToKw pos (keywordEach kws X.env)).map (·.2))) (AP X pins Y Q) X.xe s
section
variable {X:Cx} {CX:Y8} {k:Nat} {f C:Addr} {fd:FuncData} {ps ks:List Str} {sp:Sp} {E:XK} {x m:Str} {p pos apos kpos:Pos} {e o:Expr} {es:List Expr} {kws:List Keyword} {te ta:TE} {t tk:TA} {nm:Option Str}
theorem ao1:PK X [] tNil:=fun _ _ _ _ H Q I h=>wpAny_evalAll_nil ⟨[],H,I,.nil,h⟩
theorem amP(ha:PE X e te)(hr:PK X kws t):PK X (⟨nm,e,kpos⟩::kws) (tCons te t):=by
 intro pos pins s Y H Q I h;show wpAny _ _ (evalAll ((do let v <- eval e X.env;standAt pos;pure v)::(backToKw pos (keywordEach kws X.env)).map (·.2))) _ _ s;refine wpAny_evalAll_cons (wpAny_bind (B3 (ha pins s Y H _ I h) fun u s1 ⟨x,H1,I1,r1,q1⟩=>wpAny_bind (wpAny_standAt (wpAny_pure ?_))));exact B3 (hr pos pins s1 Y H1 _ I1 q1) fun us s2 ⟨xs,H2,I2,r2,q2⟩=>⟨x::xs,H2,I2,.cons r1 r2,q2⟩
variable {g:List Value->List Value->List Value} {gV:List V->List V->List V}
end
structure FnScope(N P:List Str)(sc:Scope):Prop where
 kind:sc.kind=.function
 co:sc.isCoroutine=false
 gen:sc.isGenerator=false
 nd:N.Nodup
 pre:N.take P.length=P
 par:∀ x∈P,sc.names.lookup x=some .local\/sc.names.lookup x=some .cell
 nofree:∀ y∈sc.names,y.2≠.free
theorem zF{kindOf:Str->Option NameKind}{x:Str} : ∀ {binds:List (Str×Value)} {m:Str->Option Value},(∀ v,(x,v)∉binds)->bindL kindOf binds m x=m x
 | [],_,_=>rfl
 | (n,v)::r,m,h=>by
  unfold bindL;rw [zF fun w hw=>h w (L8 _ hw)]
  split
  .have:x≠n:=by rintro rfl;exact h v K5
   simp [this]
  .rfl
theorem zG{kindOf:Str->Option NameKind}{x:Str} : ∀ {binds:List (Str×Value)} {m:Str->Option Value},(∀ v,(x,v)∉binds)->bindC kindOf binds m x=m x
 | [],_,_=>rfl
 | (n,v)::r,m,h=>by
  unfold bindC;rw [zG fun w hw=>h w (L8 _ hw)]
  split
  .rfl
  .have:x≠n:=by rintro rfl;exact h v K5
   simp [this]
theorem zH{kindOf:Str->Option NameKind}{x:Str}{v:Value} : ∀ {P:List Str} {vs:List Value} {i:Nat} {m:Str->Option Value},P.Nodup->P[i]?=some x->vs[i]?=some v->kindOf x=some .local->
  bindL kindOf (P.zip vs) m x=some v
 | [],_,_,_,_,h,_,_=>by simp at h
 | _::_,[],_,_,_,_,h,_=>by simp at h
 | p::P,w::vs,0,m,nd,h1,h2,hk=>by
  simp at h1 h2;subst h1;subst h2;show bindL kindOf ((p,w)::P.zip vs) m p=_;unfold bindL;rw [zF fun v hv=>(Y0.mp nd).1 (List.of_mem_zip hv).1,if_pos hk]
  simp
 | p::P,w::vs,i+1,m,nd,h1,h2,hk=>by
  show bindL kindOf ((p,w)::P.zip vs) m x=_;unfold bindL;exact zH (i:=i) (Y0.mp nd).2 (by simpa using h1) (by simpa using h2) hk
theorem zI{kindOf:Str->Option NameKind}{x:Str}{v:Value} : ∀ {P:List Str} {vs:List Value} {i:Nat} {m:Str->Option Value},P.Nodup->P[i]?=some x->vs[i]?=some v->kindOf x≠some .local->
  bindC kindOf (P.zip vs) m x=some v
 | [],_,_,_,_,h,_,_=>by simp at h
 | _::_,[],_,_,_,_,h,_=>by simp at h
 | p::P,w::vs,0,m,nd,h1,h2,hk=>by
  simp at h1 h2;subst h1;subst h2;show bindC kindOf ((p,w)::P.zip vs) m p=_;unfold bindC;rw [zG fun v hv=>(Y0.mp nd).1 (List.of_mem_zip hv).1,if_neg hk]
  simp
 | p::P,w::vs,i+1,m,nd,h1,h2,hk=>by
  show bindC kindOf ((p,w)::P.zip vs) m x=_;unfold bindC;exact zI (i:=i) (Y0.mp nd).2 (by simpa using h1) (by simpa using h2) hk
noncomputable def start (N:List Str) (vs:List V):St:=vs.map some++J2 (N.length-vs.length) none
noncomputable def cxOf (CX:Y8) (P:Program) (w:World) (K:PySem.W.Frag) (mg:Str->Option Value) (base:Heap) (N:List Str) (qual:Str) (scope:Scope) (f:Addr) (cd:Value) (A:Around) (outer:List Env) (s:Shared) (H:Hp) (E:XK):Cx where
 prog:=P
 w:=w
 K:=K
 mg:=mg
 base:=base
 A:=A.deeper (envOfC qual scope s.heap.objs.size f cd)
 N:=N
 s₀:=s
 H₀:=H
 env:=envOfC qual scope s.heap.objs.size f cd
 outer:=outer
 stack:=envOfC qual scope s.heap.objs.size f cd::outer
 ex:=[]
 calm:=true
 fn:=fun _=>true
 pn:=[]
 xe:=fun e s'=>wpAny (model P w) (A.deeper (envOfC qual scope s.heap.objs.size f cd)) (leaving (envOfC qual scope s.heap.objs.size f cd) e) (fun _ s''=>CX outer H s E e s'') (fun e' s''=>CX outer H s E e' s'') s'
theorem zJ{sc:Scope}{n:Nat}{x:Str}(h:sc.names.lookup x=some .cell):∃ c,(cellsFrom n sc.names []).lookup x=some c:=by
 have q:=PySem.W.cellsFrom_some sc.names n [] (.inl h);exact Option.isSome_iff_exists.mp q
theorem aiN{CX:Y8}{P:Program}{w:World}{K:PySem.W.Frag}{mg:Str->Option Value}{base:Heap}{N ps:List Str}{qual:Str}{scope:Scope}{f:Addr}{cd:Value}{A:Around}{outer:List Env}{s s1:Shared}{H:Hp}{E:XK}{us:List Value}{vs:List V}(S:FnScope N ps scope)(hd:A.handled=none)(e0:Env0 P w K mg base A outer s H)(hl:vs.length=ps.length)(r:Vals vs us)(x:InCallC s s.heap.objs.size (bindL (envOfC qual scope s.heap.objs.size f cd).kindOf (ps.zip us) fun _=>none) (cellsFrom 'i' scope.names []) (bindC (envOfC qual scope s.heap.objs.size f cd).kindOf (ps.zip us) fun _=>none) s1) :
  Inv (cxOf CX P w K mg base N qual scope f cd A outer s H E) [] (start N vs) H s1:=by
 have V5:ps.length<=N.length:=by have:=congrArg List.length S.pre;rw [K6] at this;lia
 obtain ⟨h1,tk,rfl,hk⟩:=x.done;have noA:∀ b:Addr,b∉(cxOf CX P w K mg base N qual scope f cd A outer s H E).ex:=fun b z=>absurd (show b∈([]:List Addr) from z) 'c'
 refine ⟨⟨e0.mod,S.kind,rfl,rfl,C3 _,fun y z c h1 h2=>?_,fun y hy=>?_,fun y c _ h=>?_,fun _=>hd,Around.frames_deeper e0.frames,.inr ⟨rfl,rfl⟩,fun b z=>absurd z (noA b),e0.bs,e0.bsz,fun b _ _=>noA b,fun b z=>absurd z (noA b),e0.funs,e0.frf⟩,
  rfl,e0.bare,Un.kept hk,⟨_,x.toInCall.ns,fun i y v h1 h2 h3=>?_⟩,fun y c h=>⟨_,x.cell y c h⟩,e0.hok.fresh (C3 _),fun y c h=>?_,fun p hp=>absurd (show p∈([]:List (Addr×Obj)) from hp) 'c',e0.hok.kept hk,?_⟩
 .exact name_of_addr x.apart (PySem.mem_of_lookup h1) (PySem.mem_of_lookup h2)
 .have hy:scope.names.lookup y=some .cell\/scope.names.lookup y=some .free:=hy
  rcases hy with hy | hy
  .exact zJ hy
  .exact absurd rfl (S.nofree _ (PySem.mem_of_lookup hy))
 .exact Nat.le_of_lt (x.above y c (PySem.mem_of_lookup h))
 .have hi:i<vs.length:=by
   unfold start at h2
   by_cases hi:i<vs.length
   .exact hi
   .rw [jU (by simpa using hi)] at h2;rw [List.getElem?_replicate] at h2
    split at h2 <;> cases h2
  have ha:vs[i]?=some v:=by
   unfold start at h2;rw [jV (by simpa using hi),P1] at h2;cases e:vs[i]? with
   | none=>rw [e] at h2;cases h2
   | some a=>rw [e] at h2;cases h2;rfl
  obtain ⟨u,hu,rv⟩:=r.get ha;have hp:ps[i]?=some y:=by
   rw [<- S.pre,List.getElem?_take_of_lt 'b'];exact h1
  have ndP:ps.Nodup:=by rw [<- S.pre];exact S.nd.sublist (List.take_sublist _ _)
  refine ⟨u,rv,?_⟩
  rcases S.par y (L7 hp) with k | k
  .exact .inl ⟨k,zH ndP hp hu k⟩
  .obtain ⟨c,e⟩:=zJ (n:=s.heap.objs.size+1) k;refine .inr ⟨.inl k,c,e,?_⟩;have q:=x.cell y c e;rw [zI ndP hp hu (by show scope.names.lookup y≠_;rw [k];decide)] at q;exact q
 .exact e0.hok.fresh (Nat.le_of_lt (x.above y c (PySem.mem_of_lookup h)))
 .unfold start;show _=N.length;rw [D4,A3,List.length_replicate];lia
theorem fn_of{CX:Y8}{P:Program}{w:World}{K:PySem.W.Frag}{mg:Str->Option Value}{base:Heap}{k:Nat}{f:Addr}{name qual:Str}{params:Arguments}{body:List Stmt}{scope:Scope}{dV kV doc pm cdv ct oc:Value}{an od:Option Addr}{osl:Array (Option Value)}{N ps:List Str}{sp:Sp}(lk:K.lookup f=some ⟨oc,od,.func (P7 name qual params body scope dV kV doc pm an cdv ct),osl⟩)(T3:U8 K cdv qual=true)(S:FnScope N ps scope)(len:∀ vs H Q E,sp vs H Q E->vs.length=ps.length)(V6:∀ (A:Around) (outer:List Env) (s:Shared) (H:Hp) (vs:List V) (Q:VK) (E:XK),Room k (A.deeper (envOfC qual scope s.heap.objs.size f cdv))->sp vs H Q E->
   ∃ t,W5 (cxOf CX P w K mg base N qual scope f cdv A outer s H E) body t/\t { nx:=fun _ H'=>Q .non H',rt:=Q } (start N vs) H) :
  FnOk P w K mg base CX (k+1) f (P7 name qual params body scope dV kV doc pm an cdv ct) ps sp:=by
 refine ⟨len,fun A outer s H args us vs Q E hr e0 hb r aE=>?_⟩;have hl:=len _ _ _ _ aE;have KX:K.In s.heap:=e0.mod.kin.keeps fun b o e=>(e0.bs b o e).1
 have lim:s.heap.NoLimit:=e0.mod.nolimit.keeps fun b o e=>(e0.bs b o e).1
 have lM:∀ y∈ps.zip us,scope.names.lookup y.1=some .local\/(scope.names.lookup y.1=some .cell/\((cellsFrom 'i' scope.names []).lookup y.1).isSome=true):=fun ⟨n,v⟩ hy=>by
  rcases S.par n (List.of_mem_zip hy).1 with q | q
  .exact .inl q
  .exact .inr ⟨q,PySem.W.cellsFrom_some _ _ _ (.inl q)⟩
 refine codeAny_call_function hr.depth (KX _ _ lk) rfl S.co S.gen rfl (PySem.W.codeRec_of KX T3) (hb _ _ _ _ ?_);refine wpAny_newFunctionEnv_cells S.kind lM fun env he s1 x=>?_
 subst he;refine ⟨lim.keeps x.toInCall.keep,codeAny_func ?_⟩;obtain ⟨t,ht,hq⟩:=V6 A outer s H vs Q E (hr.deeper _) aE;have I:Inv (cxOf CX P w K mg base N qual scope f cdv A outer s H E) [] (start N vs) H s1:=aiN S hr.hd e0 hl r x;refine wpAny_mono (ht [] s1 (start N vs) H _ I hq) (fun fl s' hs=>?_) fun e s' hs=>hs
 have fin:∀ {σ':St} {H':Hp} {v:V} {u:Value},Inv (cxOf CX P w K mg base N qual scope f cdv A outer s H E) [] σ' H' s'->RelV v u->Q v H'->CE outer P w H s Q u s':=
  fun {σ' H' v u} J rv q=>⟨v,H',J.os,J.bare,J.base,J.hok,rv,q⟩
 cases fl with
 | ret u=>
  obtain ⟨v,σ',H',J,rv,q⟩:=hs;exact fin J rv q
 | next=>
  obtain ⟨σ',H',J,q⟩:=hs;exact fin (v:=V.non) (u:=Value.none) J rfl q
 | brk=>
  obtain ⟨_,_,_,q⟩:=hs;exact False.elim q
 | cont=>
  obtain ⟨_,_,_,q⟩:=hs;exact False.elim q
end L2
section
variable {C T a b dx f fa it p r t0:PySem.Addr}{dvs vs xs ys:List L2.V}{Q:L2.VK}{cd ct oc pm u v vl vu:PySem.Value}{ck ep i j k lo m n sl t' x1:Nat}{items:Array PySem.Value}{fr ns:List Int}{bmB its us:List PySem.Value}{A:PySem.Around}{s s' zu:PySem.Shared}{y:L2.V}{fld name q qual x y0 z:PySem.Str}{pins:List (PySem.Addr×PySem.Obj)}{Y:L2.St}{H H' H0 H1 H2 H3 zr:L2.Hp}{h h' h2:PySem.Heap}{L M N N' S U acc bad cs X4 g' ks loose ps ts ws zs:List PySem.Str}{K:PySem.W.Frag}{mg:PySem.Str->Option PySem.Value}{fd:PySem.FuncData}{sp:L2.Sp}{X:L2.Cx}{kvs:List (L2.A7×L2.V)}{prog:PySem.Program}{ixs:List Nat}{e elt target tg:PySem.Expr}{elts es ifs:List PySem.Expr}{g:L2.TG}{c:L2.TT}{te tl:L2.TE}{fp zx rs:List PySem.Addr}{apos cpos kpos pos' spos tpos:PySem.Pos}{calm neg o:Bool}{st:PySem.Stmt}{an od:Option PySem.Addr}{tb:L2.TS}{D:L2.Ends}{ta:L2.TA}{ss:Array (Option PySem.Value)}{mo:Int}
namespace L2
open PySem PySem.Spec PyProof.Rows
section
variable {X:Cx} {x:Str} {p pos:Pos} {e:Expr} {es:List Expr} {t:TA} {id T:String} {r:List V->Hp->VK->Prop}
noncomputable def eJ (r:List V->Hp->VK->Prop) (t:TA):TE:=fun Y H Q=>t Y H fun vs H1=>r vs H1 Q
theorem aky(hc:CallR X (.builtin id) r)(hg:Gl X x)(hm:X.mg x=none)(hv:bootBuiltins x=some (.builtin id))(ha:PA X (e::es) t)(hn:x≠"__name__":=by decide)(N2:(x==("__debug__" : Str))=false:=by decide)(he:starEach (e::es) X.env=(false,eval e X.env)::starEach es X.env:=by rfl)(V5:(backTo pos (starEach es X.env)).any (·.1)=false:=by rfl):PE X (.Call (.Name x p) (e::es) [] pos) (eJ r t):=by
 sleep 1;refine wpAny_Call_Name_kw (cQ I hg hm hv ?_ hn N2);exact PyProof.Rows.callWith_builtin1 (B3 (ha pos pins s Y H _ I h) fun us s1 ⟨vs,H1,I1,r1,q1⟩=>hc pins s1 Y H1 vs us Q I1 r1 q1) he V5
theorem aiO(hc:CallR X (.type T) r)(hg:Gl X x)(hm:X.mg x=none)(hv:bootBuiltins x=some (.type T))(ha:PA X (e::es) t)(hn:x≠"__name__":=by decide)(N2:(x==("__debug__" : Str))=false:=by decide)(he:starEach (e::es) X.env=(false,eval e X.env)::starEach es X.env:=by rfl)(V5:(backTo pos (starEach es X.env)).any (·.1)=false:=by rfl):PE X (.Call (.Name x p) (e::es) [] pos) (eJ r t):=by
 sleep 1;refine wpAny_Call_Name_kw (cQ I hg hm hv ?_ hn N2);exact PyProof.Rows.callWith_type1 (B3 (ha pos pins s Y H _ I h) fun us s1 ⟨vs,H1,I1,r1,q1⟩=>hc pins s1 Y H1 vs us Q I1 r1 q1) he V5
end
end L2
namespace HT
open PySem PyProof.Rows
section
variable {prog:Program} {w:World} {A:Around} {E:Value->Shared->Prop} {s:Shared}
theorem cat_tup{t:Addr}{vs ws:List Value}{Q:Value->Shared->Prop}(ht:IsTup s.heap t vs.toArray)(hb:IsTup s.heap b ws.toArray)(hv:vs≠[])(h1:ws=[]->Q (.ref t) s)(h2:ws≠[]->Q (.ref s.heap.objs.size) { s with heap:=s.heap.push { cls:=.type "tuple",data:=.seq (vs++ws).toArray } })(hsz:vs.length+ws.length<=sizeLine):wpAny 'd' A (binaryOp .Add (.ref t) (.ref b)) Q E s:=by
 obtain ⟨⟨cls,dd,data,sl⟩,ho,hc,n,hd⟩:=id ht;obtain ⟨⟨cls2,dd2,data2,kH⟩,pX,bK,n2,X5⟩:=id hb;simp only at hc hd bK X5;subst hc hd bK X5;have e:vs.toArray++ws.toArray=(vs++ws).toArray:=by simp
 by_cases hw:ws=[]
 .exact concat_meets ⟨_,ho,rfl⟩ ⟨_,pX,rfl⟩ noFill_tuple_add seq_tuple_add PySem.F.slot_tuple_add PySem.F.entry_tuple_add (PySem.F.args_tuple_add_2 _ _)
   (tuple_addW1 t b vs.toArray ws.toArray n n2 dd dd2 sl kH (by simpa using hv) (by simp [hw])) ⟨ho,pX,h1 hw⟩
 .refine concat_meets ⟨_,ho,rfl⟩ ⟨_,pX,rfl⟩ noFill_tuple_add seq_tuple_add PySem.F.slot_tuple_add PySem.F.entry_tuple_add (PySem.F.args_tuple_add_2 _ _)
   (tuple_addW2 t b vs.toArray ws.toArray n n2 dd dd2 sl kH (by simpa using hv) (by simpa using hw) (by rw [K3,K3];exact hsz)) ⟨ho,pX,?_⟩
  rw [e];exact h2 hw
noncomputable def sIx (n d:Nat):Option Int->Nat
 | none=>d
 | some v=>if v<0 then (v+(n:Int)).toNat else min v.toNat n
theorem sIx_nat(n d k:Nat):sIx n d (some (k:Int))=min k n:=by
 show (if (k:Int)<0 then ((k:Int)+(n:Int)).toNat else min (k:Int).toNat n)=min k n;rw [if_neg 'b',gL]
theorem sIx_le(n d:Nat)(hd:d<=n)(o:Option Int):sIx n d o<=n:=by
 cases o with
 | none=>exact hd
 | some v=>
  show (if v<0 then (v+(n:Int)).toNat else min v.toNat n)<=n
  by_cases hv:v<0
  .rw [if_pos hv];lia
  .rw [if_neg hv];exact Nat.min_le_right _ _
theorem clip_eq(v:Int)(n d:Nat):(if v<0 then max (v+(n:Int)) 0 else min v (n:Int))=((sIx n d (some v):Nat):Int):=by
 show (if v<0 then max (v+(n:Int)) 0 else min v (n:Int))=(((if v<0 then (v+(n:Int)).toNat else min v.toNat n):Nat):Int)
 by_cases hv:v<0
 .simp only [if_pos hv];lia
 .simp only [if_neg hv];lia
theorem ah1(lo hi:Option Int)(n:Nat):Builtin.Slice.sliceAdjust lo hi 1 (n:Int)=(((sIx n 0 lo:Nat):Int),((sIx n n hi:Nat):Int)):=by
 have h1:¬ ((1:Int)<0):=by lia
 unfold Builtin.Slice.sliceAdjust;simp only [h1,if_false];refine Prod.ext ?_ ?_
 .cases lo with
  | none=>rfl
  | some v=>exact clip_eq v n 0
 .cases hi with
  | none=>rfl
  | some v=>exact clip_eq v n n
theorem ah2(i j:Nat):Builtin.Slice.slicePlaces (i:Int) (j:Int) 1=j-i:=by
 unfold Builtin.Slice.slicePlaces;have h1:(1:Int) > 0:=by lia
 simp only [h1,if_true,Int.ediv_one]
 split <;> lia
theorem zK{o:Option Int}{Q:Option Int->Shared->Prop}(p:IsPart v o)(h:Q o s):wpAny 'd' A (Builtin.Slice.slicePartIndex v) Q E s:=by
 cases p with
 | none=>exact slicePart_none h
 | int i t=>exact slicePart_int h
theorem sliceApplied_gen{sl:Addr}{lo hi:Option Int}{Q:Int×Int×Nat->Shared->Prop}(hs:s.heap.IsSliceOf sl vl vu .none)(pl:IsPart vl lo)(pu:IsPart vu hi)(h:Q (((sIx n 0 lo:Nat):Int),1,sIx n n hi-sIx n 0 lo) s):wpAny 'd' A (Builtin.Slice.sliceApplied (.ref sl) (pure (n:Int))) Q E s:=by
 obtain ⟨os,fG,pY,lN⟩:=id hs;unfold Builtin.Slice.sliceApplied Builtin.Slice.sliceFields;refine wpAny_bind (wpAny_bind (wpAny_field fG lN (x:=vl) rfl (wpAny_bind (wpAny_field fG lN (x:=vu) rfl (wpAny_bind (wpAny_field fG lN (x:=.none) rfl (wpAny_pure ?_)))))));refine wpAny_bind (slicePart_none ?_);show wpAny _ _ (if ((1:Int)==0)=true then _ else _) _ _ s;rw [if_neg 'g'];refine wpAny_bind (zK pl (wpAny_bind (zK pu (wpAny_bind (wpAny_pure ?_)))));show wpAny _ _ (match Builtin.Slice.sliceAdjust lo hi 1 (n:Int) with | (lo,hi)=>pure (lo,(1:Int),Builtin.Slice.slicePlaces lo hi 1)) _ _ s;rw [ah1 lo hi n];show wpAny _ _ (pure (((sIx n 0 lo:Nat):Int),(1:Int),Builtin.Slice.slicePlaces ((sIx n 0 lo:Nat):Int) ((sIx n n hi:Nat):Int) 1)) _ _ s;rw [ah2];exact wpAny_pure h
theorem akz(xs:Array Value)(i k:Nat):((U0 k).filterMap fun (m:Nat)=>xs[((i:Int)+(m:Int)*1).toNat]?).toArray=((xs.toList.drop i).take k).toArray:=by
 have e:(fun (m:Nat)=>xs[((i:Int)+(m:Int)*1).toNat]?)=fun m=>xs[i+m]?:=by
  funext m
  have:((i:Int)+(m:Int)*1).toNat=i+m:=by lia
  rw [this]
 rw [e]
 have:=pick_run xs i k
 rw [List.filterMap_map] at this;have e2:((fun x=>xs[x]?)∘fun x=>i+x)=fun m=>xs[i+m]?:=rfl
 rw [e2] at this;rw [this]
theorem getItem_tuple_cut{t sl:Addr}{lo hi:Option Int}{Q:Value->Shared->Prop}(ht:IsTup s.heap t items)(hs:s.heap.IsSliceOf sl vl vu .none)(pl:IsPart vl lo)(pu:IsPart vu hi)(hw:¬ (sIx items.size 0 lo=0/\sIx items.size items.size hi=items.size))(h:Q (.ref s.heap.objs.size) { s with heap:=s.heap.push { cls:=.type "tuple",data:=.seq ((items.toList.drop (sIx items.size 0 lo)).take (sIx items.size items.size hi-sIx items.size 0 lo)).toArray } })(hsz:items.size<=sizeLine):wpAny 'd' A (getItem (.ref t) (.ref sl)) Q E s:=by
 have Z8:sizeOk (.seq ((items.toList.drop (sIx items.size 0 lo)).take (sIx items.size items.size hi-sIx items.size 0 lo)).toArray):=by
  show ((items.toList.drop (sIx items.size 0 lo)).take (sIx items.size items.size hi-sIx items.size 0 lo)).toArray.size<=sizeLine;rw [K3,K6,f7,P3];lia
 have hj:sIx items.size items.size hi<=items.size:=sIx_le _ _ (C3 _) hi;obtain ⟨os,fG,pY,lN⟩:=id hs;have hTs:s.TypeIs (.ref sl) "slice":=⟨os,fG,pY⟩
 unfold getItem
 try with_reducible refine wpAny_holding ?_
 first | refine wpAny_bind (wpAny_pure ?_) | skip
 refine wpAny_bind (wpAny_sequenceKey ht.typeIs 'g' ?_);refine wpAny_bind (wpAny_callSpecial?_slot (name:=Str.ofString "__getitem__") ht.typeIs PyProof.Rows.slot_tuple_getitem
  (wpAny_call_entry PyProof.Rows.slot_tuple_getitem ht.typeIs entry_tuple_getitem ?_ (args_tuple_getitem _ _)))
 show wpAny _ _ (Builtin.Tuple.tupleItemsOf (.ref t) >>= _) _ _ s;refine wpAny_bind (tupleItemsOf_ ht ?_);refine wpAny_bind (wpAny_typeOf hTs ?_);rw [if_pos 'g'];refine wpAny_bind (sliceApplied_gen hs pl pu ?_);have u7:¬ ((((sIx items.size 0 lo:Nat):Int)==0&&(1:Int)==1&&(sIx items.size items.size hi-sIx items.size 0 lo)==items.size)=true):=by
  intro q;rw [W4,W4] at q;have q1:((sIx items.size 0 lo:Nat):Int)=0:=eq_of_beq q.1.1;have q2:sIx items.size items.size hi-sIx items.size 0 lo=items.size:=eq_of_beq q.2;exact hw ⟨by lia,by lia⟩
 show wpAny _ _ (if (((sIx items.size 0 lo:Nat):Int)==0&&(1:Int)==1&&(sIx items.size items.size hi-sIx items.size 0 lo)==items.size)=true then _ else _) _ _ s;rw [if_neg u7,akz]
 first
  | exact wpAny_bind (m:=Builtin.Tuple.tupleExact _) (wpAny_newObj_type (wpAny_pure ⟨_,rfl,wpAny_pure h⟩) Z8)
  | exact wpAny_bind (m:=Builtin.Tuple.tupleExact _) (wpAny_newObj_type (wpAny_bind (wpAny_pure (wpAny_pure ⟨_,rfl,wpAny_pure h⟩))) Z8)
  | exact wpAny_bind (wpAny_bind (m:=Builtin.Tuple.tupleExact _) (wpAny_newObj_type (wpAny_pure (wpAny_pure ⟨_,rfl,wpAny_pure h⟩)) Z8))
  | exact wpAny_bind (wpAny_bind (m:=Builtin.Tuple.tupleExact _) (wpAny_newObj_type (wpAny_pure ⟨_,rfl,wpAny_pure h⟩) Z8))
end
end HT
namespace L2
open PySem PySem.Spec PyProof.Rows
noncomputable abbrev TO:=St->Hp->(Option Int->Hp->Prop)->Prop
noncomputable def PO (X:Cx) (e:Option Expr) (t:TO):Prop:=
 ∀ (pins:List (Addr×Obj)) (s:Shared) (Y:St) (H:Hp) (Q:Option Int->Hp->Prop),Inv X pins Y H s->t Y H Q->
  wpAny 'a' X.A (evalPart e X.env) (fun u s'=>∃ o H',Inv X pins Y H' s'/\IsPart u o/\Q o H') X.xe s
noncomputable def rL:TO:=fun _ H Q=>Q none H
noncomputable def tPart (t:TE):TO:=fun Y H Q=>t Y H fun x H1=>∃ i,x=.int i/\Q (some i) H1
theorem rM : ∀ {us:List Value},Vals (ns.map V.int) us->IntsAre us ns:=by
 induction ns with
 | nil=>intro us r;rw [aU] at r;cases r;exact .nil
 | cons n ns ih=>
  intro us r;rw [J3] at r
  cases r with
  | cons r1 r2=>
   obtain ⟨t,e⟩:=r1;subst e;exact .cons n t (ih r2)
section
variable {X:Cx} {e:Expr} {te:TE} {lo hi:Option Expr} {tl th:TO} {pos p2:Pos}
theorem amQ:PO X none rL:=by
 sleep 1;rw [evalPart_none];exact wpAny_pure ⟨none,H,I,.none,h⟩
theorem amR(h:PE X e te):PO X (some e) (tPart te):=by
 intro pins s Y H Q I hw;rw [evalPart_some];refine B3 (h pins s Y H _ I hw) fun u s1 ⟨x,H1,I1,r1,q1⟩=>?_
 obtain ⟨i,rfl,q⟩:=q1;obtain ⟨t,rfl⟩:=r1;exact ⟨some i,H1,I1,.int i t,q⟩
noncomputable def gX (X:Cx) (r:V->Option Int->Option Int->Hp->VK->Prop):Prop:=
 ∀ (pins:List (Addr×Obj)) (s:Shared) (Y:St) (H:Hp) (x:V) (v vl vu:Value) (lo hi:Option Int) (sl:Addr) (Q:VK),Inv X pins Y H s->RelV x v->s.heap.IsSliceOf sl vl vu .none->IsPart vl lo->IsPart vu hi->r x lo hi H Q->
  ∃ T id,typeLookup (.type T) "__getitem__"=pure (some (.builtin id))/\s.TypeIs v T/\wpAny 'a' X.A (getItem v (.ref sl)) (EP X pins Y Q) X.xe s
noncomputable def rN (r:V->Option Int->Option Int->Hp->VK->Prop) (te:TE) (tl th:TO):TE:=fun Y H Q=>te Y H fun x H1=>tl Y H1 fun l H2=>th Y H2 fun u H3=>r x l u H3 Q
theorem akA{r:V->Option Int->Option Int->Hp->VK->Prop}(hr:gX X r)(he:PE X e te)(hl:PO X lo tl)(hu:PO X hi th):PE X (.Subscript e (.Slice lo hi none p2) pos) (rN r te tl th):=by
 sleep 1;refine Subscript_ (B3 (he pins s Y H _ I h) fun v s1 ⟨x,H1,I1,r1,q1⟩=>?_);refine wpAny_Slice (B3 (hl pins s1 Y H1 _ I1 q1) fun vl s2 ⟨l,H2,I2,pl,q2⟩=>B3 (hu pins s2 Y H2 _ I2 q2) fun vu s3 ⟨u,H3,I3,pu,q3⟩=>?_);rw [evalPart_none];refine wpAny_pure ?_;have I4:Inv X pins Y H3 { s3 with heap:=s3.heap.push { cls:=.type "slice",data:=.fields #[vl,vu,.none] } }:=I3.kept (t':=s3.toks) fun b ob q=>Heap.get?_push_of_some _ q
 obtain ⟨T,id,hT,ht,hg⟩:=hr pins { s3 with heap:=s3.heap.push { cls:=.type "slice",data:=.fields #[vl,vu,.none] } } Y H3 x v vl vu l u s3.heap.objs.size Q I4 r1 (Heap.IsSliceOf.new ..) pl pu q3;show wpAny 'a' X.A (subscriptTail e (.Slice lo hi none p2) v (.ref s3.heap.objs.size)) (EP X pins Y Q) X.xe { s3 with heap:=s3.heap.push { cls:=.type "slice",data:=.fields #[vl,vu,.none] } };exact tail_any (ops:=[.ref s3.heap.objs.size,v]) ht hT hg (by with_unfolding_all rfl)
noncomputable def cutV (xs:List V) (lo hi:Option Int):List V:=(xs.drop (HT.sIx xs.length 0 lo)).take (HT.sIx xs.length xs.length hi-HT.sIx xs.length 0 lo)
theorem zL(xs:List V)(lo hi:Option Int):(cutV xs lo hi).length<=xs.length:=by
 unfold cutV;rw [K6,f7];lia
noncomputable def rSlT (K:PySem.W.Frag):V->Option Int->Option Int->Hp->VK->Prop:=fun x lo hi H Q=>∃ a xs,x=.ref a/\D1 K H a xs/\
 ¬ (HT.sIx xs.length 0 lo=0/\HT.sIx xs.length xs.length hi=xs.length)/\∀ p,H p=none->Q (.ref p) (A0 H p (.tup (cutV xs lo hi)))
theorem ao2:gX X (rSlT X.K):=by
 intro pins s Y H x v vl vu lo hi sl Q I rx hs pl pu h;obtain ⟨a,xs,rfl,hx,hw,q⟩:=h
 cases rx
 obtain ⟨its,r,ht,hz⟩:=I.tuple hx;have A6:its.toArray.size=xs.length:=by rw [K3];exact r.length.symm
 refine ⟨"tuple",_,PyProof.Rows.slot_tuple_getitem.lookup,ht.typeIs,?_⟩;refine HT.getItem_tuple_cut ht hs pl pu (by rw [A6];exact hw) ?_ (by rw [A6];exact hz);rw [A6];refine ⟨.ref s.heap.objs.size,_,I.laid (t':=s.toks) (o:=.tup (cutV xs lo hi)) (fun b ob q=>Heap.get?_push_of_some _ q) (C3 _) ?_,rfl,q _ (I.hok.fresh (C3 _))⟩;exact ⟨D5 (zL xs lo hi) hz,_,(r.drop (HT.sIx xs.length 0 lo)).take (HT.sIx xs.length xs.length hi-HT.sIx xs.length 0 lo),IsTup.new _ _⟩
noncomputable def rCatT (K:PySem.W.Frag):R2:=fun x y H Q=>∃ a b xs ys,x=.ref a/\y=.ref b/\D1 K H a xs/\D1 K H b ys/\xs≠[]/\xs.length+ys.length<=sizeLine/\
 (ys=[]->Q 'f' H)/\(ys≠[]->∀ p,H p=none->Q (.ref p) (A0 H p (.tup (xs++ys))))
theorem Vals.nil_iff(r:Vals xs us):us=[]↔xs=[]:=by
 cases r with
 | nil=>simp
 | cons _ _=>simp
theorem amS:G0 X (binaryOp .Add) (rCatT X.K):=by
 sleep 0;obtain ⟨a,b,xs,ys,rfl,rfl,ha,hb,hx,hz,q1,q2⟩:=h
 cases rx
 cases ry
 obtain ⟨its,r1,p1,_⟩:=I.tuple ha;obtain ⟨its2,r2,p2,_⟩:=I.tuple hb;refine HT.cat_tup p1 p2 (fun z=>hx (r1.nil_iff.mp z)) (fun z=>⟨.ref a,H,I,rfl,q1 (r2.nil_iff.mp z)⟩) (fun z=>?_) (by rw [<- r1.length,<- r2.length];exact hz);refine ⟨.ref s.heap.objs.size,_,I.laid (t':=s.toks) (o:=.tup (xs++ys)) (fun b ob q=>Heap.get?_push_of_some _ q) (C3 _) ?_,rfl,q2 (fun w=>z (r2.nil_iff.mpr w)) _ (I.hok.fresh (C3 _))⟩;exact ⟨by rw [D4];exact hz,_,r1.append r2,IsTup.new _ _⟩
end
noncomputable def l6 (n:Nat) (i:Int):Option Nat:=if 0<=i then (if i<n then some i.toNat else none) else if -(n:Int)<=i then some (i+n).toNat else none
noncomputable def J5 {α:Type} (xs:List α) (i:Int):Option α:=(l6 xs.length i).bind fun j=>xs[j]?
theorem amT{i:Int}(h:l6 n i=some j):seqIndex? i n=some j/\j<n/\-(n:Int)<=i/\i<n:=by
 unfold l6 at h
 by_cases h0:0<=i
 .rw [if_pos h0] at h
  by_cases h1:i<n
  .rw [if_pos h1] at h;have e:i.toNat=j:=Option.some.inj h;exact ⟨by rw [seqIndex_of h0 h1,e],by lia,by lia,h1⟩
  .rw [if_neg h1] at h;cases h
 .rw [if_neg h0] at h
  by_cases h1:-(n:Int)<=i
  .rw [if_pos h1] at h;have e:(i+n).toNat=j:=Option.some.inj h;exact ⟨by rw [seqIndex_neg 'b' h1,e],by lia,h1,by lia⟩
  .rw [if_neg h1] at h;cases h
theorem rO{α:Type}{xs:List α}{i:Int}{v:α}(h:J5 xs i=some v):∃ j,seqIndex? i xs.length=some j/\xs[j]?=some v/\j<xs.length/\-(xs.length:Int)<=i/\i<xs.length:=by
 unfold J5 at h;cases e:l6 xs.length i with
 | none=>rw [e] at h;cases h
 | some j=>
  rw [e] at h;obtain ⟨h1,h2,h3,h4⟩:=amT e;exact ⟨j,h1,h,h2,h3,h4⟩
theorem t5{α:Type}{xs:List α}{v:α}(h:xs[j]?=some v):J5 xs (j:Int)=some v:=by
 have hj:j<xs.length:=(F8.mp h).1;have e:l6 xs.length (j:Int)=some j:=by
  unfold l6;rw [if_pos 'b',if_pos 'b'];simp
 unfold J5;rw [e];exact h
theorem zM{α:Type}(xs:List α)(v:α):J5 (xs++[v]) (-1)=some v:=by
 have hl:(xs++[v]).length=xs.length+1:=by simp
 have e:l6 (xs++[v]).length (-1)=some xs.length:=by
  unfold l6;rw [hl,if_neg 'g',if_pos 'b']
  congr 1
  lia
 unfold J5;rw [e];show (xs++[v])[xs.length]?=some v
 simp
noncomputable def zN (b:Expr):Prop:=∀ o i,subscripted b false o i=operate [o,i] (getItem o i)
noncomputable def bA (X:Cx) (r:R2):Prop:=
 ∀ (value slice:Expr) (pins:List (Addr×Obj)) (s:Shared) (Y:St) (H:Hp) (x y:V) (v u:Value) (Q:VK),Inv X pins Y H s->RelV x v->RelV y u->r x y H Q->
  subscripted slice false v u=operate [v,u] (getItem v u)->wpAny 'a' X.A (subscriptTail value slice v u) (EP X pins Y Q) X.xe s
noncomputable def nV (X:Cx) (id:String) (r:V->List V->Hp->VK->Prop):Prop:=
 ∀ (pins:List (Addr×Obj)) (s:Shared) (Y:St) (H:Hp) (x:V) (xs:List V) (v:Value) (us:List Value) (Q:VK),Inv X pins Y H s->RelV x v->Vals xs us->r x xs H Q->
  wpAny 'a' X.A (call (.builtin id) (v::us)) (EP X pins Y Q) X.xe s
section
variable {X:Cx} {a b:Expr} {ta tb:TE} {pos:Pos}
theorem bA.or{r r':R2}(h:bA X r)(h':bA X r'):bA X (fun x y H Q=>r x y H Q\/r' x y H Q):=by
 intro value slice pins s Y H x y v u Q I rx ry q hs
 rcases q with q | q
 .exact h value slice pins s Y H x y v u Q I rx ry q hs
 .exact h' value slice pins s Y H x y v u Q I rx ry q hs
theorem pe_ix{r:R2}(hr:bA X r)(ha:PE X a ta)(hb:PE X b tb)(hs:zN b):PE X (.Subscript a b pos) (aZ r ta tb):=by
 sleep 1;exact Subscript_ (binT ha hb I h fun v u s2 x y H2 I2 rx ry q=>hr a b pins s2 Y H2 x y v u Q I2 rx ry q (hs _ _))
noncomputable def rIxL (K:PySem.W.Frag):R2:=fun x y H Q=>∃ p xs i v,x=.ref p/\y=.int i/\D6 K H p xs/\J5 xs i=some v/\Q v H
noncomputable def rIxT (K:PySem.W.Frag):R2:=fun x y H Q=>∃ p xs i v,x=.ref p/\y=.int i/\D1 K H p xs/\J5 xs i=some v/\Q v H
noncomputable def rIxS:R2:=fun x y H Q=>∃ z i c,x=.str z/\y=.int i/\z.length<=sizeLine/\J5 z.cps.toList i=some c/\Q (.str ⟨#[c]⟩) H
theorem ix_list:bA X (rIxL X.K):=by
 intro value slice pins s Y H x y v u Q I rx ry h hs;obtain ⟨p,xs,i,z,rfl,rfl,hq,he,q⟩:=h
 cases rx
 obtain ⟨t,rfl⟩:=ry;obtain ⟨its,r,pl,hz⟩:=I.list hq;obtain ⟨j,h1,h2,h3,h4,h5⟩:=rO he;obtain ⟨w,ew,rw'⟩:=r.get h2;have hl:=r.length;have hn:=kG;have fin:EP X pins Y Q w s:=⟨z,H,I,rw',q⟩
 by_cases h0:0<=i
 .have hj:i.toNat=j:=by
   rw [seqIndex_of h0 h5] at h1;exact Option.some.inj h1
  exact item_listR pl.isList h0 'b' (by rw [hj];simpa using ew) fin hs
 .have hj:(i+(its.toArray.size:Int)).toNat=j:=by
   rw [seqIndex_neg 'b' h4] at h1;rw [K3,<- hl];exact Option.some.inj h1
  exact subscriptTail_builtinR (x:=w) pl.isList.typeIs slot_list_getitem.lookup
   (wpAny_getItem_list_neg (Q:=fun r s'=>r=w/\EP X pins Y Q r s') pl.isList 'b' (by rw [K3] <;> lia) 'b' (by rw [hj];simpa using ew) ⟨rfl,fin⟩) hs
theorem ix_tup:bA X (rIxT X.K):=by
 intro value slice pins s Y H x y v u Q I rx ry h hs;obtain ⟨p,xs,i,z,rfl,rfl,hq,he,q⟩:=h
 cases rx
 obtain ⟨t,rfl⟩:=ry;obtain ⟨its,r,pl,hz⟩:=I.tuple hq;obtain ⟨j,h1,h2,h3,h4,h5⟩:=rO he;obtain ⟨w,ew,rw'⟩:=r.get h2;have hl:=r.length;have hn:=kG;have fin:EP X pins Y Q w s:=⟨z,H,I,rw',q⟩
 exact subscriptTail_builtinR (x:=w) pl.typeIs slot_tuple_getitem.lookup
  (getItem_tuple (j:=j) (Q:=fun r s'=>r=w/\EP X pins Y Q r s') pl 'b' 'b' (by rw [K3,<- hl];exact h1) (by simpa using ew) ⟨rfl,fin⟩) hs
theorem ao3:bA X rIxS:=by
 intro value slice pins s Y H x y v u Q I rx ry h hs;obtain ⟨z,i,c,rfl,rfl,hz,he,q⟩:=h;obtain ⟨t,rfl⟩:=rx;obtain ⟨t',rfl⟩:=ry;obtain ⟨j,h1,h2,h3,h4,h5⟩:=rO he;have hl:z.cps.toList.length=z.length:=by simp [Str.length]
 rw [hl] at h1 h4 h5;have hn:=kG;exact tail_any (typeIs_str s z t) slot_str_getitem.lookup (getItem_str (c:=c) (by
  have e1:decide (i < -(2 ^ 63:Int))=false:=decide_eq_false 'b';have e2:decide (i≥2 ^ 63)=false:=decide_eq_false 'b';rw [e1,e2,Bool.or_false]) (by rw [h1];simpa using h2) ⟨.str ⟨#[c]⟩,H,I.tok _,⟨_,rfl⟩,q⟩) hs
noncomputable def gY (K:PySem.W.Frag):R2:=fun x y H Q=>rIxL K x y H Q\/rIxT K x y H Q\/rIxS x y H Q
theorem ao4:bA X (gY X.K):=ix_list.or (ix_tup.or ao3)
theorem afv(lo hi:Option Int)(n:Nat):(sliceBounds lo hi none n).1=((HT.sIx n 0 lo:Nat):Int)/\(sliceBounds lo hi none n).2.1=((HT.sIx n n hi:Nat):Int)/\(sliceBounds lo hi none n).2.2=1:=by
 refine ⟨?_,?_,rfl⟩
 .cases lo with
  | none=>simp [sliceBounds,HT.sIx]
  | some i=>
   simp only [sliceBounds,HT.sIx,Option.getD_none,show (1:Int) > 0 by decide,if_true]
   by_cases h:i<0
   .simp only [h,if_true] <;> lia
   .simp only [h,if_false] <;> lia
 .cases hi with
  | none=>simp [sliceBounds,HT.sIx]
  | some i=>
   simp only [sliceBounds,HT.sIx,Option.getD_none,show (1:Int) > 0 by decide,if_true]
   by_cases h:i<0
   .simp only [h,if_true] <;> lia
   .simp only [h,if_false] <;> lia
theorem aeQ(its:List Value)(lo hi:Option Int):slicePick its.toArray lo hi none=((its.drop (HT.sIx its.length 0 lo)).take (HT.sIx its.length its.length hi-HT.sIx its.length 0 lo)).toArray:=by
 obtain ⟨h1,h2,h3⟩:=afv lo hi its.toArray.size;unfold slicePick;rw [h1,h2,h3];simp only [sliceRange_one,pick_run,K3] <;> rfl
noncomputable def rSlL (K:PySem.W.Frag):V->Option Int->Option Int->Hp->VK->Prop:=fun x lo hi H Q=>∃ a xs,x=.ref a/\D6 K H a xs/\∀ p,H p=none->Q (.ref p) (A0 H p (.lst (cutV xs lo hi)))
theorem amU:gX X (rSlL X.K):=by
 intro pins s Y H x v vl vu lo hi sl Q I rx hs pl pu h;obtain ⟨a,xs,rfl,hx,q⟩:=h
 cases rx
 obtain ⟨its,r,ht,hz⟩:=I.list hx;have A6:=r.length;refine ⟨"list",_,slot_list_getitem.lookup,ht.isList.typeIs,?_⟩;refine wpAny_getItem_list_slice ht.isList hs pl pu .none 'c' ?_ (by rw [K3] <;> lia);rw [aeQ,<- A6];refine ⟨.ref s.heap.objs.size,_,I.laid (t':=s.toks) (o:=.lst (cutV xs lo hi)) (fun b ob q=>Heap.get?_push_of_some _ q) (C3 _) ?_,rfl,q _ (I.hok.fresh (C3 _))⟩;exact ⟨D5 (zL xs lo hi) hz,_,0,(r.drop (HT.sIx xs.length 0 lo)).take (HT.sIx xs.length xs.length hi-HT.sIx xs.length 0 lo),Heap.get?_push_size _ rfl⟩
noncomputable def flatV:V->Bool
 | .non=>true
 | .bl _=>true
 | .int _=>true
 | .str _=>true
 | _=>false
noncomputable def cT:V->V->Bool
 | .non,.non=>true
 | .bl a,.bl b=>a==b
 | .bl a,.int b=>(if a then 1 else 0)==b
 | .int a,.bl b=>a==(if b then 1 else 0)
 | .int a,.int b=>a==b
 | .str a,.str b=>a==b
 | _,_=>false
theorem ao5{x:V}(ry:RelV y u)(rx:RelV x v)(fy:flatV y=true)(fx:flatV x=true):SeqAt.EqAt A s u v (cT y x):=by
 cases y with
 | non=>
  cases ry
  cases x with
  | non=>cases rx;exact SeqAt.EqAt.same _
  | bl b=>cases rx;exact SeqAt.EqAt.none_bool b
  | int b=>obtain ⟨t,rfl⟩:=rx;exact SeqAt.EqAt.none_int b t
  | str b=>obtain ⟨t,rfl⟩:=rx;exact SeqAt.EqAt.none_str b t
  | _=>exact absurd (show false=true from fx) K4
 | bl a=>
  cases ry
  cases x with
  | non=>cases rx;exact SeqAt.EqAt.bool_none a
  | bl b=>cases rx;exact SeqAt.EqAt.bool_bool a b
  | int b=>obtain ⟨t,rfl⟩:=rx;exact SeqAt.EqAt.bool_int a b t
  | str b=>obtain ⟨t,rfl⟩:=rx;exact SeqAt.EqAt.bool_str a b t
  | _=>exact absurd (show false=true from fx) K4
 | int a=>
  obtain ⟨t',rfl⟩:=ry
  cases x with
  | non=>cases rx;exact SeqAt.EqAt.int_none a t'
  | bl b=>cases rx;exact SeqAt.EqAt.int_bool a t' b
  | int b=>obtain ⟨t,rfl⟩:=rx;exact SeqAt.EqAt.int_int a t' b t
  | str b=>obtain ⟨t,rfl⟩:=rx;exact SeqAt.EqAt.int_str a t' b t
  | _=>exact absurd (show false=true from fx) K4
 | str a=>
  obtain ⟨t',rfl⟩:=ry
  cases x with
  | non=>cases rx;exact SeqAt.EqAt.str_none a t'
  | bl b=>cases rx;exact SeqAt.EqAt.str_bool a t' b
  | int b=>obtain ⟨t,rfl⟩:=rx;exact SeqAt.EqAt.str_int a t' b t
  | str b=>obtain ⟨t,rfl⟩:=rx;exact SeqAt.EqAt.str_str a t' b t
  | _=>exact absurd (show false=true from fx) K4
 | _=>exact absurd (show false=true from fy) K4
noncomputable def Y2 (x:V) (u:Value):Bool:=match u with
 | .none=>cT .non x
 | .bool b=>cT (.bl b) x
 | .int i _=>cT (.int i) x
 | .str z _=>cT (.str z) x
 | _=>false
theorem zO{x:V}(r:RelV y u)(f:flatV y=true):Y2 x u=cT y x:=by
 cases y with
 | non=>cases r;rfl
 | bl b=>cases r;rfl
 | int i=>obtain ⟨t,rfl⟩:=r;rfl
 | str z=>obtain ⟨t,rfl⟩:=r;rfl
 | _=>exact absurd (show false=true from f) K4
theorem kJ{x:V} : ∀ {xs:List V} {us:List Value},Vals xs us->xs.all flatV=true->us.any (Y2 x)=xs.any fun y=>cT y x
 | _,_,.nil,_=>rfl
 | y::xs,u::us,.cons r t,f=>by
  rw [List.all_cons,W4] at f;rw [aT,aT,zO r f.1,kJ t f.2]
theorem kK{x:V}(rx:RelV x v)(fx:flatV x=true):∀ {xs:List V} {us:List Value},Vals xs us->xs.all flatV=true->∀ u∈us,SeqAt.EqAt A s u v (Y2 x u)
 | _,_,.nil,_=>fun u hu=>by cases hu
 | y::xs,u::us,.cons r t,f=>fun u' hu=>by
  rw [List.all_cons,W4] at f
  rcases F9.mp hu with rfl | hu
  .rw [zO r f.1];exact ao5 r rx f.1 fx
  .exact kK rx fx t f.2 u' hu
noncomputable def y7 (x:V) (xs:List V):Bool:=xs.any fun y=>cT y x
noncomputable def rP (K:PySem.W.Frag) (neg:Bool):R2:=fun x y H Q=>∃ p xs,y=.ref p/\(D6 K H p xs\/D1 K H p xs)/\flatV x=true/\xs.all flatV=true/\Q (.bl (if neg then !y7 x xs else y7 x xs)) H
theorem aiQ:G0 X (compareOp .In) (rP X.K false):=by
 sleep 0;obtain ⟨p,xs,rfl,hq,fx,fs,q⟩:=h
 cases ry
 rcases hq with hq | hq
 .obtain ⟨its,r,pl,hz⟩:=I.list hq;refine SeqAt.in_listAt (Y2 x) pl.isList (fun w hw=>kK rx fx r fs w (by simpa using hw)) ⟨.bl _,H,I,rfl,?_⟩;rw [show its.toArray.any (Y2 x)=its.any (Y2 x) by simp,kJ r fs];exact q
 .obtain ⟨its,r,pl,hz⟩:=I.tuple hq;refine SeqAt.in_tupleAt (Y2 x) pl (fun w hw=>kK rx fx r fs w (by simpa using hw)) ⟨.bl _,H,I,rfl,?_⟩;rw [show its.toArray.any (Y2 x)=its.any (Y2 x) by simp,kJ r fs];exact q
theorem afw:G0 X (compareOp .NotIn) (rP X.K true):=by
 sleep 0;obtain ⟨p,xs,rfl,hq,fx,fs,q⟩:=h
 cases ry
 rcases hq with hq | hq
 .obtain ⟨its,r,pl,hz⟩:=I.list hq;refine SeqAt.notIn_listAt (Y2 x) pl.isList (fun w hw=>kK rx fx r fs w (by simpa using hw)) ⟨.bl _,H,I,rfl,?_⟩;rw [show its.toArray.any (Y2 x)=its.any (Y2 x) by simp,kJ r fs];exact q
 .obtain ⟨its,r,pl,hz⟩:=I.tuple hq;refine SeqAt.notIn_tupleAt (Y2 x) pl (fun w hw=>kK rx fx r fs w (by simpa using hw)) ⟨.bl _,H,I,rfl,?_⟩;rw [show its.toArray.any (Y2 x)=its.any (Y2 x) by simp,kJ r fs];exact q
theorem afx:G0 X (compareOp .NotIn) (fun x y H Q=>∃ i j,x=.str i/\y=.str j/\Q (.bl (!(!(Builtin.Str.occurrences j i 0 j.length 1).isEmpty))) H):=by
 sleep 0;obtain ⟨i,j,rfl,rfl,q⟩:=h;obtain ⟨t,rfl⟩:=rx;obtain ⟨t',rfl⟩:=ry;exact notIn_str ⟨.bl _,H,I,rfl,q⟩
theorem afy:CallR X (.type "list") (fun xs H Q=>∃ p ys,xs=[.ref p]/\(D6 X.K H p ys\/D1 X.K H p ys)/\∀ l,H l=none->Q (.ref l) (A0 H l (.lst ys))):=by
 intro pins s Y H xs us Q I r h;obtain ⟨p,ys,rfl,hq,q⟩:=h;obtain ⟨u,rfl,rx⟩:=vals1 r
 cases rx
 have fin:∀ (its:List Value),Vals ys its->ys.length<=sizeLine->∀ (h':Heap) (c':Nat),(∀ b o',s.heap.get? b=some o'->h'.get? b=some o')->
   h'.get? s.heap.objs.size=some { cls:=.type "list",dict:=none,data:=.seq its.toArray c',slots:=#[] }->EP X pins Y Q (.ref s.heap.objs.size) { s with heap:=h' }:=fun its r' hz h' c' kp e=>
  ⟨.ref s.heap.objs.size,_,I.laid (t':=s.toks) kp (C3 _) (show ObjOk X.prog X.w _ h' _ (.lst ys) from ⟨hz,its,c',r',e⟩),rfl,q _ (I.hok.fresh (C3 _))⟩
 rcases hq with hq | hq
 .obtain ⟨its,r',pl,hz⟩:=I.list hq;have A6:=r'.length;obtain ⟨o,ho,hc,n,hd⟩:=pl.isList;exact call_list_seq p (.inl rfl) ho hc hd (fun h' c' kp e=>fin its r' hz h' c' kp e) (by simp only [K3] <;> lia)
 .obtain ⟨its,r',pl,hz⟩:=I.tuple hq;have A6:=r'.length;obtain ⟨o,ho,hc,n,hd⟩:=pl;exact call_list_seq p (.inr rfl) ho hc hd (fun h' c' kp e=>fin its r' hz h' c' kp e) (by simp only [K3] <;> lia)
theorem aeR:CallR X (.type "tuple") (fun xs H Q=>∃ p ys,xs=[.ref p]/\((D6 X.K H p ys/\∀ l,H l=none->Q (.ref l) (A0 H l (.tup ys)))\/(D1 X.K H p ys/\Q (.ref p) H))):=by
 intro pins s Y H xs us Q I r h;obtain ⟨p,ys,rfl,h⟩:=h;obtain ⟨u,rfl,rx⟩:=vals1 r
 cases rx
 rcases h with ⟨hq,q⟩ | ⟨hq,q⟩
 .obtain ⟨its,r',pl,hz⟩:=I.list hq;have A6:=r'.length;refine call_tuple_list pl.isList (fun h' kp=>?_) (by simp only [K3] <;> lia);have I1:Inv X pins Y H { s with heap:=h' }:=I.kept (t':=s.toks) kp;have I2:Inv X pins Y (A0 H h'.objs.size (.tup ys)) { s with heap:=h'.push { cls:=.type "tuple",data:=.seq its.toArray } }:=
   I1.laid (t':=s.toks) (fun b o e=>Heap.get?_push_of_some _ e) (C3 _) (show ObjOk X.prog X.w _ _ _ (.tup ys) from ⟨hz,its,r',IsTup.new _ _⟩)
  exact ⟨.ref h'.objs.size,_,I2,rfl,q _ (I1.hok.fresh (C3 _))⟩
 .obtain ⟨its,r',pl,hz⟩:=I.tuple hq;exact call_tuple_same pl ⟨.ref p,H,I,rfl,q⟩
noncomputable def cU (K:PySem.W.Frag) (T:String) (x:V) (H:Hp):Prop:=match x with
 | .str _=>T="str"
 | .int _=>T="int"
 | .ref p=>(T="list"/\∃ xs,D6 K H p xs)\/(T="tuple"/\∃ o,K.lookup p=some o/\o.cls=.type "tuple"/\o.dict=none)\/
   (T="dict"/\((∃ kvs,H p=some (.dK kvs))\/∃ kvs,H p=some (.dT kvs)))\/(T="set"/\∃ S n,H p=some (.set S n))
 | _=>False
theorem zP{T:String}{x:V}(I:Inv X pins Y H s)(r:RelV x v)(ty:cU X.K T x H) :
  s.TypeIs v T/\∀ a,v=.ref a->∃ ob,s.heap.get? a=some ob/\ob.dict=none:=by
 cases x with
 | str z=>
  obtain ⟨t,rfl⟩:=r
  cases (show T="str" from ty)
  exact ⟨typeIs_str s z t,fun _ e=>nomatch e⟩
 | int i=>
  obtain ⟨t,rfl⟩:=r
  cases (show T="int" from ty)
  exact ⟨typeIs_int s i t,fun _ e=>nomatch e⟩
 | ref p=>
  cases r
  rcases ty with ⟨rfl,xs,hq⟩ | ⟨rfl,o,hk,hc,hd⟩ | ⟨rfl,hk⟩ | ⟨rfl,S,n,hk⟩
  .obtain ⟨its,_,pl,_⟩:=I.list hq;refine ⟨pl.isList.typeIs,fun a e=>?_⟩;cases e;obtain ⟨o,n,e,c,hd,_⟩:=pl;exact ⟨o,e,hd⟩
  .refine ⟨⟨o,I.kIn p o hk,hc⟩,fun a e=>?_⟩;cases e;exact ⟨o,I.kIn _ o hk,hd⟩
  .have z:∃ o,s.heap.get? p=some o/\o.ExactDict:=by
    rcases hk with ⟨kvs,hk⟩ | ⟨kvs,hk⟩
    .obtain ⟨_,_,_,_,o,_,_,e,ex,_⟩:=I.hok p _ hk;exact ⟨o,e,ex⟩
    .obtain ⟨_,_,_,_,o,_,_,e,ex,_⟩:=I.hok p _ hk;exact ⟨o,e,ex⟩
   obtain ⟨o,e,ex⟩:=z;refine ⟨⟨o,e,ex.1⟩,fun a e2=>?_⟩;cases e2;exact ⟨o,e,ex.2.1⟩
  .obtain ⟨o,_,_,_,e,ex,_⟩:=I.hok p _ hk;refine ⟨⟨o,e,ex.1⟩,fun a e2=>?_⟩;cases e2;exact ⟨o,e,ex.2.1⟩
 | _=>exact False.elim ty
noncomputable def tBM0 (K:PySem.W.Frag) (T:String) (r:V->List V->Hp->VK->Prop) (to:TE):TE:=fun Y H Q=>to Y H fun x H1=>cU K T x H1/\r x [] H1 Q
noncomputable def nW (K:PySem.W.Frag) (T:String) (r:V->List V->Hp->VK->Prop) (to:TE) (t:TA):TE:=fun Y H Q=>to Y H fun x H1=>cU K T x H1/\t Y H1 fun xs H2=>r x xs H2 Q
variable {o e:Expr} {es:List Expr} {to:TE} {t:TA} {name:Str} {apos cpos:Pos} {T id:String} {r:V->List V->Hp->VK->Prop}
theorem ao6(pa:PlainAttrs T)(slot:Slot T name id)(V7:typeOf (.builtin id)=pure (.type "method_descriptor"))(hm:nV X id r)(ho:PE X o to)(D9:attributeBase o name X.env (eval o X.env)=eval o X.env:=by rfl)(E7:(apos.endLine==cpos.line)=true:=by rfl):PE X (.Call (.Attribute o name apos) [] [] cpos) (tBM0 X.K T r to):=by
 sleep 1;refine wpAny_Call_method0_late D9 E7 (B3 (ho pins s Y H _ I h) fun v s1 ⟨x,H1,I1,r1,ty,q1⟩=>?_);obtain ⟨h1,h2⟩:=zP I1 r1 ty;exact ⟨T,id,pa,slot,V7,h1,h2,Calls.callWith_builtin rfl (PySem.evalArgs_none (hm pins s1 Y H1 x [] v [] Q I1 r1 .nil q1))⟩
theorem pe_bm(pa:PlainAttrs T)(slot:Slot T name id)(V7:typeOf (.builtin id)=pure (.type "method_descriptor"))(hm:nV X id r)(ho:PE X o to)(ha:PA X (e::es) t)(D9:attributeBase o name X.env (eval o X.env)=eval o X.env:=by rfl)(vY:((backTo cpos (starEach (e::es) X.env)).all (fun x=>!x.1)&&(backToKw cpos (keywordEach [] X.env)).all (fun x=>x.1.isSome)
   && decide ((e::es).length+([]:List Keyword).length+(if ([]:List Keyword).isEmpty then 0 else 1)<30))=true:=by rfl)(E7:(apos.endLine==cpos.line)=true:=by rfl)(hs:starEach (e::es) X.env=(false,eval e X.env)::starEach es X.env:=by rfl)(hplain:(backTo cpos (starEach es X.env)).any (·.1)=false:=by rfl) :
  PE X (.Call (.Attribute o name apos) (e::es) [] cpos) (nW X.K T r to t):=by
 sleep 1;refine wpAny_Call_method_late D9 vY E7 rfl (B3 (ho pins s Y H _ I h) fun v s1 ⟨x,H1,I1,r1,ty,q1⟩=>?_);obtain ⟨h1,h2⟩:=zP I1 r1 ty;refine ⟨T,id,pa,slot,V7,h1,h2,?_⟩;have hA:=ha cpos pins s1 Y H1 _ I1 q1;rw [hs] at hA ⊢
 refine Calls.callWith_builtin (by show (false || (backTo cpos (starEach es X.env)).any (·.1))=false;rw [hplain] <;> rfl) (Calls.evalArgs_plain ?_);exact B3 hA fun us s2 ⟨vs,H2,I2,r2,q2⟩=>hm pins s2 Y H2 x vs v us Q I2 r1 r2 q2
end
noncomputable def gZ (X:Cx) (id:String) (r:V->List V->Hp->VK->Prop):Prop:=
 ∀ (pins:List (Addr×Obj)) (s:Shared) (Y:St) (H:Hp) (x:V) (xs:List V) (v:Value) (us:List Value) (Q:VK),Inv X pins Y H s->RelV x v->Vals xs us->r x xs H Q->
  wpAny 'a' X.A (call (.builtin id) (v::us)) (EP X pins Y Q) X.xe s
theorem Vals.one:∀ {x:V} {us:List Value},Vals [x] us->∃ u,us=[u]/\RelV x u
 | _,_,.cons r .nil=>⟨_,rfl,r⟩
theorem Vals.zero:∀ {us:List Value},Vals [] us->us=[]
 | _,.nil=>rfl
theorem Vals.dropLast(h:Vals xs us):Vals xs.dropLast us.dropLast:=by
 induction h with
 | nil=>exact .nil
 | cons r t ih=>
  cases t with
  | nil=>exact .nil
  | cons q t'=>exact .cons r ih
theorem Vals.eraseIdx:∀ {xs:List V} {us:List Value} (i:Nat),Vals xs us->Vals (xs.eraseIdx i) (us.eraseIdx i)
 | _,_,_,.nil=>.nil
 | _,_,0,.cons _ t=>t
 | _,_,i+1,.cons r t=>.cons r (Vals.eraseIdx i t)
theorem Vals.reverse(h:Vals xs us):Vals xs.reverse us.reverse:=by
 induction h with
 | nil=>exact .nil
 | cons r t ih=>rw [List.reverse_cons,List.reverse_cons];exact Vals.append ih (.cons r .nil)
theorem Vals.rep(h:Vals xs us):∀ k:Nat,Vals (J2 k xs).flatten (J2 k us).flatten
 | 0=>.nil
 | k+1=>by
  rw [gD,gD,cH,cH];exact Vals.append h (Vals.rep h k)
theorem ah3{α:Type}(l:List α):l.eraseIdx (l.length-1)=l.dropLast:=by
 induction l with
 | nil=>rfl
 | cons a r ih=>
  cases r with
  | nil=>rfl
  | cons b r=>
   have e:(a::b::r).length-1=((b::r).length-1)+1:=by
    have h1:(a::b::r).length=r.length+2:=rfl;have h2:(b::r).length=r.length+1:=rfl;lia
   rw [e,List.eraseIdx_cons_succ,ih]
   all_goals rfl
theorem zQ(its:List Value):∀ (k:Nat) (acc:List Value),
  List.foldl (fun x1 x2=>x1++x2) acc.toArray (J2 k its.toArray)=(acc++(J2 k its).flatten).toArray
 | 0,acc=>by simp
 | k+1,acc=>by
  have e:acc.toArray++its.toArray=(acc++its).toArray:=by simp
  have e2:(acc++its)++(J2 k its).flatten=acc++(J2 (k+1) its).flatten:=by
   rw [gD,cH,X9]
  rw [<- e2,<- zQ its k (acc++its),<- e,gD,List.foldl_cons]
section
variable {X:Cx} {pins:List (Addr×Obj)} {Y:St} {H:Hp} {s:Shared} {l b:Addr} {xs ys zs:List V}
theorem Inv.lset{its':List Value}{f:Array Value->Array Value}(I:Inv X pins Y H s)(hH:H l=some (.lst xs))(e:s.heap.get? l=some { cls:=.type "list",data:=.seq its.toArray n })(hf:f its.toArray=its'.toArray)(hv:Vals ys its')(hz:ys.length<=sizeLine) :
  Inv X pins Y (A0 H l (.lst ys)) { s with heap:=s.heap.update l (Obj.mapSeq f),toks:=t' }:=by
 have q:=PySem.IsL.update e f;rw [hf] at q;refine I.write (x:=l) (e:=l) (by rw [hH];exact trivial) (.inl rfl) (fun b' u hb hu=>(Heap.get?_update_other s.heap (Obj.mapSeq f) (Ne.symm hb)).trans hu) ⟨_,q⟩ ?_;exact ⟨hz,its',_,hv,q⟩
theorem Inv.lnew(I:Inv X pins Y H s)(hv:Vals ys its)(hz:ys.length<=sizeLine) :
  Inv X pins Y (A0 H s.heap.objs.size (.lst ys)) { s with heap:=s.heap.push { cls:=.type "list",data:=.seq its.toArray },toks:=t' }:=
 I.laid (fun _ _ q=>Heap.get?_push_of_some _ q) (C3 _) ⟨hz,its,0,hv,Heap.get?_push_size _ rfl⟩
theorem Inv.fresh(I:Inv X pins Y H s):H s.heap.objs.size=none:=I.hok.fresh (C3 _)
theorem Inv.lstM(I:Inv X pins Y H s)(hH:H l=some (.lst xs)):xs.length<=sizeLine/\∃ (its:List Value) (n:Nat),Vals xs its/\xs.length=its.length/\s.heap.get? l=some { cls:=.type "list",data:=.seq its.toArray n }:=by
 obtain ⟨z,its,n,r,e⟩:=I.hok l _ hH;exact ⟨z,its,n,r,r.length,e⟩
theorem zR(h:n<=sizeLine):Builtin.List.listTooLong n=false:=by
 unfold Builtin.List.listTooLong;exact decide_eq_false 'b'
end
section
variable {X:Cx}
noncomputable def rQ:V->List V->Hp->VK->Prop:=fun x vs H Q=>∃ l xs y,x=.ref l/\vs=[y]/\H l=some (.lst xs)/\xs.length<sizeLine/\Q .non (A0 H l (.lst (xs++[y])))
theorem zS:gZ X "list.append" rQ:=by
 intro pins s Y H x vs v us Q I rx rv h;obtain ⟨l,xs,y,rfl,rfl,hH,hz,q⟩:=h
 cases rx
 obtain ⟨u,rfl,ru⟩:=rv.one;obtain ⟨z,its,n,r,hl,e⟩:=I.lstM hH;refine call_meets F.slot_list_append ⟨_,e,rfl⟩ F.entry_list_append (F.args_list_append_2 _ _) (PySem.list_append l its.toArray n u (by rw [K3];lia)) ⟨e,?_⟩;refine ⟨.non,_,I.lset (its':=its++[u]) hH e 'c' (r.append (.cons ru .nil)) ?_,rfl,q⟩;rw [D4,eA];lia
noncomputable def rPop:V->List V->Hp->VK->Prop:=fun x vs H Q=>∃ l xs y,x=.ref l/\vs=[]/\H l=some (.lst xs)/\xs[xs.length-1]?=some y/\Q y (A0 H l (.lst xs.dropLast))
theorem ao7:gZ X "list.pop" rPop:=by
 intro pins s Y H x vs v us Q I rx rv h;obtain ⟨l,xs,y,rfl,rfl,hH,hy,q⟩:=h
 cases rx
 have vZ:=rv.zero;subst vZ;obtain ⟨z,its,n,r,hl,e⟩:=I.lstM hH;obtain ⟨u,hu,ru⟩:=r.get hy;have hy':its.toArray[its.toArray.size-1]?=some u:=by
  show its.toArray[its.length-1]?=some u;rw [<- eI,<- hl];exact hu
 refine call_meets F.slot_list_pop ⟨_,e,rfl⟩ F.entry_list_pop (F.args_list_pop_1 _) (MeetsSeq.list_pop_last l its.toArray n u hy' (by rw [K3];lia)) ⟨e,?_⟩;refine ⟨y,_,I.lset (its':=its.dropLast) hH e ?_ r.dropLast ?_,ru,q⟩
 .show its.toArray.eraseIdxIfInBounds (its.toArray.size-1)=its.dropLast.toArray;rw [K3,List.eraseIdxIfInBounds_toArray,ah3]
 .rw [List.length_dropLast];lia
noncomputable def zT:V->List V->Hp->VK->Prop:=fun x vs H Q=>∃ l xs,x=.ref l/\vs=[]/\H l=some (.lst xs)/\Q .non (A0 H l (.lst xs.reverse))
theorem ah4:gZ X "list.reverse" zT:=by
 intro pins s Y H x vs v us Q I rx rv h;obtain ⟨l,xs,rfl,rfl,hH,q⟩:=h
 cases rx
 have vZ:=rv.zero;subst vZ;obtain ⟨z,its,n,r,hl,e⟩:=I.lstM hH;refine call_meets F.slot_list_reverse ⟨_,e,rfl⟩ F.entry_list_reverse (F.args_list_reverse_1 _) (AutoSeq1.list_reverse_list_0 l its.toArray n (by rw [K3];lia)) ⟨e,?_⟩;refine ⟨.non,_,I.lset (its':=its.reverse) hH e 'c' r.reverse ?_,rfl,q⟩;rw [List.length_reverse];lia
noncomputable def rCat:R2:=fun x y H Q=>∃ l b xs zs,x=.ref l/\y=.ref b/\H l=some (.lst xs)/\H b=some (.lst zs)/\xs.length+zs.length<=sizeLine/\∀ p,H p=none->Q (.ref p) (A0 H p (.lst (xs++zs)))
theorem ao8:G0 X (binaryOp .Add) rCat:=by
 sleep 0;obtain ⟨l,b,xs,zs,rfl,rfl,hH,hB,hz,q⟩:=h
 cases rx
 cases ry
 obtain ⟨z,its,n,r,hl,e⟩:=I.lstM hH;obtain ⟨z2,its2,n2,r2,lO,e2⟩:=I.lstM hB;refine PySem.P.add_list e e2 ?_ (by rw [K3,K3];lia);have ea:its.toArray++its2.toArray=(its++its2).toArray:=by simp
 rw [ea];exact ⟨.ref _,_,I.lnew (t':=s.toks) (r.append r2) (by rw [D4];lia),rfl,q _ I.fresh⟩
noncomputable def rRep:R2:=fun x y H Q=>∃ l k xs,x=.ref l/\y=.int k/\H l=some (.lst xs)/\-(2 ^ 63)<=k/\k<2 ^ 63/\xs.length*k.toNat<=sizeLine/\
 ∀ p,H p=none->Q (.ref p) (A0 H p (.lst (J2 k.toNat xs).flatten))
theorem amV{α:Type}(xs:List α)(k:Nat):(J2 k xs).flatten.length=k*xs.length:=by
 induction k with
 | zero=>simp
 | succ k ih=>rw [gD,cH,D4,ih,Nat.succ_mul,Nat.add_comm]
theorem ao9:G0 X (binaryOp .Mult) rRep:=by
 sleep 0;obtain ⟨l,k,xs,rfl,rfl,hH,h1,h2,hz,q⟩:=h
 cases rx
 obtain ⟨t,rfl⟩:=ry;obtain ⟨z,its,n,r,hl,e⟩:=I.lstM hH;have A6:its.toArray.size*k.toNat<=sizeLine:=by rw [K3,<- hl];exact hz
 have wA:¬ its.toArray.size*k.toNat > (2 ^ 63-1) / 8:=by
  have:(sizeLine:Nat)<=(2 ^ 63-1) / 8:=by decide
  lia
 have wB:¬ (!Builtin.List.listFitsIndex k)=true:=by
  rw [fitsIndex_both h1 h2];exact K4
 have u8:¬ Builtin.List.listTooLong (its.toArray.size*k.toNat)=true:=by
  rw [zR A6];exact K4
 have Q0:List.foldl (fun x1 x2=>x1++x2) #[] (J2 (if its.toArray.isEmpty=true then 0 else k.toNat) its.toArray)=(J2 k.toNat its).flatten.toArray:=by
  have f0:∀ m:Nat,List.foldl (fun x1 x2=>x1++x2) #[] (J2 m its.toArray)=(J2 m its).flatten.toArray:=fun m=>by
   have:=zQ its m []
   rw [q5] at this;exact this
  rw [f0]
  cases its with
  | nil=>simp
  | cons a r'=>rw [if_neg 'c']
 refine wpAny_binaryOp_repeat_ref (T:="list") (U:="int") 'g' ⟨_,e,rfl⟩ (fun s'=>typeIs_int s' k t) noFill_list_mul F.fills_int_mul F.slot_int_rmul repeat_list F.slot_int_index.lookup
  (call_meets F.slot_int_rmul (typeIs_int s k t) F.entry_int_rmul (F.args_int_rmul_2 _ _) (int___rmul___int_list k t l its.toArray n)
   ⟨e,rfl,⟨_,e,rfl⟩,call_meets F.slot_list_mul ⟨_,e,rfl⟩ F.entry_list_mul (F.args_list_mul_2 _ _) (AutoListH.list___mul___list_int_3 l its.toArray n k t wB wA u8) ⟨e,?_⟩⟩)
 rw [Q0];exact ⟨.ref _,_,I.lnew (t':=s.toks) (r.rep k.toNat) (by rw [amV,Nat.mul_comm];exact hz),rfl,q _ I.fresh⟩
end
end L2
namespace Att
open PySem PySem.W PySem.Calls PyProof.Rows
theorem adD{P:Params} : ∀ (ns:List Int) (vs:List Value),WellAll P h vs (ns.map WData.int)->IntsAre vs ns:=by
 intro ns
 induction ns with
 | nil=>
  intro vs w;rw [aU] at w
  cases w
  exact .nil
 | cons n ns ih=>
  intro vs w;rw [J3] at w
  cases w with
  | cons a b=>
   cases a
   exact .cons _ _ (ih _ b)
theorem aiR{l:OpenLaw}(hn:l.most=some n){P:Params}{args:List WData}{vals:List Value}(u9:l.row.toRowW.claim.pre args=true)(wC:WellAll P h vals args) :
  ∃ a vs ns,vals=[Value.ref a]/\args=[WData.list (ns.map WData.int)]/\h.get? a=some { cls:=.type "list",data:=.seq vs.toArray }/\IntsAre vs ns/\ns.length<=n:=by
 have lP:WShape.hasAll [] args [.list .int]=true:=(pre_splitW u9).1;have hc:l.pre.holds [] { args:=args }=true:=(pre_splitW u9).2;obtain ⟨d,r,rfl,h1,h2⟩:=hasAllW_cons lP;obtain rfl:=hasAllW_nil h2;obtain ⟨xs,rfl,h3⟩:=hasW_list h1;obtain ⟨ns,rfl⟩:=items_int h3;have A6:ns.length<=n:=by
  unfold OpenLaw.pre at hc;have h4:(WTm.not (.lt (.lit (.int (n:Int))) (.len (.arg 0)))).holds [] { args:=[.list (ns.map .int)] }=true:=by
   have h4:=(holds_andW hc).1;rw [hn] at h4;exact h4
  have h5:=condW_of h4 (w_not (w_lt w_lit (w_len_list (w_arg rfl))));rw [A3] at h5;refine Nat.le_of_not_lt fun q=>?_
  have q':(n:Int)<((ns.length:Nat):Int):=by lia
  first
   | (rw [decide_eq_true q'] at h5;exact absurd h5 'g')
   | (simp at h5;lia)
 cases wC with
 | cons w1 w2=>
  cases w2
  cases w1 with
  | list ho T4=>exact ⟨_,_,ns,rfl,rfl,ho,adD ns _ T4,A6⟩
theorem aiS(l:OpenLaw)(args:List WData):l.row.toRowW.claim.post args (.bool true) args=true:=
 postW_of (r:=l.row.toRowW) (X:=(true==true))
  (show WShape.has [] (.bool true) .bool=true by first | rfl | decide | simp [WShape.has,WShape.arms,WShape.armsAll])
  (show (WTm.eq .res (.lit (.bool true))).value [] { args:=args,res:=some (.bool true),after:=args }=some (.bool (true==true)) from w_eq_bool (w_res rfl) w_lit) rfl
theorem attach_call{l:OpenLaw}{q:Program}{XP:(Str->Option Value)->Heap->Prop}{YP:World->Heap->Prop}{d:DefRec}(hn:l.most=some n)(aF:d.params.defaults=[])(call:∀ (w:World) (s₀ zt:Shared) (mg mb:Str->Option Value) (fa:Addr) (o:Obj) (pm cd doc:Value) (a:Addr) (vs:List Value) (ns:List Int),
   Ground q loose [] XP w s₀ mg mb zt.heap->YP w zt.heap->
   zt.heap.get? fa=some o->o.data=.func (docDef d.name d.params d.body d.scope pm cd doc)->zt.heap.CodeRec cd d.name->mg d.name=some (.ref fa)->
   zt.heap.get? a=some { cls:=.type "list",data:=.seq vs.toArray }->IntsAre vs ns->ns.length<=n->zt.gens=#[]->
   codeAny (model l.prog w) callerA (.call (.ref fa) ⟨[.ref a],[]⟩) (fun r s'=>r=.ok (.ret (.bool true))/\OldK zt.heap s'.heap/\s'.os=zt.os/\AllBare s'.gens) zt) :
  WalkO q loose XP YP l.row.toRowW d [] (fun f vs=>PySem.call f vs):=by
 intro w s₀ zt mg mb G zy fa o pm cd doc dV kV ho hd T3 hD fH hg args vals as u9 hlay hrd wC hlo;obtain rfl:dV=.none:=Dflts.none hD aF;obtain rfl:kV=.none:=Dflts.noKw hD;obtain ⟨a,vs,ns,rfl,rfl,fI,v0,A6⟩:=aiR hn u9 wC;refine enter_call (codeAny_mono (call w s₀ zt mg mb fa o pm cd doc a vs ns G zy ho (fd_plain hd) T3 fH fI v0 A6 hg) fun r s' hq=>?_);obtain ⟨rfl,h2,h3,h4⟩:=hq;exact ⟨.inl ⟨.bool true,.bool true,[],rfl,fun _=>rfl,.bool true,aiS l _,fun _=>⟨List.Pairwise.nil,fun _ hm=>(nomatch hm)⟩⟩,h2,h3,h4⟩
end Att
namespace L2
open PySem PySem.Spec PyProof.Rows
theorem rR:∀ {vs:List Value} {ns:List Int},IntsAre vs ns->Vals (ns.map V.int) vs
 | _,_,.nil=>.nil
 | _,_,.cons n t h=>.cons ⟨t,rfl⟩ (rR h)
noncomputable def Only (H:Hp):Prop:=∀ b,H b=none\/∃ o xs,H b=some (.frz o (.lst xs))
theorem akB{P:Program}{w:World}{mb:Str->Option Value}{CX:Y8}{zt:Shared}{vs:List Value}(KX:K.In zt.heap)(dM:zt.heap.Ns mainGlobals mg)(hb:zt.heap.Ns builtinsNs mb)(hbb:∀ x:Str,x≠"__name__"->mb x=bootBuiltins x)(wD:zt.heap.NoLimit)(hg:zt.gens=#[])(ha:zt.heap.get? a=some { cls:=.type "list",data:=.seq vs.toArray })(hi:IntsAre vs ns)(hl:ns.length<=sizeLine)(hr:Room k callerA)(F:∀ base:Heap,K.In base->base.Ns mainGlobals mg->FnOk P w K mg base CX k fa fd [x] sp)(lQ:∀ (s:Shared) (u:Value),BindsTo s fd ⟨[u],[]⟩ [(x,u)])(aE:∀ H:Hp,Only H->D6 K H a (ns.map V.int)->sp [.ref a] H (fun v _=>v=.bl true) fun _ _ _=>False)(hCX:∀ H e s',CX [] H zt (fun _ _ _=>False) e s'->False) :
  codeAny (model P w) callerA (.call (.ref fa) ⟨[.ref a],[]⟩) (fun r s'=>r=.ok (.ret (.bool true))/\OldK zt.heap s'.heap/\s'.os=zt.os/\AllBare s'.gens) zt:=by
 have rv:=rR hi;have lenV:=hi.length;have core:∀ H:Hp,Only H->D6 K H a (ns.map V.int)->L9 P w H zt.heap->(∀ b,H b≠none->b=a)->(H a≠none->K.lookup a=none)->
   codeAny (model P w) callerA (.call (.ref fa) ⟨[.ref a],[]⟩) (fun r s'=>r=.ok (.ret (.bool true))/\OldK zt.heap s'.heap/\s'.os=zt.os/\AllBare s'.gens) zt:=by
  intro H hO hS hok hA hK;have base_of:∀ {b:Addr} {o:Obj},zt.heap.get? b=some o->H b=none->(hidT zt.heap H).get? b=some o:=fun e n=>akn e n
  have noA:∀ {b:Addr} {o:Obj} {es:Array DictEntry} {ep:Nat},zt.heap.get? b=some o->o.data=.dict es ep->H b=none:=fun {b o es ep} e d=>by
   cases q:H b with
   | none=>rfl
   | some u=>
    have e':b=a:=hA b (by rw [q];simp);subst e';rw [ha] at e;cases e;have d':Data.seq vs.toArray _=Data.dict es ep:=d
    cases d'
  have nsK:∀ {b:Addr} {m:Str->Option Value},zt.heap.Ns b m->(hidT zt.heap H).Ns b m:=fun {b m} ⟨o,es,ep,e,d,r⟩=>⟨o,es,ep,base_of e (noA e d),d,r⟩
  have hKb:K.In (hidT zt.heap H):=fun b o e=>base_of (KX b o e) (by
   cases q:H b with
   | none=>rfl
   | some u=>
    have e':b=a:=hA b (by rw [q];simp);subst e';rw [hK (by rw [q];simp)] at e;cases e)
  have hM:Mod K mg (hidT zt.heap H):=⟨hKb,nsK dM,⟨mb,nsK hb,hbb⟩,let ⟨mc,h1,h2⟩:=wD;⟨mc,nsK h1,h2⟩⟩
  have e0:Env0 P w K mg (hidT zt.heap H) callerA [] zt H:=⟨rfl,hM,fun b o e=>amy e,Nat.le_of_eq (aiw _ _),trivial,fun b hb=>absurd (show b∈([]:List Addr) from hb) 'c',hok,.of_eq hg⟩
  refine codeAny_mono ((F _ hKb (nsK dM)).run callerA [] zt H ⟨[.ref a],[]⟩ [.ref a] [.ref a] _ _ hr e0 (lQ zt 'f') (.cons rfl .nil) (aE H hO hS)) fun r s' h=>?_
  cases r with
  | error e=>exact (hCX H e s' h).elim
  | ok fl=>
   cases fl with
   | next=>exact False.elim h
   | brk=>exact False.elim h
   | cont=>exact False.elim h
   | ret u=>
    obtain ⟨v,H',os,bare,un,wE,r',q⟩:=h;have q':v=.bl true:=q;subst q';obtain rfl:u=Value.bool true:=r';refine ⟨rfl,OldK.of_keep fun b o e=>?_,os,bare⟩
    cases q:H b with
    | none=>exact un.keep b o e q (by intro z;exact absurd (show b∈([]:List Addr) from z) 'c') 'c'
    | some u=>
     rcases hO b with z | ⟨ob,xs,z⟩
     .rw [q] at z;cases z
     .have z2:=un.frzs b ob _ z;obtain ⟨e1,_⟩:=hok b _ z;obtain ⟨e2,_⟩:=wE b _ z2;rw [e] at e1;cases e1;exact e2
 cases hk:K.lookup a with
 | some o=>
  have e:=KX a o hk;rw [ha] at e;cases e;refine core (fun _=>none) (fun _=>.inl rfl) (.inr ⟨_,vs.toArray,_,hk,rfl,rfl,rfl,by rw [K3,lenV];exact hl,by simpa using rv⟩) (fun b u z=>by have z':(none:Option HO)=some u:=z;cases z') (fun b z=>absurd rfl z) fun z=>absurd rfl z
 | none=>
  refine core (fun b=>if b=a then some (.frz { cls:=.type "list",data:=.seq vs.toArray } (.lst (ns.map V.int))) else none) (fun b=>?_) (.inl (.inr ⟨{ cls:=.type "list",data:=.seq vs.toArray },if_pos rfl⟩)) (fun b u z=>?_) (fun b z=>?_) fun _=>hk
  .by_cases hb:b=a
   .exact .inr ⟨_,_,if_pos hb⟩
   .exact .inl (if_neg hb)
  .by_cases hb:b=a
   .have z':=(if_pos hb).symm.trans z
    cases z'
    subst hb;exact ⟨ha,by rw [A3];exact hl,vs,_,rv,ha⟩
   .have z':=(if_neg hb).symm.trans z
    cases z'
  .by_cases hb:b=a
   .exact hb
   .exact absurd (if_neg hb) z
theorem walk_of{l:PySem.W.OpenLaw}{q:Program}{XP:(Str->Option Value)->Heap->Prop}{YP:World->Heap->Prop}{d:DefRec}{K:Params->PySem.W.Frag}{CX:World->Y8}{sp:World->Sp}(hn:l.most=some n)(dL:n<=sizeLine)(aF:d.params.defaults=[])(hr:Room k callerA)(hY:∀ (w:World) (h:Heap),YP w h->(K w.params).In h)(F:∀ (w:World) (mg:Str->Option Value) (fa:Addr) (h:Heap),(K w.params).In h->h.Ns mainGlobals mg->mg d.name=some (.ref fa)->
   ∃ fd:FuncData,(∀ (s:Shared) (u:Value),BindsTo s fd ⟨[u],[]⟩ [(x,u)])/\
    ∀ base:Heap,(K w.params).In base->base.Ns mainGlobals mg->FnOk l.prog w (K w.params) mg base (CX w) k fa fd [x] (sp w))(aE:∀ (w:World) (H:Hp) (a:Addr) (ns:List Int),ns.length<=n->Only H->D6 (K w.params) H a (ns.map V.int)->sp w [.ref a] H (fun v _=>v=.bl true) fun _ _ _=>False)(hCX:∀ (w:World) (H:Hp) (s:Shared) (e:Value) (s':Shared),CX w [] H s (fun _ _ _=>False) e s'->False) :
  PySem.W.WalkO q loose XP YP l.row.toRowW d [] (fun f vs=>PySem.call f vs):=by
 refine Att.attach_call hn aF fun w s₀ zt mg mb fa o pm cd doc a vs ns G zy ho hd T3 fH fI v0 A6 hg=>?_
 have KX:=hY w _ zy;obtain ⟨fd,hb,hF⟩:=F w mg fa _ KX G.T.g fH;exact akB KX G.T.g G.T.b G.T.builtins G.T.nolimit hg fI v0 (D5 A6 dL) hr hF hb (fun H hO hS=>aE w H a ns A6 hO hS) fun H e s'=>hCX w H zt e s'
noncomputable def hG (s:Stmt) (j:Nat):Stmt:=match s with
 | .ClassDef _ _ _ body _ _ _ _ _ _ _=>body.getD j (.Pass ⟨0,0,0,0⟩)
 | _=>.Pass ⟨0,0,0,0⟩
noncomputable def R7 (s:Stmt):Arguments:=match s with
 | .FunctionDef _ a _ _ _ _ _ _ _ _=>a
 | _=>{ posonlyargs:=[],args:=[],vararg:=none,kwonlyargs:=[],kw_defaults:=[],kwarg:=none,defaults:=[] }
noncomputable def P9 (s:Stmt):List Stmt:=match s with
 | .FunctionDef _ _ b _ _ _ _ _ _ _=>b
 | _=>[]
noncomputable def C8 (s:Stmt):Scope:=match s with
 | .FunctionDef _ _ _ _ _ _ sc _ _ _=>sc
 | _=>{ kind:=.function,names:=[],isGenerator:=false,isCoroutine:=false }
noncomputable abbrev G9:Y8:=fun _ _ _ _ _ _=>False
noncomputable abbrev E0:XK:=fun _ _ _=>False
theorem pass0 : gW G9 X E0:=fun _ _ _ _ _ _ _ h=>h.elim
structure Fun(K:PySem.W.Frag)(x qual:Str)(st:Stmt)(f:Addr)(fd:FuncData):Prop where
 ex:∃ (oc:Value) (od:Option Addr) (kV doc pm:Value) (an:Option Addr) (cdv ct:Value) (osl:Array (Option Value)),
  fd=P7 x qual (R7 st) (P9 st) (C8 st) .none kV doc pm an cdv ct/\K.lookup f=some ⟨oc,od,.func fd,osl⟩/\U8 K cdv qual=true
 kp:O8 K (.ref f)=true
theorem hu_of(hr:Room k A):A.units+1<cLine:=Nat.lt_of_le_of_lt (Nat.add_le_add_left (by decide:1<=64) _) hr.units
theorem iteF{A B:Prop}(h:B):if false=true then A else B:=by
 rw [if_neg K4];exact h
theorem iteT{A B:Prop}(h:A):if true=true then A else B:=by
 rw [if_pos rfl];exact h
noncomputable def Same (H H':Hp):Prop:=∀ b o,H b=some o->H' b=some o
theorem Same.refl(H:Hp):Same H H:=fun _ _ h=>h
theorem Same.trans(a:Same H H1)(b:Same H1 H2):Same H H2:=fun c o h=>b c o (a c o h)
theorem Same.free(e:Same H H'){l:Addr}(h:H' l=Option.none):H l=Option.none:=by
 cases q:H l with
 | none=>rfl
 | some o=>
  rw [e l o q] at h;cases h
theorem Same.seq(e:Same H H')(h:D6 K H a xs):D6 K H' a xs:=by
 rcases h with (h | ⟨o,h⟩) | h
 .exact .inl (.inl (e _ _ h))
 .exact .inl (.inr ⟨o,e _ _ h⟩)
 .exact .inr h
section
variable {κ:Type} [DecidableEq κ]
noncomputable def valV (kvs:List (κ×V)) (k:κ):Option V:=(kvs.find? fun kv=>decide (kv.1=k)).map (·.2)
noncomputable def putK (kvs:List (κ×V)) (k:κ) (v:V):List (κ×V):=
 if (kvs.any fun kv=>decide (kv.1=k))=true then kvs.map (fun kv=>if kv.1=k then (kv.1,v) else kv) else kvs++[(k,v)]
noncomputable def dropK (kvs:List (κ×V)) (k:κ):List (κ×V):=kvs.filter fun kv=>decide (kv.1≠k)
theorem nX{p:κ×V}{r:List (κ×V)}{k:κ}(e:p.1=k):valV (p::r) k=some p.2:=by simp [valV,x9,e]
theorem bB{p:κ×V}{r:List (κ×V)}{k:κ}(e:¬ p.1=k):valV (p::r) k=valV r k:=by simp [valV,x9,e]
theorem rS(k:κ):∀ kvs:List (κ×V),(kvs.any fun kv=>decide (kv.1=k))=(valV kvs k).isSome
 | []=>rfl
 | p::r=>by
  rw [aT]
  by_cases e:p.1=k
  .simp only [nX e,decide_eq_true e,Bool.true_or,kD]
  .rw [bB e,decide_eq_false e,Bool.false_or];exact rS k r
theorem rT(kvs:List (κ×V))(k:κ)(v:V):(putK kvs k v).length<=kvs.length+1:=by
 unfold putK
 split
 .rw [A3];lia
 .rw [D4,G8,T8];lia
theorem akC{kvs:List (κ×V)}{k:κ}(v:V)(h:valV kvs k=none):putK kvs k v=kvs++[(k,v)]:=by
 unfold putK;rw [rS,h];exact if_neg 'g'
theorem RelO.isSome_eq{o:Option V}{u:Option Value}(r:RelO o u):o.isSome=u.isSome:=by
 cases o with
 | none=>cases u with
  | none=>rfl
  | some _=>exact (show False from r).elim
 | some _=>cases u with
  | none=>exact (show False from r).elim
  | some _=>rfl
theorem RelO.getD{o:Option V}{u:Option Value}{d:V}{d':Value}(r:RelO o u)(rd:RelV d d'):RelV (o.getD d) (u.getD d'):=by
 cases o with
 | none=>cases u with
  | none=>exact rd
  | some _=>exact (show False from r).elim
 | some _=>cases u with
  | none=>exact (show False from r).elim
  | some _=>exact r
theorem KV.val{kvs:List (κ×V)}{vs:List (κ×Value)}(r:KV kvs vs)(k:κ):RelO (valV kvs k) (valueAt vs k):=by
 unfold KV at r
 induction r with
 | nil=>exact True.intro
 | @cons p q ps qs h t ih=>
  obtain ⟨h1,h2⟩:=h
  by_cases e:p.1=k
  .have e':q.1=k:=h1.symm.trans e;have b:valueAt (q::qs) k=some q.2:=by simp [valueAt,x9,e']
   rw [nX e,b];exact h2
  .have e':¬ q.1=k:=fun z=>e (h1.trans z)
   have b:valueAt (q::qs) k=valueAt qs k:=by simp [valueAt,x9,e']
   rw [bB e,b];exact ih
theorem KV.any{kvs:List (κ×V)}{vs:List (κ×Value)}(r:KV kvs vs)(k:κ):(kvs.any fun kv=>decide (kv.1=k))=vs.any fun kv=>decide (kv.1=k):=by
 unfold KV at r
 induction r with
 | nil=>rfl
 | cons h t ih=>rw [aT,aT,ih,h.1]
theorem KV.repl{kvs:List (κ×V)}{vs:List (κ×Value)}(r:KV kvs vs)(k:κ)(ry:RelV y u) :
  KV (kvs.map fun kv=>if kv.1=k then (kv.1,y) else kv) (vs.map fun kv=>if kv.1=k then (kv.1,u) else kv):=by
 unfold KV at r ⊢
 induction r with
 | nil=>exact .nil
 | @cons p q ps qs h t ih=>
  rw [J3,J3];refine .cons ?_ ih;obtain ⟨h1,h2⟩:=h
  by_cases e:p.1=k
  .rw [if_pos e,if_pos (h1.symm.trans e)];exact ⟨h1,ry⟩
  .rw [if_neg e,if_neg (fun z=>e (h1.trans z))];exact ⟨h1,h2⟩
theorem KV.put{kvs:List (κ×V)}{vs:List (κ×Value)}(r:KV kvs vs)(k:κ)(ry:RelV y u):KV (putK kvs k y) (stored vs k u):=by
 unfold putK stored;rw [r.any k]
 by_cases e:(vs.any fun kv=>decide (kv.1=k))=true
 .rw [if_pos e,if_pos e];exact r.repl k ry
 .rw [if_neg e,if_neg e];exact Paired.snoc r ⟨rfl,ry⟩
theorem KV.drop{kvs:List (κ×V)}{vs:List (κ×Value)}(r:KV kvs vs)(k:κ):KV (dropK kvs k) (without vs k):=by
 unfold KV at r ⊢
 unfold dropK without
 induction r with
 | nil=>exact .nil
 | @cons p q ps qs h t ih=>
  obtain ⟨h1,h2⟩:=h;rw [List.filter_cons,List.filter_cons]
  by_cases e:p.1=k
  .have a:¬ decide (p.1≠k)=true:=by simp [e]
   have b:¬ decide (q.1≠k)=true:=by simp [h1.symm.trans e]
   rw [if_neg a,if_neg b];exact ih
  .have e':¬ q.1=k:=fun z=>e (h1.trans z)
   have a:decide (p.1≠k)=true:=by simp [e]
   have b:decide (q.1≠k)=true:=by simp [e']
   rw [if_pos a,if_pos b];exact .cons ⟨h1,h2⟩ ih
theorem KV.keys{kvs:List (κ×V)}{vs:List (κ×Value)}(r:KV kvs vs):kvs.map (·.1)=vs.map (·.1):=by
 unfold KV at r
 induction r with
 | nil=>rfl
 | cons h t ih=>rw [J3,J3,ih,h.1]
theorem KV.length{kvs:List (κ×V)}{vs:List (κ×Value)}(r:KV kvs vs):kvs.length=vs.length:=Paired.length r
theorem akD(kvs:List (κ×V))(k:κ):(dropK kvs k).length<=kvs.length:=eB _ _
end
theorem kV_is{P:Program}{w:World}{k:A7}(r:RelV (kV k) u):(M4 P w).is k u=true:=by
 cases k with
 | inl i=>obtain ⟨t,e⟩:=(show ∃ t,u=Value.int i t from r);subst e;exact agl P w i t
 | inr x=>obtain ⟨t,e⟩:=(show ∃ t,u=Value.str x t from r);subst e;exact agm P w x t
theorem zU{P:Program}{w:World} : ∀ {ks:List A7} {us:List Value},Vals (ks.map kV) us->ItemsAre (M4 P w) ks us
 | [],_,r=>by rw [aU] at r;cases r;exact .nil
 | k::ks,_,r=>by
  rw [J3] at r
  cases r with
  | cons h t=>exact .cons (kV_is h) (zU t)
noncomputable abbrev KT (H:Hp):List (List A7×V)->List (List A7×Addr×Value)->Prop:=Paired fun p q=>p.1=q.1/\H q.2.1=some (.tup (p.1.map kV))/\RelV p.2 q.2.2
theorem KT.val{kvs:List (List A7×V)}{xs:List (List A7×Addr×Value)}(r:KT H kvs xs)(k:List A7):RelO (valV kvs k) ((atKey xs k).map (·.2)):=by
 induction r with
 | nil=>exact True.intro
 | @cons p q ps qs h t ih=>
  obtain ⟨h1,_,h2⟩:=h
  by_cases e:p.1=k
  .have e':q.1=k:=h1.symm.trans e;have b:atKey (q::qs) k=some q.2:=by simp [atKey,x9,e']
   rw [nX e,b];exact h2
  .have e':¬ q.1=k:=fun z=>e (h1.trans z)
   have b:atKey (q::qs) k=atKey qs k:=by simp [atKey,x9,e']
   rw [bB e,b];exact ih
theorem KT.repl{kvs:List (List A7×V)}{xs:List (List A7×Addr×Value)}(r:KT H kvs xs)(k:List A7)(ry:RelV y u) :
  KT H (kvs.map fun kv=>if kv.1=k then (kv.1,y) else kv) (xs.map (putAt k u)):=by
 induction r with
 | nil=>exact .nil
 | @cons p q ps qs h t ih=>
  rw [J3,J3];refine .cons ?_ ih;obtain ⟨h1,h2,h3⟩:=h;unfold putAt
  by_cases e:p.1=k
  .rw [if_pos e,if_pos (h1.symm.trans e)];exact ⟨h1,h2,ry⟩
  .rw [if_neg e,if_neg (fun z=>e (h1.trans z))];exact ⟨h1,h2,h3⟩
theorem KT.put{kvs:List (List A7×V)}{xs:List (List A7×Addr×Value)}(r:KT H kvs xs)(k:List A7)(hb:H b=some (.tup (k.map kV)))(ry:RelV y u) :
  KT H (putK kvs k y) (storedH xs k b u):=by
 have e:(kvs.any fun kv=>decide (kv.1=k))=(atKey xs k).isSome:=by
  rw [rS,(r.val k).isSome_eq,Option.isSome_map]
 unfold putK storedH;rw [e]
 by_cases q:(atKey xs k).isSome=true
 .rw [if_pos q,if_pos q];exact r.repl k ry
 .rw [if_neg q,if_neg q];exact Paired.snoc r ⟨rfl,hb,ry⟩
theorem KT.keeps{kvs:List (List A7×V)}{xs:List (List A7×Addr×Value)}(r:KT H kvs xs)(ht:∀ b ys,H b=some (.tup ys)->H' b=some (.tup ys)):KT H' kvs xs:=
 j8 r fun _ _ z=>⟨z.1,ht _ _ z.2.1,z.2.2⟩
section
variable {P:Program} {w:World} {H:Hp} {h:Heap} {a:Addr}
theorem rd_of{u:HO}(ok:L9 P w H h)(e:Rd H a u):ObjOk P w H h a u:=e.ok ok
theorem dk_rd(ok:L9 P w H h)(e:Rd H a (.dK kvs)):kvs.length<=sizeLine/\(a==sysModules)=false/\∃ vs,KV kvs vs/\h.DictOf (M4 P w) a vs:=
 show ObjOk P w H h a (.dK kvs) from rd_of ok e
theorem dk_of(ok:L9 P w H h)(e:H a=some (.dK kvs)):kvs.length<=sizeLine/\(a==sysModules)=false/\∃ vs,KV kvs vs/\h.DictOf (M4 P w) a vs:=dk_rd ok (.inl e)
theorem hJ{ks:List A7}(ok:L9 P w H h)(e:H a=some (.tup (ks.map kV))):(tupleKind (M4 P w)).is h ks a:=by
 obtain ⟨_,its,r,o,h1,h2,n,h3⟩:=(show ObjOk P w H h a (.tup (ks.map kV)) from ok a _ e)
 exact ⟨o,its.toArray,n,h1,h2,h3,by simpa using zU r⟩
theorem dt_rd{kvs:List (List A7×V)}(ok:L9 P w H h)(e:Rd H a (.dT kvs)):kvs.length<=sizeLine/\(a==sysModules)=false/\
  ∃ xs,KT H kvs xs/\h.DictOfH (tupleKind (M4 P w)) a xs:=by
 obtain ⟨z,y,xs,r,o,es,ep,h1,h2,h3,h4,h5⟩:=(show ObjOk P w H h a (.dT kvs) from rd_of ok e)
 refine ⟨z,y,xs,r,o,es,ep,h1,h2,h3,h4,fun x hx=>?_,h5⟩;have all:∀ {l:List (List A7×V)} {m:List (List A7×Addr×Value)},KT H l m->∀ x∈m,(tupleKind (M4 P w)).is h x.1 x.2.1:=by
  intro l m q
  induction q with
  | nil=>intro x hx;exact nomatch hx
  | @cons p q ps qs hq t ih=>
   intro x hx
   rcases F9.mp hx with e | hx
   .subst e;exact hJ ok (by rw [<- hq.1];exact hq.2.1)
   .exact ih x hx
 exact all r x hx
theorem dt_of{kvs:List (List A7×V)}(ok:L9 P w H h)(e:H a=some (.dT kvs)):kvs.length<=sizeLine/\(a==sysModules)=false/\
  ∃ xs,KT H kvs xs/\h.DictOfH (tupleKind (M4 P w)) a xs:=dt_rd ok (.inl e)
end
noncomputable def DGet (H:Hp) (a:Addr) (y:V) (r:Option V):Prop:=
 (∃ kvs k,Rd H a (.dK kvs)/\y=kV k/\r=valV kvs k)\/∃ kvs k b,Rd H a (.dT kvs)/\y=.ref b/\H b=some (.tup (k.map kV))/\r=valV kvs k
noncomputable def DPut (H:Hp) (a:Addr) (y v:V) (H':Hp):Prop:=
 (∃ kvs k,H a=some (.dK kvs)/\y=kV k/\kvs.length<sizeLine/\H'=A0 H a (.dK (putK kvs k v)))\/
 ∃ kvs k b,H a=some (.dT kvs)/\y=.ref b/\H b=some (.tup (k.map kV))/\kvs.length<sizeLine/\H'=A0 H a (.dT (putK kvs k v))
theorem cV{k:A7}(e:H a=some (.dK kvs)):DGet H a (kV k) (valV kvs k):=.inl ⟨kvs,k,.inl e,rfl,rfl⟩
theorem y8{k:A7}{v:V}(e:H a=some (.dK kvs))(hl:kvs.length<sizeLine):DPut H a (kV k) v (A0 H a (.dK (putK kvs k v))):=.inl ⟨kvs,k,e,rfl,hl,rfl⟩
section
variable {X:Cx} {pins:List (Addr×Obj)} {Y:St} {H:Hp} {s:Shared} {a:Addr} {y v:V} {u r:Value} {o:Option V} {A:Around} {E:Value->Shared->Prop}
theorem Inv.big(I:Inv X pins Y H s):sysModules<s.heap.objs.size:=by
 have h:mainGlobals<s.heap.objs.size:=(I.mod.glob.keeps I.bk).lt;exact y3 'g' h
theorem zV{Q:Value->Shared->Prop}(hu:A.units+1<cLine)(I:Inv X pins Y H s)(g:DGet H a y (some v))(ry:RelV y u)(h:∀ w' s',Inv X pins Y H s'->RelV v w'->Q w' s') :
  wpAny 'a' A (getItem 'f' u) Q E s:=by
 rcases g with ⟨kvs,k,e,ey,l⟩ | ⟨kvs,k,b,e,ey,eb,l⟩
 .subst ey;obtain ⟨z,hd,vs,rel,dd⟩:=dk_rd I.hok e;obtain ⟨w',hw,rw'⟩:=gU (v:=v) (o:=valueAt vs k) (by rw [l];exact rel.val k);exact wpAny_getItem_of (kV_is ry) dd.mapOf hw (h w' _ (I.tok _) rw')
 .subst ey
  cases (show u=Value.ref b from ry)
  obtain ⟨z,hd,xs,rel,dd⟩:=dt_rd I.hok e;obtain ⟨w',hw,rw'⟩:=gU (v:=v) (o:=(atKey xs k).map (·.2)) (by rw [l];exact rel.val k);obtain ⟨p,hp,v1⟩:=Option.map_eq_some_iff.mp hw;refine wpAny_getItem_heap (tupleKind_room_in1 hu) (hJ I.hok eb) dd hp ?_;rw [v1];exact h w' _ (I.tok _) rw'
theorem d_in{Q:Value->Shared->Prop}(hu:A.units+1<cLine)(I:Inv X pins Y H s)(g:DGet H a y o)(ry:RelV y u)(h:∀ s',Inv X pins Y H s'->Q (.bool o.isSome) s') :
  wpAny 'a' A (compareOp .In u 'f') Q E s:=by
 rcases g with ⟨kvs,k,e,ey,l⟩ | ⟨kvs,k,b,e,ey,eb,l⟩
 .subst ey;obtain ⟨z,hd,vs,rel,dd⟩:=dk_rd I.hok e;refine wpAny_in_of (kV_is ry) hd dd.mapOf ?_;rw [<- (rel.val k).isSome_eq,<- l];exact h _ (I.tok _)
 .subst ey
  cases (show u=Value.ref b from ry)
  obtain ⟨z,hd,xs,rel,dd⟩:=dt_rd I.hok e;refine wpAny_in_heap (tupleKind_room_in1 hu) (hJ I.hok eb) hd dd ?_;have q:=(rel.val k).isSome_eq;rw [Option.isSome_map] at q;rw [<- q,<- l];exact h _ (I.tok _)
theorem amW{Q:Value->Shared->Prop}(hu:A.units+1<cLine)(I:Inv X pins Y H s)(g:DGet H a y o)(ry:RelV y u)(h:∀ s',Inv X pins Y H s'->Q (.bool (!o.isSome)) s') :
  wpAny 'a' A (compareOp .NotIn u 'f') Q E s:=by
 rcases g with ⟨kvs,k,e,ey,l⟩ | ⟨kvs,k,b,e,ey,eb,l⟩
 .subst ey;obtain ⟨z,hd,vs,rel,dd⟩:=dk_rd I.hok e;refine wpAny_notIn_of (kV_is ry) hd dd.mapOf ?_;rw [<- (rel.val k).isSome_eq,<- l];exact h _ (I.tok _)
 .subst ey
  cases (show u=Value.ref b from ry)
  obtain ⟨z,hd,xs,rel,dd⟩:=dt_rd I.hok e;refine wpAny_notIn_heap (tupleKind_room_in1 hu) (hJ I.hok eb) hd dd ?_;have q:=(rel.val k).isSome_eq;rw [Option.isSome_map] at q;rw [<- q,<- l];exact h _ (I.tok _)
theorem nY{ob:HO}(I:Inv X pins Y H s)(mu:gN (H a))(hs:Heap.SameBut a s.heap h')(he:∃ q,h'.get? a=some q)(new:ObjOk X.prog X.w (A0 H a ob) h' a ob) :
  Inv X pins Y (A0 H a ob) { s with heap:=h',toks:=t' }:=
 I.write (x:=a) (e:=a) mu (.inl rfl) (fun b q hb z=>(hs.2 b hb).trans z) he new
theorem nZ{P:Program}{w:World}{vs:List (A7×Value)}(z:kvs.length<=sizeLine)(hd:(a==sysModules)=false)(rel:KV kvs vs)(dd:h'.DictOf (M4 P w) a vs) :
  ObjOk P w H' h' a (.dK kvs):=⟨z,hd,vs,rel,dd⟩
theorem zW{Q:Unit->Shared->Prop}(hu:A.units+1<cLine)(I:Inv X pins Y H s)(g:DPut H a y v H')(ry:RelV y u)(rv:RelV v r)(h:∀ s',Inv X pins Y H' s'->Q () s') :
  wpAny 'a' A (setItem 'f' u r) Q E s:=by
 rcases g with ⟨kvs,k,e,ey,l,eH⟩ | ⟨kvs,k,b,e,ey,eb,l,eH⟩
 .subst ey eH;obtain ⟨z,hd,vs,rel,dd⟩:=dk_of I.hok e;have hz:vs.length<=sizeLine:=by rw [<- rel.length];exact z
  have hl:(putK kvs k v).length<=sizeLine:=by have:=rT kvs k v;lia
  refine wpAny_setItem_pairs (hsz:=hz) (kV_is ry) dd fun h' dd' hs=>h _ ?_
  have he:∃ q,h'.get? a=some q:=let ⟨q,_,_,hq,_⟩:=dd';⟨q,hq⟩
  exact nY I (by rw [e];exact True.intro) hs he (nZ hl hd (rel.put k rv) dd')
 .subst ey eH
  cases (show u=Value.ref b from ry)
  obtain ⟨z,hd,xs,rel,dd⟩:=dt_of I.hok e;have hz:xs.length<=sizeLine:=by rw [<- Paired.length rel];exact z
  have hl:(putK kvs k v).length<=sizeLine:=by have:=rT kvs k v;lia
  refine wpAny_setItem_heap (hsz:=hz) (tupleKind_room_in1 hu) (hJ I.hok eb) dd fun h' dd' hs=>h _ ?_
  obtain ⟨q,es,ep,hq,h2,h3,h4,_,h5⟩:=dd';refine nY I (by rw [e];exact True.intro) hs ⟨q,hq⟩ ⟨hl,hd,_,(rel.put k eb rv).keeps fun c ys ec=>?_,q,es,ep,hq,h2,h3,h4,h5⟩;rw [A4 (ne_of ec e (fun z=>nomatch z))];exact ec
end
section
variable {X:Cx} {pins:List (Addr×Obj)} {Y:St} {H:Hp} {s:Shared} {a:Addr} {kvs:List (A7×V)} {k:A7} {u:Value} {A:Around} {E:Value->Shared->Prop}
theorem d_pop{v:V}{more:List Value}{Q:Value->Shared->Prop}(I:Inv X pins Y H s)(e:H a=some (.dK kvs))(ry:RelV (kV k) u)(l:valV kvs k=some v)(hm:more=[]\/∃ x,more=[x])(h:∀ w' s',Inv X pins Y (A0 H a (.dK (dropK kvs k))) s'->RelV v w'->Q w' s'):wpAny 'a' A (call (.builtin "dict.pop") (.ref a::u::more)) Q E s:=by
 obtain ⟨z,hd,vs,rel,dd⟩:=dk_of I.hok e;obtain ⟨w',hw,rw'⟩:=gU (v:=v) (o:=valueAt vs k) (by rw [<- l];exact rel.val k);have hp:(keyPart u).isSome=true:=by
  cases k with
  | inl i=>obtain ⟨t,q⟩:=(show ∃ t,u=Value.int i t from ry);subst q;rfl
  | inr x=>obtain ⟨t,q⟩:=(show ∃ t,u=Value.str x t from ry);subst q;rfl
 have ha:argsOk "dict.pop" ⟨.ref a::u::more,[]⟩:=by
  rcases hm with q | ⟨x,q⟩
  .subst q;exact PySem.F.args_dict_pop_2 _ _
  .subst q;exact PySem.F.args_dict_pop_3 _ _ _
 refine call_meetsIn PySem.F.slot_dict_pop dd.typeIs PySem.F.entry_dict_pop ha (meets_dict_pop_there (M4 X.prog X.w) a (kV_is ry) more hm hp)
  ⟨vs,w',dd,by rw [<- rel.length];exact z,hw,fun h' dd' hs=>h w' _ ?_ rw'⟩
 have he:∃ q,h'.get? a=some q:=let ⟨q,_,_,hq,_⟩:=dd';⟨q,hq⟩
 exact nY I (by rw [e];exact True.intro) hs he (nZ (D5 (akD kvs k) z) hd (rel.drop k) dd')
theorem d_len{Q:Value->Shared->Prop}(I:Inv X pins Y H s)(e:Rd H a (.dK kvs))(h:∀ t s',Inv X pins Y H s'->Q (.int kvs.length t) s'):wpAny 'a' A (call (.builtin "len") [.ref a]) Q E s:=by
 obtain ⟨z,hd,vs,rel,dd⟩:=dk_rd I.hok e;refine call_len_dict hd dd (by rw [<- rel.length];rw [sizeLine_eq] at z;lia) ?_;rw [<- rel.length];exact h _ _ (I.tok _)
end
noncomputable def NoSl (i:Expr):Prop:=∀ ov iv,subscripted i false ov iv=operate [ov,iv] (getItem ov iv)
theorem zX{w:World}{E:Value->Shared->Prop}{env:Env}{value slice:Expr}{pos:Pos}{T id:String}{Q:Value->Shared->Prop}(hl:typeLookup (.type T) "__getitem__"=pure (some (.builtin id)))(hs:NoSl slice)(h:wpAny 'd' A (eval value env) (fun o zt=>wpAny 'd' A (eval slice env) (fun i zw=>zw.TypeIs o T/\wpAny 'd' A (getItem o i) Q E zw) E zt) E s) :
  wpAny 'd' A (eval (.Subscript value slice pos) env) Q E s:=by
 refine Subscript_ (wpAny_mono h (fun o zt zq=>wpAny_mono zq (fun i zw zp=>?_) fun _ _ x=>x) fun _ _ x=>x);obtain ⟨hT,zp⟩:=zp;unfold subscriptTail;refine wpAny_bind ?_;rw [getitemInPython_of_ne hT.not_modules];refine wpAny_bind (wpAny_specialOf hT hl ?_);have fin:wpAny 'd' A (subscripted slice false o i) (fun r zu=>wpAny 'd' A (letTemporaryGo value o r >>= fun _=>pure r) Q E zu) E zw:=by
  rw [hs o i];exact wpAny_operating (wpAny_mono zp (fun r zu zo=>wpAny_bind (wpAny_letTemporaryGo (wpAny_pure zo))) fun _ _ x=>x)
 first
  | exact wpAny_pure (wpAny_bind fin)
  | exact wpAny_bind (wpAny_pure (wpAny_bind fin))
  | exact wpAny_bind fin
theorem agq{o:Option V}(I:Inv X pins Y H s)(g:DGet H a y o):s.TypeIs 'f' "dict":=by
 rcases g with ⟨kvs,k,e,_,_⟩ | ⟨kvs,k,b,e,_,_,_⟩
 .obtain ⟨_,_,vs,_,dd⟩:=dk_rd I.hok e;exact dd.typeIs
 .obtain ⟨_,_,xs,_,dd⟩:=dt_rd I.hok e;exact dd.typeIs
noncomputable def tDGet (td ty:TE):TE:=fun Y H Q=>td Y H fun x H1=>ty Y H1 fun y H2=>∃ a v,x=.ref a/\DGet H2 a y (some v)/\Q v H2
noncomputable def sDPut (td ty tv:TE):TS:=fun D Y H=>tv Y H fun v H1=>td Y H1 fun x H2=>ty Y H2 fun y H3=>∃ a H4,x=.ref a/\DPut H3 a y v H4/\D.nx Y H4
noncomputable def sDAug (td ty tv:TE) (rd:V->V->Hp->VK->Prop):TS:=fun D Y H=>td Y H fun x H1=>ty Y H1 fun y H2=>∃ a v,x=.ref a/\DGet H2 a y (some v)/\
 tv Y H2 fun y2 H3=>rd v y2 H3 fun z H4=>∃ H5,DPut H4 a y z H5/\D.nx Y H5
section
variable {X:Cx} {o i e value:Expr} {pos pos' tpos:Pos} {td ty tv:TE}
theorem amX(hu:X.A.units+1<cLine)(ho:PE X o td)(hi:PE X i ty)(hs:NoSl i):PE X (.Subscript o i pos) (tDGet td ty):=by
 sleep 1;refine zX PySem.F.slot_dict_getitem.lookup hs (B3 (ho pins s Y H _ I h) fun u s1 ⟨x,H1,I1,rx,q1⟩=>B3 (hi pins s1 Y H1 _ I1 q1) fun iv s2 ⟨y,H2,I2,ry,a,v,ex,g,q2⟩=>?_);subst ex;obtain rfl:u=Value.ref a:=rx;exact ⟨agq I2 g,zV hu I2 g ry fun w' s3 I3 rw'=>⟨v,H2,I3,rw',q2⟩⟩
theorem amY(hu:X.A.units+1<cLine)(ho:PE X o td)(hi:PE X i ty)(hv:PE X value tv)(hs:swapsWith value (some (.Subscript o i pos')) pos.line X.env=pure false) :
  PS X (.Assign [.Subscript o i pos'] value pos) (sDPut td ty tv):=by
 intro pins s Y H D I h;refine wpAny_Assign_Subscript (B3 (hv pins s Y H _ I h) fun r s1 ⟨v,H1,I1,rv,q1⟩=>B3 (ho pins s1 Y H1 _ I1 q1) fun u s2 ⟨x,H2,I2,rx,q2⟩=>B3 (hi pins s2 Y H2 _ I2 q2) fun iv s3 ⟨y,H3,I3,ry,a,H4,ex,g,q3⟩=>?_) hs;subst ex;obtain rfl:u=Value.ref a:=rx;exact zW hu I3 g ry rv fun s4 I4=>⟨Y,H4,I4,q3⟩
theorem amZ{op:Operator}{rd:V->V->Hp->VK->Prop}(hu:X.A.units+1<cLine)(ho:PE X o td)(hi:PE X i ty)(hv:PE X value tv)(wF:InOp X op rd)(ha:∀ ov iv new,augStore i ov iv new=(do holding [new,ov,iv] (setItem ov iv new);release [new,ov,iv] [];pure .next)):PS X (.AugAssign (.Subscript o i tpos) op value pos) (sDAug td ty tv rd):=by
 intro pins s Y H D I h;refine wpAny_AugAssign_SubscriptAny (B3 (ho pins s Y H _ I h) fun u s1 ⟨x,H1,I1,rx,q1⟩=>B3 (hi pins s1 Y H1 _ I1 q1) fun iv s2 ⟨y,H2,I2,ry,a,v,ex,g,q2⟩=>?_) ha;subst ex;obtain rfl:u=Value.ref a:=rx;refine zV hu I2 g ry fun w' s3 I3 rw'=>B3 (hv pins s3 Y H2 _ I3 q2) fun w2 s4 ⟨y2,H3,I4,ry2,q3⟩=>B3 (wF pins s4 Y H3 v y2 w' w2 _ I4 rw' ry2 q3) fun w3 s5 ⟨z,H4,I5,rz,H5,g5,q4⟩=>?_
 exact zW hu I5 g5 ry rz fun s6 I6=>⟨Y,H5,I6,q4⟩
end
theorem akE{P:Program}{w:World}(h:Heap)(hb:sysModules<h.objs.size):ObjOk P w H (h.push { cls:=.type "dict",data:=.dict #[] }) h.objs.size (.dK []):=
 ⟨J0 _,beq_eq_false_iff_ne.mpr (Ne.symm (J4 hb)),[],.nil,Heap.DictOf.new h⟩
noncomputable def rV:TE:=fun _ H Q=>∀ p,H p=none->Q (.ref p) (A0 H p (.dK []))
section
variable {X:Cx} {pos:Pos}
theorem akF:PE X (.Dict [] [] pos) rV:=fun pins s Y H Q I h=>
 wpAny_Dict_empty ⟨.ref s.heap.objs.size,_,I.laid (a:=s.heap.objs.size) (o:=.dK []) (t':=s.toks) (fun _ _ q=>Heap.get?_push_of_some _ q) (C3 _) (akE s.heap I.big),rfl,h _ (I.hok.fresh (C3 _))⟩
end
noncomputable def hV:List (TE×TE)->St->Hp->(List (V×V)->Hp->Prop)->Prop
 | [],_,H,Q=>Q [] H
 | (tk,tv)::r,Y,H,Q=>tk Y H fun x H1=>tv Y H1 fun y H2=>hV r Y H2 fun ps H3=>Q ((x,y)::ps) H3
noncomputable def g6 (kvs more:List (A7×V)):List (A7×V):=more.foldl (fun acc kv=>putK acc kv.1 kv.2) kvs
theorem zY:∀ (more kvs:List (A7×V)),(g6 kvs more).length<=kvs.length+more.length
 | [],kvs=>by show kvs.length<=kvs.length+0;lia
 | p::r,kvs=>by
  have h1:=zY r (putK kvs p.1 p.2);have h2:=rT kvs p.1 p.2;show (g6 (putK kvs p.1 p.2) r).length<=_;rw [G8];lia
noncomputable def tDisp (trs:List (TE×TE)):TE:=fun Y H Q=>∀ p,H p=none->hV trs Y (A0 H p (.dK [])) fun ps H2=>H2 p=some (.dK [])/\∃ kvs:List (A7×V),ps=kvs.map (fun kv=>(kV kv.1,kv.2))/\kvs.length<=15/\Q (.ref p) (A0 H2 p (.dK (g6 [] kvs)))
structure M1(X:Cx)(o:Expr)(m:Str)(apos:Pos)(e:Expr)(cpos:Pos):Prop where
 base:attributeBase o m X.env (eval o X.env)=eval o X.env
 few:((backTo cpos (starEach [e] X.env)).all (fun x=>!x.1)&&(backToKw cpos (keywordEach [] X.env)).all (fun x=>x.1.isSome)
  && decide (([e]:List Expr).length+([]:List Keyword).length+(if ([]:List Keyword).isEmpty then 0 else 1)<30))=true
 line:(apos.endLine==cpos.line)=true
 trees:backTo cpos (starEach [e] X.env)=[(false,eval e X.env)]
structure M2(X:Cx)(o:Expr)(m:Str)(apos:Pos)(e f:Expr)(cpos:Pos):Prop where
 base:attributeBase o m X.env (eval o X.env)=eval o X.env
 few:((backTo cpos (starEach [e,f] X.env)).all (fun x=>!x.1)&&(backToKw cpos (keywordEach [] X.env)).all (fun x=>x.1.isSome)
  && decide (([e,f]:List Expr).length+([]:List Keyword).length+(if ([]:List Keyword).isEmpty then 0 else 1)<30))=true
 line:(apos.endLine==cpos.line)=true
 trees:backTo cpos (starEach [e,f] X.env)=[(false,eval e X.env),(false,eval f X.env)]
noncomputable def bC (H:Hp) (a:Addr):Prop:=(∃ kvs,Rd H a (.dK kvs))\/∃ kvs,Rd H a (.dT kvs)
theorem rW(I:Inv X pins Y H s)(d:bC H a) :
  s.TypeIs 'f' "dict"/\(∀ b,Value.ref a=.ref b->∃ ob,s.heap.get? b=some ob/\ob.dict=none)/\(a==sysModules)=false:=by
 rcases d with ⟨kvs,e⟩ | ⟨kvs,e⟩
 .obtain ⟨_,hd,vs,_,dd⟩:=dk_rd I.hok e;refine ⟨dd.typeIs,fun b q=>?_,hd⟩
  cases q
  obtain ⟨ob,_,_,h1,h2,_⟩:=dd;exact ⟨ob,h1,h2.2.1⟩
 .obtain ⟨_,hd,xs,_,dd⟩:=dt_rd I.hok e;refine ⟨dd.typeIs,fun b q=>?_,hd⟩
  cases q
  obtain ⟨ob,_,_,h1,h2,_⟩:=dd;exact ⟨ob,h1,h2.2.1⟩
section
variable {X:Cx} {pins:List (Addr×Obj)} {Y:St} {H:Hp} {s:Shared} {a:Addr} {y d:V} {u r:Value} {o:Option V} {A:Around} {E:Value->Shared->Prop}
theorem aqa{Q:Value->Shared->Prop}(hu:A.units+1<cLine)(I:Inv X pins Y H s)(g:DGet H a y o)(ry:RelV y u)(h:∀ w' s',Inv X pins Y H s'->RelV (o.getD .non) w'->Q w' s') :
  wpAny 'a' A (call (.builtin "dict.get") [.ref a,u]) Q E s:=by
 rcases g with ⟨kvs,k,e,ey,l⟩ | ⟨kvs,k,b,e,ey,eb,l⟩
 .subst ey;obtain ⟨z,hd,vs,rel,dd⟩:=dk_rd I.hok e;refine call_meetsIn PySem.F.slot_dict_get dd.typeIs PySem.F.entry_dict_get (PySem.F.args_dict_get_2 _ _) (meets_dict_get (M4 X.prog X.w) a (kV_is ry) hd) ⟨_,dd.mapOf,h _ _ (I.tok _) ?_⟩;rw [l];exact (rel.val k).getD rfl
 .subst ey
  cases (show u=Value.ref b from ry)
  obtain ⟨z,hd,xs,rel,dd⟩:=dt_rd I.hok e;refine call_meetsIn PySem.F.slot_dict_get dd.typeIs PySem.F.entry_dict_get (PySem.F.args_dict_get_2 _ _) (meetsH_dict_get (tupleKind (M4 X.prog X.w)) a b hd) ⟨tupleKind_room_in1 hu,k,xs,hJ I.hok eb,dd,h _ _ (I.tok _) ?_⟩;rw [l];exact (rel.val k).getD rfl
end
noncomputable def rX (td ty:TE):TE:=fun Y H Q=>td Y H fun x H1=>∃ a,x=.ref a/\bC H1 a/\ty Y H1 fun y H2=>∃ o,DGet H2 a y o/\Q (o.getD .non) H2
noncomputable def aqb (td ty tx:TE):TE:=fun Y H Q=>td Y H fun x H1=>∃ a,x=.ref a/\bC H1 a/\ty Y H1 fun y H2=>tx Y H2 fun z H3=>∃ o,DGet H3 a y o/\Q (o.getD z) H3
noncomputable def rY (td ty:TE):TE:=fun Y H Q=>td Y H fun x H1=>∃ a,x=.ref a/\bC H1 a/\ty Y H1 fun y H2=>∃ kvs k v,H2 a=some (.dK kvs)/\y=kV k/\valV kvs k=some v/\Q v (A0 H2 a (.dK (dropK kvs k)))
section
variable {X:Cx} {o e f:Expr} {apos cpos:Pos} {td ty tx:TE}
theorem akG(hu:X.A.units+1<cLine)(ho:PE X o td)(he:PE X e ty)(m:M1 X o "get" apos e cpos):PE X (.Call (.Attribute o "get" apos) [e] [] cpos) (rX td ty):=by
 sleep 1;refine wpAny_Call_method m.base m.few m.line PySem.F.plainAttrs_dict PySem.F.slot_dict_get PySem.F.type_dict_get (B3 (ho pins s Y H _ I h) fun u s1 ⟨x,H1,I1,rx,a,ex,d,q1⟩=>?_);subst ex;obtain rfl:u=Value.ref a:=rx;obtain ⟨t1,t2,_⟩:=rW I1 d;refine ⟨t1,t2,?_⟩;rw [m.trees];refine Calls.callWith_builtin rfl (Calls.evalArgs_plain (Calls.spliced_cons (B3 (he pins s1 Y H1 _ I1 q1) fun iv s2 ⟨y,H2,I2,ry,ov,g,q2⟩=>Calls.spliced_nil ?_)));exact aqa hu I2 g ry fun w' s3 I3 rw'=>⟨_,H2,I3,rw',q2⟩
theorem akH(ho:PE X o td)(he:PE X e ty)(m:M1 X o "pop" apos e cpos):PE X (.Call (.Attribute o "pop" apos) [e] [] cpos) (rY td ty):=by
 sleep 1;refine wpAny_Call_method m.base m.few m.line PySem.F.plainAttrs_dict PySem.F.slot_dict_pop PySem.F.type_dict_pop (B3 (ho pins s Y H _ I h) fun u s1 ⟨x,H1,I1,rx,a,ex,d,q1⟩=>?_);subst ex;obtain rfl:u=Value.ref a:=rx;obtain ⟨t1,t2,_⟩:=rW I1 d;refine ⟨t1,t2,?_⟩;rw [m.trees];refine Calls.callWith_builtin rfl (Calls.evalArgs_plain (Calls.spliced_cons (B3 (he pins s1 Y H1 _ I1 q1) fun iv s2 ⟨y,H2,I2,ry,kvs,k,v,ea,ey,l,q2⟩=>Calls.spliced_nil ?_)));subst ey;exact d_pop I2 ea ry l (.inl rfl) fun w' s3 I3 rw'=>⟨v,_,I3,rw',q2⟩
end
section
variable {κ:Type} [DecidableEq κ]
theorem rZ:∀ {l:List κ} {k:κ},l.Nodup->¬ k∈l->(l++[k]).Nodup
 | [],k,_,_=>by simp
 | a::r,k,h,hk=>by
  obtain ⟨h1,h2⟩:=Y0.mp h;show (a::(r++[k])).Nodup;refine Y0.mpr ⟨fun m=>?_,rZ h2 fun m=>hk (F9.mpr (Or.inr m))⟩
  rcases D8.mp m with q | q
  .exact h1 q
  .exact hk (F9.mpr (Or.inl (D3.mp q).symm))
end
noncomputable def cloOf (cells:List (Str×Addr)):List (Str×NameKind)->List (Str×Addr)->List (Str×Addr)
 | [],acc=>acc
 | (n,k)::r,acc=>if k=.free then cloOf cells r ((n,(cells.lookup n).getD 0)::acc) else cloOf cells r acc
theorem sA{env:Env} : ∀ (names:List (Str×NameKind)) (acc:List (Str×Addr)),(∀ x∈names,x.2=.free->∃ c,env.cells.lookup x.1=some c)->
  (forIn names acc fun (x:Str×NameKind) (cs:List (Str×Addr))=>(if (x.2==NameKind.free)=true then do
   let c <- cellOf env x.1
   pure (ForInStep.yield ((x.1,c)::cs)) else pure (ForInStep.yield cs):Sem (ForInStep (List (Str×Addr)))))=(pure (cloOf env.cells names acc):Sem (List (Str×Addr)))
 | [],acc,_=>rfl
 | (n,k)::r,acc,h=>by
  rw [List.forIn_cons];have hr:∀ x∈r,x.2=.free->∃ c,env.cells.lookup x.1=some c:=fun x hx=>h x (L8 _ hx)
  by_cases hk:k=.free
  .subst hk;obtain ⟨c,hc⟩:=h (n,.free) K5 rfl;have e1:cellOf env n=pure c:=by unfold cellOf;rw [show env.cells.lookup n=some c from hc]
   simp only [beq_self_eq_true,if_true];rw [e1];show (forIn r ((n,c)::acc) _:Sem _)=_;rw [sA r _ hr];show _=pure (if NameKind.free=.free then cloOf env.cells r ((n,(env.cells.lookup n).getD 0)::acc) else _);rw [if_pos rfl,show env.cells.lookup n=some c from hc];rfl
  .have hb:(k==NameKind.free)=false:=by simpa using hk
   simp only [hb,Bool.false_eq_true,if_false];show (forIn r acc _:Sem _)=_;rw [sA r _ hr];show _=pure (if k=.free then _ else cloOf env.cells r acc);rw [if_neg hk]
theorem zZ{scope:Scope}{env:Env}(h:∀ x∈scope.names,x.2=.free->∃ c,env.cells.lookup x.1=some c):closureFor scope env=pure (cloOf env.cells scope.names []):=by
 simp only [closureFor];have e:=sA (env:=env) scope.names [] h;rw [e];rfl
theorem oA{cells:List (Str×Addr)} : ∀ (names:List (Str×NameKind)) (acc:List (Str×Addr)),
  (cloOf cells names acc).lookup x=if (x,NameKind.free)∈names then some ((cells.lookup x).getD 0) else acc.lookup x
 | [],acc=>by simp [cloOf]
 | (n,k)::r,acc=>by
  show (if k=.free then cloOf cells r ((n,(cells.lookup n).getD 0)::acc) else cloOf cells r acc).lookup x=_
  by_cases hk:k=.free
  .subst hk;rw [if_pos rfl,oA r]
   by_cases hm:(x,NameKind.free)∈r
   .rw [if_pos hm,if_pos (L8 _ hm)]
   .rw [if_neg hm,List.lookup_cons]
    by_cases hx:x=n
    .subst hx;rw [if_pos K5]
     simp
    .have e:(x==n)=false:=by simpa using hx
     rw [e,if_neg];intro z
     rcases F9.mp z with z | z
     .exact hx (Prod.mk.inj z).1
     .exact hm z
  .rw [if_neg hk,oA r]
   by_cases hm:(x,NameKind.free)∈r
   .rw [if_pos hm,if_pos (L8 _ hm)]
   .rw [if_neg hm,if_neg];intro z
    rcases F9.mp z with z | z
    .exact hk (Prod.mk.inj z).2.symm
    .exact hm z
theorem sB{α:Type} : ∀ {l:List (Str×α)} {k:α},l.lookup x=some k->(x,k)∈l
 | [],_,h=>by simp at h
 | (n,a)::r,k,h=>by
  rw [List.lookup_cons] at h
  by_cases hx:x=n
  .subst hx;simp at h;subst h;exact K5
  .have e:(x==n)=false:=by simpa using hx
   rw [e] at h;exact L8 _ (sB h)
theorem adk{sc:Scope}{env:Env}{k:NameKind}(hc:∀ y∈sc.names,y.2≠.cell)(h:(relabel sc env).names.lookup x=some k)(hk:k=.cell\/k=.free):(x,NameKind.free)∈sc.names:=by
 have m:=sB h;unfold relabel at m;obtain ⟨⟨n,k'⟩,hm,e⟩:=D0.mp m;have G7:=hc _ hm
 by_cases hf:k'=.free
 .subst hf
  have:n=x:=by
   dsimp only at e
   split at e
   .exact (Prod.mk.inj e).1
   .exact (Prod.mk.inj e).1
  subst this;exact hm
 .have hb:(k'==NameKind.free)=false:=by simpa using hf
  simp only [hb,Bool.false_and,Bool.false_eq_true,if_false] at e;obtain ⟨e1,e2⟩:=Prod.mk.inj e;subst e1 e2
  rcases hk with z | z
  .exact absurd z G7
  .subst z;exact absurd rfl hf
structure CompOk(N:List Str)(kn:List (Str×NameKind))(sc:Scope)(N':List Str)(k:Nat)(ixs:List Nat):Prop where
 kind:sc.kind=.function
 cell:∀ x∈sc.names,x.2≠.cell
 names:∀ x∈sc.names,x.2=.local->sc.names.lookup x.1=some .local
 free:∀ x∈sc.names,x.2=.free->kn.lookup x.1=some .cell\/kn.lookup x.1=some .free
 clean:∀ x∈sc.names,x.2=.free->sc.names.lookup x.1=some .free
 len:N'.length=k+ixs.length
 at_:ixs.map (fun i=>N[i]?)=(N'.drop k).map some
 fr:∀ x∈N'.drop k,(x,NameKind.free)∈sc.names
noncomputable def N3 (X:Cx) (sc:Scope) (N':List Str) (C:Addr) (zu:Shared) (zr:Hp) (fp:List Addr) (pins:List (Addr×Obj)):Cx:=
 {prog:=X.prog,w:=X.w,K:=X.K,mg:=X.mg,base:=X.base,A:=X.A,N:=N',s₀:=zu,H₀:=zr,
  env:=compEnvC sc (cloOf X.env.cells sc.names []) C X.env,outer:=X.stack,stack:=X.stack,ex:=fp,fn:=fun _=>false,calm:=X.calm,
  pn:=X.pn++pins,xe:=fun _ _=>False }
noncomputable def compStart (k:Nat) (ixs:List Nat) (Y:St):St:=J2 k none++ixs.map fun i=>(Y[i]?).join
theorem aeU : (compStart k ixs Y).length=k+ixs.length:=by simp [compStart]
section
variable {X:Cx} {sc:Scope} {N':List Str} {k:Nat} {ixs:List Nat} {pins:List (Addr×Obj)} {Y:St} {H:Hp} {s:Shared} {fp:List Addr}
theorem hW(C:CompOk X.N X.env.scope.names sc N' k ixs)(I:Inv X pins Y H s){c:Addr}(e:(cloOf X.env.cells sc.names []).lookup x=some c):X.env.cells.lookup x=some c/\(x,NameKind.free)∈sc.names:=by
 rw [oA] at e
 by_cases hm:(x,NameKind.free)∈sc.names
 .rw [if_pos hm] at e;obtain ⟨c',aD⟩:=I.ok.has x (C.free _ hm rfl);rw [aD] at e;exact ⟨aD.trans e,hm⟩
 .rw [if_neg hm] at e;cases e
theorem aiY(C:CompOk X.N X.env.scope.names sc N' k ixs)(I:Inv X pins Y H s)(hm:(x,NameKind.free)∈sc.names):∃ c,(cloOf X.env.cells sc.names []).lookup x=some c/\X.env.cells.lookup x=some c:=by
 obtain ⟨c',aD⟩:=I.ok.has x (C.free _ hm rfl);refine ⟨c',?_,aD⟩;rw [oA,if_pos hm,aD];rfl
theorem aqc(C:CompOk X.N X.env.scope.names sc N' k ixs)(I:Inv X pins Y H s)(hf:∀ b∈fp,FpOk X pins H b)(ho:∀ b∈fp,∃ o,s.heap.get? b=some o):(N3 X sc N' s.heap.objs.size s H fp pins).Ok where
 mod:=I.ok.mod
 kind:=C.kind
 glob:=I.ok.glob
 blt:=I.ok.blt
 above:=C3 _
 inj:=fun x y c e1 e2=>I.ok.inj x y c (hW C I e1).1 (hW C I e2).1
 has:=fun x hx=>by
  have hm:(x,NameKind.free)∈sc.names:=by
   rcases hx with z | z
   .exact adk C.cell z (.inl rfl)
   .exact adk C.cell z (.inr rfl)
  obtain ⟨c,h1,_⟩:=aiY C I hm;exact ⟨c,h1⟩
 cab:=fun x c h _=>by cases h
 hd:=I.ok.hd
 frames:=I.ok.frames
 stk:=.inl rfl
 exf:=fun b hb=>by
  obtain ⟨o,e⟩:=ho b hb;exact ⟨J4 (Heap.lt_size e),fun x c e1=>(hf b hb).2.2.2.2.1 x c (hW C I e1).1⟩
 bs:=I.bs
 bsz:=D5 I.ok.bsz I.sz
 noex:=fun b o e hb=>by
  rcases (hf b hb).2.2.2.1 with z | z
  .exact I.ok.noex b o e z
  .exact absurd (Q6 (Heap.lt_size e) (D5 I.ok.bsz z)) (j4 _)
 exfs:=fun b hb hm=>by
  rcases F9.mp (I.stkSub b hm) with z | z
  .exact (hf b hb).2.1 z
  .exact (hf b hb).2.2.1 z
 funs:=I.stack
 frf:=I.stkFree
theorem am0(C:CompOk X.N X.env.scope.names sc N' k ixs)(I:Inv X pins Y H s)(hf:∀ b∈fp,FpOk X pins H b)(ho:∀ b∈fp,∃ o,s.heap.get? b=some o){m:Str->Option Value}(hn:h'.Ns s.heap.objs.size m)(hk:∀ b o,s.heap.get? b=some o->h'.get? b=some o):Inv (N3 X sc N' s.heap.objs.size s H fp pins) [] (compStart k ixs Y) H { s with heap:=h',toks:=t' } where
 ok:=aqc C I hf ho
 os:=rfl
 bare:=I.bare
 base:=Un.kept hk
 loc:=by
  refine ⟨m,hn,fun i x v e1 e2 e3=>?_⟩;unfold compStart at e2
  by_cases hi:i<k
  .rw [jV (by simpa using hi)] at e2;rw [List.getElem?_replicate_of_lt hi] at e2;cases e2
  .rw [jU (by simpa using hi),List.length_replicate] at e2;rw [P1] at e2;cases e4:ixs[i-k]? with
   | none=>rw [e4] at e2;cases e2
   | some j=>
    rw [e4] at e2;have e5:(Y[j]?).join=some v:=Option.some.inj e2;have e6:Y[j]?=some (some v):=by
     cases e7:Y[j]? with
     | none=>rw [e7] at e5;cases e5
     | some o=>rw [e7] at e5;exact congrArg some e5
    have e1':N'[i]?=some x:=e1;have ed:(N'.drop k)[i-k]?=some x:=by rw [List.getElem?_drop,show k+(i-k)=i by lia];exact e1'
    have n3:(x,NameKind.free)∈sc.names:=C.fr x (L7 ed);have n2:X.N[j]?=some x:=by
     have q:=congrArg (fun l=>l[i-k]?) C.at_;simp only [P1,e4,ed,Option.map_some] at q;exact Option.some.inj q
    obtain ⟨m0,hn0,iZ⟩:=I.loc;have lR:X.env.scope.names.lookup x=some .cell\/X.env.scope.names.lookup x=some .free:=C.free _ n3 rfl;obtain ⟨u,r,l⟩:=iZ j x v n2 e6 (.inr lR);refine ⟨u,r,.inr ?_⟩
    rcases l with ⟨l,_⟩ | ⟨_,c,hc,M8⟩
    .have l':X.env.scope.names.lookup x=some .local:=l
     rcases lR with z | z
     .rw [l'] at z;cases z
     .rw [l'] at z;cases z
    .obtain ⟨c',h1,h2⟩:=aiY C I n3;rw [hc] at h2;cases h2;refine ⟨?_,c,h1,?_⟩
     .have e3':(relabel sc X.env).names.lookup x=some .local\/(relabel sc X.env).names.lookup x=some .cell\/(relabel sc X.env).names.lookup x=some .free:=e3
      rcases e3' with z | z
      .exfalso
       have mm:=sB z;unfold relabel at mm;obtain ⟨⟨n,k'⟩,hm,e⟩:=D0.mp mm;have aG:k'=.local/\n=x:=by
        dsimp only at e
        split at e
        .obtain ⟨_,q⟩:=Prod.mk.inj e
         cases q
        .exact ⟨(Prod.mk.inj e).2,(Prod.mk.inj e).1⟩
       obtain ⟨z1,z2⟩:=aG;subst z1 z2;have q1:=C.names _ hm rfl;rw [C.clean _ n3 rfl] at q1
       cases q1
      .exact z
     .exact M8.keeps hk
 cell:=fun x c e=>by
  obtain ⟨v,z⟩:=I.cell x c (hW C I e).1;exact ⟨v,z.keeps hk⟩
 free:=I.hok.fresh (C3 _)
 freeC:=fun x c e=>I.freeC x c (hW C I e).1
 pin:=fun p hp=>by
  have hp':p∈X.pn++pins:=by simpa [N3] using hp
  obtain ⟨e,n,ne,nf,d⟩:=I.pin p hp';refine ⟨hk _ _ e,n,J4 (Heap.lt_size e),fun hm=>?_,d⟩
  rcases F9.mp (I.stkSub _ hm) with z | z
  .exact ne z
  .exact nf z
 hok:=I.hok.kept hk
 len:=by rw [aeU];exact C.len.symm
end
section
variable {prog:Program} {w:World} {A:Around} {R:Result->Shared->Prop} {s:Shared}
theorem afE{iter:Expr}{scope:Scope}{pos:Pos}{it acc:Value}{env:Env}(I:Nat->Shared->Prop)(turn:∀ n s,I n s->wpAny 'd' A (pyNext it) (fun r zt=>match r with
   | none=>R (.ok .next) zt
   | some v=>wpAny 'd' A (letOwnedTupleGo target it v) (fun _ zt=>wpAny 'd' A (assign target env v) (fun _ zw=>
     wpAny 'd' A (forIn ifs true fun c r=>if r=true then do let ok <- isTrue c env (eval c env);pure (ForInStep.yield ok) else pure (ForInStep.yield r)) (fun ok zu=>
      if ok=true then wpAny 'd' A (eval elt env) (fun x zn=>
       wpAny 'd' A (call (.builtin "list.append") [acc,x]) (fun _ zm=>∃ m,m<n/\I m zm) (notedBy 'd' A env fun e s'=>R (.error e) s') zn) (notedBy 'd' A env fun e s'=>R (.error e) s') zu
      else ∃ m,m<n/\I m zu) (notedBy 'd' A env fun e s'=>R (.error e) s') zw) (notedBy 'd' A env fun e s'=>R (.error e) s') zt) (notedBy 'd' A env fun e s'=>R (.error e) s') zt) (notedBy 'd' A env fun e s'=>R (.error e) s') s)(n:Nat)(h:I n s) :
  codeAny 'd' A (.compLoop (.ListComp elt [⟨target,iter,ifs,0⟩] scope pos) 0 it acc env) R s:=by
 refine codeAny_loop rfl I (fun n s hI=>?_) n h;show wpAny _ A ((compTurn (.ListComp elt [⟨target,iter,ifs,0⟩] scope pos) 0 it acc env).onRaise (fun x=>do noteFrame x env;theTreesLotGoes x)) _ _ s;refine wpAny_noted ?_;rw [compTurn_list];refine wpAny_bind (wpAny_standAt (wpAny_bind (wpAny_mono (turn n s hI) (fun r zt zq=>?_) fun _ _ h'=>h')))
 cases r with
 | none=>exact wpAny_pure zq
 | some v=>
  refine wpAny_bind (wpAny_mono zq (fun _ zt zq=>?_) fun _ _ h'=>h');refine wpAny_bind (wpAny_mono zq (fun _ zw zp=>wpAny_bind (wpAny_mono zp (fun ok zu zo=>?_) fun _ _ h'=>h')) fun _ _ h'=>h')
  cases ok with
  | false=>exact wpAny_pure ⟨rfl,zo⟩
  | true=>
   exact wpAny_bind (wpAny_bind (wpAny_mono zo (fun x zn zk=>wpAny_bind (wpAny_mono zk (fun _ zm zj=>wpAny_pure (wpAny_pure ⟨rfl,zj⟩)) fun _ _ h'=>h')) fun _ _ h'=>h'))
end
noncomputable def PIfs (X:Cx) (ifs:List Expr) (t:TT):Prop:=
 ∀ (pins:List (Addr×Obj)) (s:Shared) (Y:St) (H:Hp) (Q:Bool->Hp->Prop),Inv X pins Y H s->t Y H Q->
  wpAny 'a' X.A (forIn ifs true fun c r=>if r=true then do let ok <- isTrue c X.env (eval c X.env);pure (ForInStep.yield ok) else pure (ForInStep.yield r)) (TP X pins Y Q) X.xe s
noncomputable def tYes:TT:=fun _ H Q=>Q true H
theorem akI : PIfs X [] tYes:=fun _ _ _ H _ I h=>wpAny_tests_nil ⟨H,I,h⟩
theorem akJ{c:Expr}{t:TT}(hc:PT X c t):PIfs X [c] t:=fun pins s Y H Q I h=>wpAny_tests_one (hc pins s Y H Q I h)
noncomputable def tComp (wi:TI) (k:Nat) (ixs:List Nat) (g:TG) (c:TT) (te:TE):TE:=fun Y H Q=>wi Y H fun J H1=>∀ D,H1 D=none->
 ∃ (n:Nat) (W:Nat->List V->St->Hp->Prop),W 0 [] (compStart k ixs Y) (A0 H1 D (.lst []))/\∀ i ys σ2 H2,W i ys σ2 H2->H2 D=some (.lst ys)->
  (J.stop i H2/\Q (.ref D) H2)\/
  (i<n/\J.go i H2/\∀ x H',J.yld i H2 x H'->g x σ2 H' fun σ3 H3=>c σ3 H3 fun b H4=>
   if b=true then te σ3 H4 fun y H5=>H5 D=some (.lst ys)/\ys.length<sizeLine/\W (i+1) (ys++[y]) σ3 (A0 H5 D (.lst (ys++[y])))
   else H4 D=some (.lst ys)/\W (i+1) ys σ3 H4)
section
variable {X:Cx} {sc:Scope} {N':List Str} {k:Nat} {ixs:List Nat}
theorem aes{iter:Expr}{pos:Pos}{J:It}(C:CompOk X.N X.env.scope.names sc N' k ixs)(M9:X.calm=true)(hg:∀ C zu zr fp pins,PG (N3 X sc N' C zu zr fp pins) target g)(hc:∀ C zu zr fp pins,PIfs (N3 X sc N' C zu zr fp pins) ifs c)(he:∀ C zu zr fp pins,PE (N3 X sc N' C zu zr fp pins) elt te){tn:Nat->Heap->Prop}{E:Value->Shared->Prop}(I:Inv X pins Y H s)(T:Turn X.prog X.w X.K target J fp it tn)(st:tn 0 s.heap)(hf:∀ b∈fp,FpOk X pins H b)(h:∀ D,H D=none->∃ (n:Nat) (W:Nat->List V->St->Hp->Prop),W 0 [] (compStart k ixs Y) (A0 H D (.lst []))/\∀ i ys σ2 H2,W i ys σ2 H2->H2 D=some (.lst ys)->
   (J.stop i H2/\Q (.ref D) H2)\/
   (i<n/\J.go i H2/\∀ x H',J.yld i H2 x H'->g x σ2 H' fun σ3 H3=>c σ3 H3 fun b H4=>
    if b=true then te σ3 H4 fun y H5=>H5 D=some (.lst ys)/\ys.length<sizeLine/\W (i+1) (ys++[y]) σ3 (A0 H5 D (.lst (ys++[y])))
    else H4 D=some (.lst ys)/\W (i+1) ys σ3 H4)){RR:Value->Addr->Result->Shared->Prop}(hRR:∀ D Cc (H':Hp) (s':Shared) (o:Obj) m,Inv X pins Y H' s'->Inv X (pins++[(Cc,o)]) Y H' s'->s'.heap.get? Cc=some o->s'.heap.Ns Cc m->H' Cc=none->Cc≠X.env.locals->X.s₀.heap.objs.size<=Cc->
   (∀ x c,X.env.cells.lookup x=some c->c≠Cc)->(∀ p∈X.pn++pins,p.1≠Cc)->Q (.ref D) H'->RR (.ref D) Cc (.ok .next) s') :
  wpAny 'a' X.A (newList []) (fun acc zu=>wpAny 'a' X.A (newFunctionEnv sc X.env.globals (cloOf X.env.cells sc.names []) [] X.env.qual none .none (some X.env)) (fun cenv zn=>
   codeAny 'a' X.A (.compStart (.ListComp elt [⟨target,iter,ifs,0⟩] sc pos) 0 (.ref it) acc { cenv with scope:=relabel sc X.env }) (RR acc cenv.locals) zn) E zu) E s:=by
 have fresh:=I.hok.fresh (C3 s.heap.objs.size);obtain ⟨n,W,w0,turn⟩:=h s.heap.objs.size fresh;have hfD:∀ b∈fp,b≠s.heap.objs.size:=fun b hb z=>by
  obtain ⟨o,e,_⟩:=T.obj _ _ st b hb;rw [z] at e;exact absurd (Heap.lt_size e) (j4 _)
 have jA:∀ b∈fp,FpOk X pins (A0 H s.heap.objs.size (.lst [])) b:=fun b hb=>⟨by rw [A4 (hfD b hb)];exact (hf b hb).1,(hf b hb).2⟩
 have main:∀ (s3:Shared) (zq:Heap) (t1:Nat),Inv X pins Y (A0 H s.heap.objs.size (.lst [])) s3->(∀ b o,s.heap.get? b=some o->s3.heap.get? b=some o)->zq.Ns s3.heap.objs.size (fun x=>([]:List (Str×Value)).reverse.lookup x)->
   (∀ b o,s3.heap.get? b=some o->zq.get? b=some o)->
   tn 0 zq/\codeAny 'a' X.A (.compLoop (.ListComp elt [⟨target,iter,ifs,0⟩] sc pos) 0 (.ref it) (.ref s.heap.objs.size) (N3 X sc N' s3.heap.objs.size s3 (A0 H s.heap.objs.size (.lst [])) fp pins).env) (RR (.ref s.heap.objs.size) s3.heap.objs.size) { s3 with heap:=zq,toks:=t1 }:=by
  intro s3 zq t1 I3 k3 dM keep3;have dI:tn 0 s3.heap:=T.keep _ _ _ st fun b hb o e=>k3 b o e
  have ho3:∀ b∈fp,∃ o,s3.heap.get? b=some o:=fun b hb=>let ⟨o,e,_⟩:=T.obj _ _ dI b hb;⟨o,e⟩
  have pZ:tn 0 zq:=T.keep _ _ _ dI fun b hb o e=>keep3 b o e
  have B0:Inv (N3 X sc N' s3.heap.objs.size s3 (A0 H s.heap.objs.size (.lst [])) fp pins) [] (compStart k ixs Y) (A0 H s.heap.objs.size (.lst [])) { s3 with heap:=zq,toks:=t1 }:=am0 C I3 jA ho3 dM keep3;refine ⟨pZ,?_⟩;have fpX:∀ {H':Hp},(∀ b∈fp,H' b=none)->∀ b∈fp,FpOk (N3 X sc N' s3.heap.objs.size s3 (A0 H s.heap.objs.size (.lst [])) fp pins) [] H' b:=fun {H'} hn b hb=>by
   obtain ⟨o,eo⟩:=ho3 b hb;refine ⟨hn b hb,J4 (Heap.lt_size eo),?_,.inl hb,?_,?_⟩
   .intro hm
    rcases F9.mp (I3.stkSub b hm) with z | z
    .exact (hf b hb).2.1 z
    .exact (hf b hb).2.2.1 z
   .intro x cc ec;exact (hf b hb).2.2.2.2.1 x cc (hW C I3 ec).1
   .intro p hp;exact (hf b hb).2.2.2.2.2 p (by simpa [N3] using hp)
  refine afE (fun m s'=>∃ i ys σ' H',m=n-i/\Inv (N3 X sc N' s3.heap.objs.size s3 (A0 H s.heap.objs.size (.lst [])) fp pins) [] σ' H' s'/\tn i s'.heap/\(∀ b∈fp,H' b=none)/\H' s.heap.objs.size=some (.lst ys)/\W i ys σ' H') ?_ n ⟨0,[],_,_,rfl,B0,pZ,fun b hb=>(jA b hb).1,A1,w0⟩;rintro m s4 ⟨i,ys,σ4,H4,rfl,I4,st4,fr4,hD4,w4⟩;have again:∀ {i':Nat} {ys':List V} {σ7:St} {H7:Hp} {s6 s7:Shared},i<n->i'=i+1->tn i' s6.heap->Inv (N3 X sc N' s3.heap.objs.size s3 (A0 H s.heap.objs.size (.lst [])) fp pins) ([]++gQ fp s6.heap) σ7 H7 s7->H7 s.heap.objs.size=some (.lst ys')->W i' ys' σ7 H7->
    ∃ m,m<n-i/\∃ i ys σ' H',m=n-i/\Inv (N3 X sc N' s3.heap.objs.size s3 (A0 H s.heap.objs.size (.lst [])) fp pins) [] σ' H' s7/\tn i s7.heap/\(∀ b∈fp,H' b=none)/\H' s.heap.objs.size=some (.lst ys)/\W i ys σ' H':=fun {i' ys' σ7 H7 s6 s7} C7 ei jB I7 hD w=>by
   subst ei;refine ⟨n-(i+1),by lia,i+1,ys',σ7,H7,rfl,I7.unpinned,T.keep _ _ _ jB fun b hb o e=>(I7.pin (b,o) (O5 _ (O5 _ (gS hb e)))).1,fun b hb=>?_,hD,w⟩;obtain ⟨o,e,_⟩:=T.obj _ _ jB b hb;exact (I7.pin (b,o) (O5 _ (O5 _ (gS hb e)))).2.1
  rcases turn i ys σ4 H4 w4 hD4 with ⟨stop,q⟩ | ⟨C7,go,step⟩
  .refine B3 (T.done (N3 X sc N' s3.heap.objs.size s3 (A0 H s.heap.objs.size (.lst [])) fp pins) rfl rfl rfl M9 i [] s4 σ4 H4 _ I4 (fpX fr4) st4 stop) fun r s5 jC=>?_
   obtain ⟨hr,I5⟩:=jC;subst hr;have back:Inv X pins Y H4 s5:=I3.call' (ch:=fp) I5.os I5.base I5.hok I5.bare fun b hb=>⟨(hf b hb).2.2.2.1,(hf b hb).2.1,(hf b hb).2.2.2.2.1,(hf b hb).2.2.2.2.2⟩
   obtain ⟨mm,bL,_⟩:=I5.loc;obtain ⟨o,es,ep,ho,hd,Z9⟩:=id bL;have hC:s3.heap.objs.size≠X.env.locals:=q9 I3.lt;refine hRR s.heap.objs.size s3.heap.objs.size H4 s5 o mm back ?_ ho bL I5.free hC I3.sz ?_ ?_ q
   .refine back.pins_of fun p hp=>?_
    rcases D8.mp hp with z | z
    .exact back.pin p (O5 _ z)
    .have e:p=(s3.heap.objs.size,o):=by simpa using z
     subst e;exact ⟨ho,I5.free,hC,I3.nofs (C3 _),fun v z=>by rw [hd] at z;cases z⟩
   .intro x c e z;obtain ⟨v,q⟩:=I3.cell x c e
    have:=q.lt
    rw [z] at this;exact j4 _ this
   .intro p hp z
    have:=Heap.lt_size (I3.pin p hp).1
    rw [z] at this;exact j4 _ this
  .refine B3 (T.item (N3 X sc N' s3.heap.objs.size s3 (A0 H s.heap.objs.size (.lst [])) fp pins) rfl rfl rfl M9 i [] s4 σ4 H4 _ I4 (fpX fr4) st4 go) fun r s5 jC=>?_
   obtain ⟨u,hr,h5⟩:=jC;subst hr;refine B3 h5 fun _ s6 h6=>?_
   obtain ⟨x,H6,I6,r6,y6,jB,fr6⟩:=h6;have I6':=I6.pinned (fpX fr6) (T.obj _ _ jB);refine wpAny_mono (hg _ _ _ _ _ _ s6 σ4 H6 x u _ I6' r6 (step x H6 y6)) (fun _ s7 h7=>?_) fun _ _ z=>False.elim z
   obtain ⟨σ7,H7,I7,q7⟩:=h7;refine wpAny_mono (hc _ _ _ _ _ _ s7 σ7 H7 _ I7 q7) (fun ok s8 h8=>?_) fun _ _ z=>False.elim z
   obtain ⟨H8,I8,q8⟩:=h8
   cases ok with
   | false=>
    rw [if_neg K4] at q8 ⊢
    exact again C7 rfl jB I8 q8.1 q8.2
   | true=>
    rw [if_pos rfl] at q8 ⊢
    refine wpAny_mono (he _ _ _ _ _ _ s8 σ7 H8 _ I8 q8) (fun y s9 h9=>?_) fun _ _ z=>False.elim z
    obtain ⟨yv,H9,I9,r9,hD9,hz9,w9⟩:=h9;refine wpAny_mono (zS (X:=(N3 X sc N' s3.heap.objs.size s3 (A0 H s.heap.objs.size (.lst [])) fp pins)) _ s9 σ7 H9 (.ref s.heap.objs.size) [yv] (.ref s.heap.objs.size) [y] (fun _ H'=>H'=A0 H9 s.heap.objs.size (.lst (ys++[yv]))) I9 rfl (.cons r9 .nil) ⟨_,ys,yv,rfl,rfl,hD9,hz9,rfl⟩) (fun _ s10 h10=>?_) fun _ _ z=>False.elim z
    obtain ⟨_,X6,I10,_,e10⟩:=h10;subst e10;exact again C7 rfl jB I10 A1 w9
 have I3:=I.lnew (ys:=[]) (its:=[]) (t':=s.toks) .nil (J0 _);refine wpAny_newObj_type (wpAny_newFunctionEnv C.cell (by intro y hy;simp at hy) (fun zq zi zh=>?_) C.kind);obtain ⟨pZ,loop⟩:=main _ zq (s.toks+([]:List (Str×Value)).length) I3 (fun b o e=>Heap.get?_push_of_some _ e) zi fun b o e=>zh.extBut b o (J4 (Heap.lt_size e)) (Heap.get?_push_of_some _ e)
 exact codeAny_compStart_list loop (T.self X.A 0 _ _ _ pZ loop)
theorem am1{iter:Expr}{pos:Pos}{wi:TI}(C:CompOk X.N X.env.scope.names sc N' k ixs)(M9:X.calm=true)(hi:PI X target iter wi)(hg:∀ C zu zr fp pins,PG (N3 X sc N' C zu zr fp pins) target g)(hc:∀ C zu zr fp pins,PIfs (N3 X sc N' C zu zr fp pins) ifs c)(he:∀ C zu zr fp pins,PE (N3 X sc N' C zu zr fp pins) elt te)(hs:∀ x,foldedSetIterable iter X.env x=pure x:=by intro _;rfl):PE X (.ListComp elt [⟨target,iter,ifs,0⟩] sc pos) (tComp wi k ixs g c te):=by
 sleep 1;rw [eval_ListComp];refine wpAny_comprehension_free (use:=none) rfl hs (zZ fun x hx hf=>I.ok.has x.1 (C.free x hx hf)) C.kind C.names (B3 (hi pins s Y H _ I h) fun v s1 h1=>B3 h1 fun itv s2 h2=>?_);obtain ⟨it,fp,tn,J,H2,e,I2,T,lK,f2,q2⟩:=h2;subst e;refine aes (RR:=fun acc C=>compPost 'a' X.A X.xe none (EP X pins Y Q) acc C) C M9 hg hc he I2 T lK f2 q2 ?_;intro D Cc H' s' o m I' _ ho hn hC hL aH M8 fJ q;exact ⟨m,hn,fun h'' hs''=>⟨.ref D,H',I'.turned (t':=s'.toks) (fun b o hb e=>hs''.extBut b o hb e) hC hL (.inr aH) M8 fJ,rfl,q⟩⟩
theorem ah5{iter:Expr}{pos py:Pos}{wi:TI}{y:Str}(hN:X.N.Nodup)(hiN:X.N[i]?=some y)(hx:Y1 X.env.scope y)(C:CompOk X.N X.env.scope.names sc N' k ixs)(M9:X.calm=true)(hi:PI X target iter wi)(hg:∀ C zu zr fp pins,PG (N3 X sc N' C zu zr fp pins) target g)(hc:∀ C zu zr fp pins,PIfs (N3 X sc N' C zu zr fp pins) ifs c)(he:∀ C zu zr fp pins,PE (N3 X sc N' C zu zr fp pins) elt te)(lS:swapsWith (.ListComp elt [⟨target,iter,ifs,0⟩] sc pos) (some (.Name y py)) spos.line X.env=pure true:=by rfl)(hf:X.fn y=true\/X.env.scope.names.lookup y=some .local:=by first | exact .inl rfl | exact .inr rfl | assumption)(hs:∀ x,foldedSetIterable iter X.env x=pure x:=by intro _;rfl):PS X (.Assign [.Name y py] (.ListComp elt [⟨target,iter,ifs,0⟩] sc pos) spos) (tAsg (tComp wi k ixs g c te) (gName i)):=by
 intro pins s Y H D I h;rw [exec_Assign_Name_used _ _ _ _ lS];refine wpAny_bind (wpAny_standAt (wpAny_bind ?_));show wpAny _ X.A (do let _ <- comprehension (.ListComp elt [⟨target,iter,ifs,0⟩] sc pos) sc X.env _ (newList []) false (eval iter X.env) (some (assign (.Name y py) X.env))) _ _ s;refine wpAny_bind (wpAny_mono (wpAny_comprehension_free (use:=some (assign (.Name y py) X.env)) (Q:=fun _ s'=>SP X pins D .next s') rfl hs (zZ fun x hx hf=>I.ok.has x.1 (C.free x hx hf)) C.kind C.names
  (B3 (hi pins s Y H _ I h) fun v s1 h1=>B3 h1 fun itv s2 h2=>?_)) (fun _ s' hq=>wpAny_pure (wpAny_pure hq)) fun _ _ e=>e)
 obtain ⟨it,fp,tn,J,H2,e,I2,T,lK,f2,q2⟩:=h2;subst e;refine aes (Q:=fun x H1=>gName i x Y H1 D.nx) (RR:=fun acc C=>compPost 'a' X.A X.xe (some (assign (.Name y py) X.env)) (fun _ s'=>SP X pins D .next s') acc C) C M9 hg hc he I2 T lK f2 q2 ?_;intro Da Cc H' s' o m _ Ip ho hn hC hL aH M8 fJ q;show wpAny _ X.A (assign (.Name y py) X.env (.ref Da)) _ _ _;refine wpAny_assign_Name (gO (v:=.ref Da) Ip hN hiN hx rfl (fun s'' I''=>?_) hf);have hC2:=(I''.pin (Cc,o) (O5 _ (O5 _ (D3.mpr rfl)))).1;refine ⟨m,hn.at' fun o' e'=>?_,fun h'' hs''=>?_⟩
 .rw [ho] at e';cases e';exact hC2
 .have I3:Inv X pins (Y.set i (some (.ref Da))) H' s'':=I''.unpinned;exact ⟨_,H',I3.turned (t':=s''.toks) (fun b o hb e=>hs''.extBut b o hb e) hC hL (.inr aH) M8 fJ,q⟩
end
end L2
end
namespace L2
open PySem PySem.Spec PyProof.Rows
section
variable {X:Cx} {a b:Expr} {ta tb:TE} {pos:Pos} {rest:List Expr}
noncomputable def tTru (K:PySem.W.Frag) (te:TE):TT:=fun Y H Q=>te Y H fun x H1=>∃ k,TruV K x H1 k/\Q k H1
theorem aqd(ha:PE X a ta)(he:∀ whole,isTrue a X.env whole=(do let v <- whole;standAt a.pos;holding [v] (truthy v)):=by intro _;rfl):PT X a (tTru X.K ta):=aku ha he
noncomputable def tNotT (K:PySem.W.Frag) (te:TE):TE:=fun Y H Q=>te Y H fun x H1=>∃ k,TruV K x H1 k/\Q (.bl (!k)) H1
theorem am2(ha:PE X a ta):PE X (.UnaryOp .Not a pos) (tNotT X.K ta):=by
 sleep 1;refine UnaryOp_ (B3 (ha pins s Y H _ I h) fun v s1 ⟨x,H1,I1,r1,q1⟩=>?_);exact not_of (B3 (yZ pins s1 Y H1 x v (fun k H2=>Q (.bl (!k)) H2) I1 r1 q1) fun c s2 ⟨H2,I2,q2⟩=>⟨.bl (!c),H2,I2,rfl,q2⟩)
end
mutual
inductive Dn (K:PySem.W.Frag) (H:Hp):V->PyData->Prop
 | non:Dn K H .non .none
 | bl (b):Dn K H (.bl b) (.bool b)
 | int (i):Dn K H (.int i) (.int i)
 | str (x):P8 x=true->Dn K H (.str x) (.str x)
 | lst {a xs ds} : D6 K H a xs->DnAll K H xs ds->Dn K H 'f' (.list ds)
 | tup {a xs ds} : D1 K H a xs->DnAll K H xs ds->Dn K H 'f' (.tuple ds)
inductive DnAll (K:PySem.W.Frag) (H:Hp):List V->List PyData->Prop
 | nil:DnAll K H [] []
 | cons {x xs d ds} : Dn K H x d->DnAll K H xs ds->DnAll K H (x::xs) (d::ds)
end
section
variable {X:Cx} {pins:List (Addr×Obj)} {Y:St} {H:Hp} {s:Shared}
mutual
theorem Dn.reads{K:PySem.W.Frag}{x:V}{d:PyData}(I:Inv X pins Y H s)(hK:X.K=K):Dn K H x d->∀ {u:Value},RelV x u->d.canLay0=true/\∃ as,Reads s.heap u d as
 | .non,u,r=>by cases r;exact ⟨rfl,_,.none⟩
 | .bl b,u,r=>by cases r;exact ⟨rfl,_,.bool b⟩
 | .int i,u,r=>by obtain ⟨t,rfl⟩:=r;exact ⟨rfl,_,.int i t⟩
 | .str x hx,u,r=>by obtain ⟨t,rfl⟩:=r;exact ⟨hx,_,.str x t⟩
 | .lst (a:=a) q hs,u,r=>by
  cases r
  subst hK;obtain ⟨its,rv,⟨o,n,e,c,_,dd⟩,_⟩:=I.list q;obtain ⟨h1,as,h2⟩:=DnAll.reads I rfl hs rv;exact ⟨h1,_,.list e c dd (by simpa using h2)⟩
 | .tup (a:=a) q hs,u,r=>by
  cases r
  subst hK;obtain ⟨its,rv,⟨o,e,c,n,dd⟩,_⟩:=I.tuple q;obtain ⟨h1,as,h2⟩:=DnAll.reads I rfl hs rv;exact ⟨h1,_,.tuple e c dd (by simpa using h2)⟩
theorem DnAll.reads{K:PySem.W.Frag}{xs:List V}{ds:List PyData}(I:Inv X pins Y H s)(hK:X.K=K):DnAll K H xs ds->∀ {us:List Value},Vals xs us->PyData.canLayAll0 ds=true/\∃ as,ReadsAll s.heap us ds as
 | .nil,us,r=>by cases r;exact ⟨rfl,_,.nil⟩
 | .cons h t,us,r=>by
  cases r with
  | cons r1 r2=>
   obtain ⟨c1,a1,q1⟩:=Dn.reads I hK h r1;obtain ⟨c2,a2,q2⟩:=DnAll.reads I hK t r2;exact ⟨by simp [PyData.canLayAll0,c1,c2],_,.cons q1 q2⟩
end
end
mutual
theorem Dn.same{K:PySem.W.Frag}{H H':Hp}(hs:Same H H'){x:V}{d:PyData} : Dn K H x d->Dn K H' x d
 | .non=>.non
 | .bl b=>.bl b
 | .int i=>.int i
 | .str x h=>.str x h
 | .lst q h=>.lst (hs.seq q) (DnAll.same hs h)
 | .tup (a:=a) (xs:=xs) q h=>.tup (by
   rcases q with (q | ⟨o,q⟩) | q
   .exact .inl (.inl (hs _ _ q))
   .exact .inl (.inr ⟨o,hs _ _ q⟩)
   .exact .inr q) (DnAll.same hs h)
theorem DnAll.same{K:PySem.W.Frag}{H H':Hp}(hs:Same H H'){xs:List V}{ds:List PyData} : DnAll K H xs ds->DnAll K H' xs ds
 | .nil=>.nil
 | .cons h t=>.cons (Dn.same hs h) (DnAll.same hs t)
end
theorem eK{K:PySem.W.Frag}{H:Hp} : ∀ {zs:List Str},(∀ z∈zs,P8 z=true)->DnAll K H (zs.map V.str) (zs.map U9)
 | [],_=>.nil
 | z::zs,h=>.cons (.str z (h z K5)) (eK fun y hy=>h y (L8 _ hy))
theorem oB:∀ (xs ys:List Str),PyData.eqvAll (xs.map U9) (ys.map U9)=decide (xs=ys)
 | [],[]=>by simp [PyData.eqvAll]
 | [],_::_=>by simp [PyData.eqvAll]
 | _::_,[]=>by simp [PyData.eqvAll]
 | x::xs,y::ys=>by
  rw [J3,J3,PyData.eqvAll,oB xs ys];rw [show Q7 (.str x) (.str y)=(x==y) by simp [Q7]]
  by_cases h1:x=y
  .subst h1;simp
  .simp [h1]
noncomputable def rAddR (K:PySem.W.Frag) (a b:Addr) (H:Hp) (Q:VK):Prop:=rCat 'f' (.ref b) H Q\/rCatT K 'f' (.ref b) H Q
theorem rAddR.l{K:PySem.W.Frag}{a b:Addr}{H:Hp}{Q:VK}{xs ys:List V}(h1:H a=some (.lst xs))(h2:H b=some (.lst ys))(h3:xs.length+ys.length<=sizeLine)(h:∀ p,H p=none->Q (.ref p) (A0 H p (.lst (xs++ys)))):rAddR K a b H Q:=.inl ⟨a,b,xs,ys,rfl,rfl,h1,h2,h3,h⟩
theorem rAddR.t{K:PySem.W.Frag}{a b:Addr}{H:Hp}{Q:VK}{xs ys:List V}(h1:D1 K H a xs)(h2:D1 K H b ys)(h0:xs≠[])(h3:xs.length+ys.length<=sizeLine)(he:ys=[]->Q 'f' H)(h:ys≠[]->∀ p,H p=none->Q (.ref p) (A0 H p (.tup (xs++ys)))):rAddR K a b H Q:=.inr ⟨a,b,xs,ys,rfl,rfl,h1,h2,h0,h3,he,h⟩
noncomputable def rAddU (K:PySem.W.Frag):V->V->Hp->VK->Prop
 | .int i,.int j,H,Q=>Q (.int (i+j)) H
 | .str i,.str j,H,Q=>i.length+j.length<=sizeLine/\Q (.str (i++j)) H
 | .ref a,.ref b,H,Q=>rAddR K a b H Q
 | _,_,_,_=>False
noncomputable def rMulU:V->V->Hp->VK->Prop
 | .int i,.int j,H,Q=>CMul i j/\Q (.int (i*j)) H
 | .ref a,.int j,H,Q=>rRep 'f' (.int j) H Q
 | _,_,_,_=>False
noncomputable def rEqU (K:PySem.W.Frag):V->V->Hp->VK->Prop
 | .int i,.int j,H,Q=>Q (.bl (decide (i=j))) H
 | .str i,.str j,H,Q=>Q (.bl (decide (i=j))) H
 | .bl i,.bl j,H,Q=>Q (.bl (decide (i=j))) H
 | x,y,H,Q=>∃ d e,Dn K H x d/\Dn K H y e/\min d.depth e.depth<=60/\Q (.bl (Q7 d e)) H
noncomputable def rNeU (K:PySem.W.Frag):V->V->Hp->VK->Prop
 | .int i,.int j,H,Q=>Q (.bl (!decide (i=j))) H
 | .str i,.str j,H,Q=>Q (.bl (!decide (i=j))) H
 | .bl i,.bl j,H,Q=>Q (.bl (!decide (i=j))) H
 | x,y,H,Q=>∃ d e,Dn K H x d/\Dn K H y e/\min d.depth e.depth<=60/\Q (.bl (!PyData.eqv d e)) H
noncomputable def rLtU:V->V->Hp->VK->Prop
 | .int i,.int j,H,Q=>Q (.bl (decide (i<j))) H
 | .str i,.str j,H,Q=>Q (.bl (decide (i.cps.toList<j.cps.toList))) H
 | _,_,_,_=>False
noncomputable def rLeU:V->V->Hp->VK->Prop
 | .int i,.int j,H,Q=>Q (.bl (decide (i<=j))) H
 | .str i,.str j,H,Q=>Q (.bl (!decide (j.cps.toList<i.cps.toList))) H
 | _,_,_,_=>False
noncomputable def rGtU:V->V->Hp->VK->Prop
 | .int i,.int j,H,Q=>Q (.bl (decide (j<i))) H
 | .str i,.str j,H,Q=>Q (.bl (decide (j.cps.toList<i.cps.toList))) H
 | _,_,_,_=>False
noncomputable def rGeU:V->V->Hp->VK->Prop
 | .int i,.int j,H,Q=>Q (.bl (decide (j<=i))) H
 | .str i,.str j,H,Q=>Q (.bl (!decide (i.cps.toList<j.cps.toList))) H
 | _,_,_,_=>False
noncomputable def rInR (K:PySem.W.Frag) (neg:Bool) (x:V) (p:Addr) (H:Hp) (Q:VK):Prop:=rP K neg x (.ref p) H Q\/∃ o,DGet H p x o/\Q (.bl (neg.xor o.isSome)) H
theorem rInR.l{K:PySem.W.Frag}{neg:Bool}{x:V}{p:Addr}{H:Hp}{Q:VK}{xs:List V}(h1:D6 K H p xs\/D1 K H p xs)(h2:flatV x=true)(h3:xs.all flatV=true)(h:Q (.bl (neg.xor (y7 x xs))) H):rInR K neg x p H Q:=.inl ⟨p,xs,rfl,h1,h2,h3,by cases neg <;> simpa using h⟩
theorem rInR.d{K:PySem.W.Frag}{neg:Bool}{x:V}{p:Addr}{H:Hp}{Q:VK}{o:Option V}(h1:DGet H p x o)(h:Q (.bl (neg.xor o.isSome)) H):rInR K neg x p H Q:=.inr ⟨o,h1,h⟩
noncomputable def rInU (K:PySem.W.Frag) (neg:Bool) (x:V):V->Hp->VK->Prop
 | .str j,H,Q=>∃ i,x=.str i/\Q (.bl (neg.xor (!(Builtin.Str.occurrences j i 0 j.length 1).isEmpty))) H
 | .ref p,H,Q=>rInR K neg x p H Q
 | _,_,_=>False
section
variable {X:Cx} {pins:List (Addr×Obj)} {Y:St} {H:Hp} {s:Shared}
theorem p_add:G0 X (binaryOp .Add) (rAddU X.K):=by
 sleep 0
 cases x <;> cases y <;> try exact h.elim
 .exact aoN pins s Y H _ _ v u Q I rx ry ⟨_,_,rfl,rfl,h⟩
 .exact ahV pins s Y H _ _ v u Q I rx ry ⟨_,_,rfl,rfl,h⟩
 .rcases h with h | h
  .exact ao8 pins s Y H _ _ v u Q I rx ry h
  .exact amS pins s Y H _ _ v u Q I rx ry h
theorem p_sub:G0 X (binaryOp .Sub) (s0 fun i j=>.int (i-j)):=aoO
theorem p_mul:G0 X (binaryOp .Mult) rMulU:=by
 sleep 0
 cases x <;> cases y <;> try exact h.elim
 .exact aoP pins s Y H _ _ v u Q I rx ry ⟨_,_,rfl,rfl,h⟩
 .exact ao9 pins s Y H _ _ v u Q I rx ry h
theorem aqe:G0 X (binaryOp .FloorDiv) (rI CDiv fun i j=>.int (i / j)):=amJ
theorem p_mod:G0 X (binaryOp .Mod) (rI (fun _ j=>0<j) fun i j=>.int (i % j)):=aoQ
theorem oC(hu:X.A.units+64<cLine){x y:V}{v u:Value}{Q:VK}(I:Inv X pins Y H s)(rx:RelV x v)(ry:RelV y u)(h:∃ d e,Dn X.K H x d/\Dn X.K H y e/\min d.depth e.depth<=60/\Q (.bl (Q7 d e)) H):wpAny 'a' X.A (compareOp .Eq v u) (EP X pins Y Q) X.xe s:=by
 obtain ⟨d,e,h1,h2,hd,q⟩:=h;obtain ⟨c1,as,r1⟩:=h1.reads I rfl rx;obtain ⟨c2,bs,r2⟩:=h2.reads I rfl ry;exact SeqAt.compareEq_reads r1 r2 c1 c2 'b' ⟨.bl _,H,I,rfl,q⟩
theorem oE(hu:X.A.units+64<cLine){x y:V}{v u:Value}{Q:VK}(I:Inv X pins Y H s)(rx:RelV x v)(ry:RelV y u)(h:∃ d e,Dn X.K H x d/\Dn X.K H y e/\min d.depth e.depth<=60/\Q (.bl (!PyData.eqv d e)) H):wpAny 'a' X.A (compareOp .NotEq v u) (EP X pins Y Q) X.xe s:=by
 obtain ⟨d,e,h1,h2,hd,q⟩:=h;obtain ⟨c1,as,r1⟩:=h1.reads I rfl rx;obtain ⟨c2,bs,r2⟩:=h2.reads I rfl ry;exact SeqAt.compareNe_reads r1 r2 c1 c2 'b' ⟨.bl _,H,I,rfl,q⟩
theorem p_eq(hu:X.A.units+64<cLine):G0 X (compareOp .Eq) (rEqU X.K):=by
 sleep 0;have sc:∀ {x y:V},yR x y H Q->RelV x v->RelV y u->wpAny 'a' X.A (compareOp .Eq v u) (EP X pins Y Q) X.xe s:=fun {x y} h rx ry=>op_eq pins s Y H x y v u Q I rx ry h
 cases x with
 | int i=>cases y with
  | int j=>exact sc (x:=.int i) (y:=.int j) ⟨rfl,by simpa using (show Q (.bl (decide (i=j))) H from h)⟩ rx ry
  | _=>exact oC hu I rx ry h
 | str i=>cases y with
  | str j=>exact sc (x:=.str i) (y:=.str j) ⟨rfl,by simpa using (show Q (.bl (decide (i=j))) H from h)⟩ rx ry
  | _=>exact oC hu I rx ry h
 | bl i=>cases y with
  | bl j=>exact sc (x:=.bl i) (y:=.bl j) ⟨rfl,by simpa using (show Q (.bl (decide (i=j))) H from h)⟩ rx ry
  | _=>exact oC hu I rx ry h
 | _=>cases y <;> exact oC hu I rx ry h
theorem p_ne(hu:X.A.units+64<cLine):G0 X (compareOp .NotEq) (rNeU X.K):=by
 sleep 0;have sc:∀ {x y:V},yS x y H Q->RelV x v->RelV y u->wpAny 'a' X.A (compareOp .NotEq v u) (EP X pins Y Q) X.xe s:=fun {x y} h rx ry=>op_ne pins s Y H x y v u Q I rx ry h
 cases x with
 | int i=>cases y with
  | int j=>exact sc (x:=.int i) (y:=.int j) ⟨rfl,by simpa using (show Q (.bl (!decide (i=j))) H from h)⟩ rx ry
  | _=>exact oE hu I rx ry h
 | str i=>cases y with
  | str j=>exact sc (x:=.str i) (y:=.str j) ⟨rfl,by simpa using (show Q (.bl (!decide (i=j))) H from h)⟩ rx ry
  | _=>exact oE hu I rx ry h
 | bl i=>cases y with
  | bl j=>exact sc (x:=.bl i) (y:=.bl j) ⟨rfl,by simpa using (show Q (.bl (!decide (i=j))) H from h)⟩ rx ry
  | _=>exact oE hu I rx ry h
 | _=>cases y <;> exact oE hu I rx ry h
theorem p_lt:G0 X (compareOp .Lt) rLtU:=by
 sleep 0
 cases x <;> cases y <;> try exact h.elim
 .exact op_lt pins s Y H _ _ v u Q I rx ry ⟨_,_,rfl,rfl,h⟩
 .exact aiH pins s Y H _ _ v u Q I rx ry ⟨_,_,rfl,rfl,h⟩
theorem p_le:G0 X (compareOp .LtE) rLeU:=by
 sleep 0
 cases x <;> cases y <;> try exact h.elim
 .exact op_le pins s Y H _ _ v u Q I rx ry ⟨_,_,rfl,rfl,h⟩
 .obtain ⟨t,rfl⟩:=rx;obtain ⟨t',rfl⟩:=ry;exact PySem.P.le_str ⟨.bl _,H,I,by simp [RelV],h⟩
theorem p_gt:G0 X (compareOp .Gt) rGtU:=by
 sleep 0
 cases x <;> cases y <;> try exact h.elim
 .exact op_gt pins s Y H _ _ v u Q I rx ry ⟨_,_,rfl,rfl,h⟩
 .obtain ⟨t,rfl⟩:=rx;obtain ⟨t',rfl⟩:=ry;exact PySem.P.gt_str ⟨.bl _,H,I,rfl,h⟩
theorem p_ge:G0 X (compareOp .GtE) rGeU:=by
 sleep 0
 cases x <;> cases y <;> try exact h.elim
 .exact op_ge pins s Y H _ _ v u Q I rx ry ⟨_,_,rfl,rfl,h⟩
 .obtain ⟨t,rfl⟩:=rx;obtain ⟨t',rfl⟩:=ry;exact PySem.P.ge_str ⟨.bl _,H,I,by simp [RelV],h⟩
theorem p_in(hu:X.A.units+64<cLine):G0 X (compareOp .In) (rInU X.K false):=by
 sleep 0
 cases y with
 | str j=>
  obtain ⟨i,rfl,q⟩:=h;exact aiI pins s Y H _ _ v u Q I rx ry ⟨i,j,rfl,rfl,by simpa using q⟩
 | ref p=>
  rcases h with h | ⟨o,g,q⟩
  .exact aiQ pins s Y H _ _ v u Q I rx ry h
  .obtain rfl:u=Value.ref p:=ry;exact d_in 'b' I g rx fun s3 I3=>⟨.bl o.isSome,H,I3,rfl,by simpa using q⟩
 | _=>exact h.elim
theorem am3(hu:X.A.units+64<cLine):G0 X (compareOp .NotIn) (rInU X.K true):=by
 sleep 0
 cases y with
 | str j=>
  obtain ⟨i,rfl,q⟩:=h;exact afx pins s Y H _ _ v u Q I rx ry ⟨i,j,rfl,rfl,by simpa using q⟩
 | ref p=>
  rcases h with h | ⟨o,g,q⟩
  .exact afw pins s Y H _ _ v u Q I rx ry h
  .obtain rfl:u=Value.ref p:=ry;exact amW 'b' I g rx fun s3 I3=>⟨.bl (!o.isSome),H,I3,rfl,by simpa using q⟩
 | _=>exact h.elim
noncomputable def cutS (x:Str) (lo hi:Option Int):Str:=⟨((x.cps.toList.drop (HT.sIx x.length 0 lo)).take (HT.sIx x.length x.length hi-HT.sIx x.length 0 lo)).toArray⟩
noncomputable def rSlS:V->Option Int->Option Int->Hp->VK->Prop:=fun x lo hi H Q=>∃ z,x=.str z/\z.length<=sizeLine/\Q (.str (cutS z lo hi)) H
end
end L2
variable {C T a b dx f fa it p r t0:PySem.Addr}{dvs vs xs ys:List L2.V}{Q:L2.VK}{cd ct oc pm u v vl vu:PySem.Value}{ck ep i j k lo m n sl t' x1:Nat}{items:Array PySem.Value}{fr ns:List Int}{bmB its us:List PySem.Value}{A:PySem.Around}{s s' zu:PySem.Shared}{y:L2.V}{fld name q qual x y0 z:PySem.Str}{pins:List (PySem.Addr×PySem.Obj)}{Y:L2.St}{H H' H0 H1 H2 H3 zr:L2.Hp}{h h' h2:PySem.Heap}{L M N N' S U acc bad cs X4 g' ks loose ps ts ws zs:List PySem.Str}{K:PySem.W.Frag}{mg:PySem.Str->Option PySem.Value}{fd:PySem.FuncData}{sp:L2.Sp}{X:L2.Cx}{kvs:List (L2.A7×L2.V)}{prog:PySem.Program}{ixs:List Nat}{e elt target tg:PySem.Expr}{elts es ifs:List PySem.Expr}{g:L2.TG}{c:L2.TT}{te tl:L2.TE}{fp zx rs:List PySem.Addr}{apos cpos kpos pos' spos tpos:PySem.Pos}{calm neg o:Bool}{st:PySem.Stmt}{an od:Option PySem.Addr}{tb:L2.TS}{D:L2.Ends}{ta:L2.TA}{ss:Array (Option PySem.Value)}{mo:Int}
namespace L2
open PySem PySem.Spec PyProof.Rows
section
variable {X:Cx}
theorem aiZ(x:Str)(lo hi:Option Int):Txt.slice x lo hi=cutS x lo hi:=by
 have c1:∀ (o:Option Int) (d:Nat),(match o with | none=>(d:Int) | some i=>if (1:Int) > 0 then max 0 (min (if i<0 then i+(x.length:Int) else i) (x.length:Int)) else max (-1) (min (if i<0 then i+(x.length:Int) else i) ((x.length:Int)-1)))=((HT.sIx x.length d o:Nat):Int):=by
  intro o d
  cases o with
  | none=>rfl
  | some i=>
   rw [<- HT.clip_eq i x.length d];simp only [show ((1:Int) > 0)=True by simp,if_true]
   split <;> lia
 have h2:Builtin.Str.strSliceIndices lo hi 1 x.length=Builtin.Str.strSliceIndices (some ((HT.sIx x.length 0 lo:Nat):Int)) (some ((HT.sIx x.length x.length hi:Nat):Int)) 1 x.length:=by
  have e1:=c1 lo 0;have e2:=c1 hi x.length;have e3:=c1 (some ((HT.sIx x.length 0 lo:Nat):Int)) 0;have e4:=c1 (some ((HT.sIx x.length x.length hi:Nat):Int)) x.length;have l1:=HT.sIx_le x.length 0 (J0 _) lo;have l2:=HT.sIx_le x.length x.length (C3 _) hi;rw [HT.sIx_nat,gK l1] at e3;rw [HT.sIx_nat,gK l2] at e4;unfold Builtin.Str.strSliceIndices
  dsimp only at e3 e4 ⊢
  rw [e3,e4];clear e3 e4 l1 l2;refine congr (congr (congrArg sliceRange ?_) ?_) rfl
  .cases lo with
   | none=>exact e1
   | some i=>exact e1
  .cases hi with
   | none=>exact e2
   | some i=>exact e2
 have l1:=HT.sIx_le x.length 0 (J0 _) lo;have l2:=HT.sIx_le x.length x.length (C3 _) hi;unfold Txt.slice cutS;rw [h2];generalize HT.sIx x.length 0 lo=a at *;generalize HT.sIx x.length x.length hi=b at *;have len:x.length=x.cps.toList.length:=by simp [Str.length]
 by_cases aH:a<=b
 .rw [StrLaws.sliced_plain x aH l2,StrLaws.strSliceIndices_plain aH l2]
  split
  .rename_i hc
   have aD:b-a=x.length:=by simpa using hc
   have ha:a=0:=by lia
   subst ha;rw [List.drop_zero,j1 'b']
  .rfl
 .have e:Builtin.Str.strSliceIndices (some (a:Int)) (some (b:Int)) 1 x.length=[]:=by
   have h1:¬ ((a:Int)<0):=by lia
   have h2:¬ ((b:Int)<0):=by lia
   have e1:max (0:Int) (min (a:Int) (x.length:Int))=a:=by lia
   have e2:max (0:Int) (min (b:Int) (x.length:Int))=b:=by lia
   simp only [Builtin.Str.strSliceIndices,sliceRange,h1,h2,if_false,e1,e2,show ((1:Int) > 0)=True from by simp,if_true];rw [if_neg 'b'];rfl
  rw [e,show b-a=0 by lia,j2]
  split
  .rename_i hc
   have aD:0=x.length:=by simpa using hc
   have:x.cps.toList=[]:=List.eq_nil_of_length_eq_zero 'b'
   obtain ⟨⟨l⟩⟩:=x;simp at this;subst this;rfl
  .rfl
theorem aqf:gX X rSlS:=by
 intro pins s Y H x v vl vu lo hi sl Q I rx hs pl pu h;obtain ⟨z,rfl,hz,q⟩:=h;obtain ⟨t,rfl⟩:=rx;refine ⟨"str",_,F.slot_str_getitem.lookup,typeIs_str _ _ _,?_⟩;rw [<- aiZ] at q;have part:∀ {u:Value} {o:Option Int},IsPart u o->∃ l:Option (Int×Tok),u=partValue l/\l.map (·.1)=o:=fun {u o} p=>by
  cases p with
  | none=>exact ⟨none,rfl,rfl⟩
  | int i t=>exact ⟨some (i,t),rfl,rfl⟩
 obtain ⟨l,rfl,el⟩:=part pl;obtain ⟨u,rfl,eu⟩:=part pu;subst el eu;refine wpAny_getItem_str_slice (l:=l) (u:=u) (st:=none) hs rfl ?_;exact post_val_or_str ⟨D5 (Txt.slice_le z _ _) hz,fun t' k=>⟨.str _,H,I.tok _,⟨t',rfl⟩,q⟩⟩
theorem ac1{w:World}{E:Value->Shared->Prop}{t sl:Addr}{lo hi:Option Int}{Q:Value->Shared->Prop}(ht:IsTup s.heap t items)(hs:s.heap.IsSliceOf sl vl vu .none)(pl:IsPart vl lo)(pu:IsPart vu hi)(hw:HT.sIx items.size 0 lo=0/\HT.sIx items.size items.size hi=items.size)(h:Q (.ref t) s):wpAny 'd' A (getItem (.ref t) (.ref sl)) Q E s:=by
 obtain ⟨os,fG,pY,lN⟩:=id hs;have hTs:s.TypeIs (.ref sl) "slice":=⟨os,fG,pY⟩
 unfold getItem
 try with_reducible refine wpAny_holding ?_
 first | refine wpAny_bind (wpAny_pure ?_) | skip
 refine wpAny_bind (wpAny_sequenceKey ht.typeIs 'g' ?_);refine wpAny_bind (wpAny_callSpecial?_slot (name:=Str.ofString "__getitem__") ht.typeIs PyProof.Rows.slot_tuple_getitem
  (wpAny_call_entry PyProof.Rows.slot_tuple_getitem ht.typeIs PyProof.Rows.entry_tuple_getitem ?_ (PyProof.Rows.args_tuple_getitem _ _)))
 show wpAny _ _ (Builtin.Tuple.tupleItemsOf (.ref t) >>= _) _ _ s;refine wpAny_bind (PyProof.Rows.tupleItemsOf_ ht ?_);refine wpAny_bind (wpAny_typeOf hTs ?_);rw [if_pos 'g'];refine wpAny_bind (HT.sliceApplied_gen hs pl pu ?_);have wG:((((HT.sIx items.size 0 lo:Nat):Int)==0&&(1:Int)==1&&(HT.sIx items.size items.size hi-HT.sIx items.size 0 lo)==items.size)=true):=by
  rw [hw.1,hw.2]
  simp
 show wpAny _ _ (if (((HT.sIx items.size 0 lo:Nat):Int)==0&&(1:Int)==1&&(HT.sIx items.size items.size hi-HT.sIx items.size 0 lo)==items.size)=true then _ else _) _ _ s;rw [if_pos wG];refine wpAny_bind ?_;show wpAny _ _ (typeOf (.ref t) >>= fun v=>pure (v == .type "tuple")) _ _ s;refine wpAny_bind (wpAny_typeOf ht.typeIs (wpAny_pure ?_));rw [if_pos 'g'];refine wpAny_bind (wpAny_rule ?_);exact wpAny_pure ⟨_,rfl,wpAny_pure h⟩
noncomputable def rSlW (K:PySem.W.Frag):V->Option Int->Option Int->Hp->VK->Prop:=fun x lo hi H Q=>∃ a xs,x=.ref a/\D1 K H a xs/\(HT.sIx xs.length 0 lo=0/\HT.sIx xs.length xs.length hi=xs.length)/\Q 'f' H
theorem aqg:gX X (rSlW X.K):=by
 intro pins s Y H x v vl vu lo hi sl Q I rx hs pl pu h;obtain ⟨a,xs,rfl,hx,hw,q⟩:=h
 cases rx
 obtain ⟨its,r,ht,hz⟩:=I.tuple hx;have A6:its.toArray.size=xs.length:=by rw [K3];exact r.length.symm
 refine ⟨"tuple",_,PyProof.Rows.slot_tuple_getitem.lookup,ht.typeIs,?_⟩;exact ac1 ht hs pl pu (by rw [A6];exact hw) ⟨.ref a,H,I,rfl,q⟩
noncomputable def rSlR (K:PySem.W.Frag) (a:Addr) (lo hi:Option Int) (H:Hp) (Q:VK):Prop:=rSlL K 'f' lo hi H Q\/rSlT K 'f' lo hi H Q\/rSlW K 'f' lo hi H Q
theorem rSlR.l{lo hi:Option Int}(h1:D6 K H a xs)(h:∀ p,H p=none->Q (.ref p) (A0 H p (.lst (cutV xs lo hi)))):rSlR K a lo hi H Q:=.inl ⟨a,xs,rfl,h1,h⟩
theorem rSlR.t{lo hi:Option Int}(h1:D1 K H a xs)(h2:¬ (HT.sIx xs.length 0 lo=0/\HT.sIx xs.length xs.length hi=xs.length))(h:∀ p,H p=none->Q (.ref p) (A0 H p (.tup (cutV xs lo hi)))):rSlR K a lo hi H Q:=.inr (.inl ⟨a,xs,rfl,h1,h2,h⟩)
theorem rSlR.w{lo hi:Option Int}(h1:D1 K H a xs)(h2:HT.sIx xs.length 0 lo=0/\HT.sIx xs.length xs.length hi=xs.length)(h:Q 'f' H):rSlR K a lo hi H Q:=.inr (.inr ⟨a,xs,rfl,h1,h2,h⟩)
noncomputable def rSlU (K:PySem.W.Frag):V->Option Int->Option Int->Hp->VK->Prop
 | .str z,lo,hi,H,Q=>z.length<=sizeLine/\Q (.str (cutS z lo hi)) H
 | .ref a,lo,hi,H,Q=>rSlR K a lo hi H Q
 | _,_,_,_,_=>False
theorem p_sl:gX X (rSlU X.K):=by
 intro pins s Y H x v vl vu lo hi sl Q I rx hs pl pu h
 cases x with
 | str z=>exact aqf pins s Y H _ v vl vu lo hi sl Q I rx hs pl pu ⟨z,rfl,h⟩
 | ref a=>
  rcases h with h | h | h
  .exact amU pins s Y H _ v vl vu lo hi sl Q I rx hs pl pu h
  .exact ao2 pins s Y H _ v vl vu lo hi sl Q I rx hs pl pu h
  .exact aqg pins s Y H _ v vl vu lo hi sl Q I rx hs pl pu h
 | _=>exact h.elim
noncomputable def LenR (K:PySem.W.Frag) (H:Hp) (p:Addr) (n:Nat):Prop:=(∃ xs,D6 K H p xs/\n=xs.length)\/(∃ xs,D1 K H p xs/\n=xs.length)\/∃ kvs,Rd H p (.dK kvs)/\n=kvs.length
noncomputable def rLenU (K:PySem.W.Frag):List V->Hp->VK->Prop
 | [.str z],H,Q=>z.length<=sizeLine/\Q (.int z.length) H
 | [.ref p],H,Q=>∃ n:Nat,LenR K H p n/\Q (.int n) H
 | _,_,_=>False
theorem p_len:CallR X (.builtin "len") (rLenU X.K):=by
 intro pins s Y H xs us Q I r h
 match xs,h with
 | [.str z],h=>exact rH pins s Y H _ us Q I r ⟨.str z,z.length,rfl,⟨h.1,rfl⟩,h.2⟩
 | [.ref p],⟨n,l,q⟩=>
  rcases l with ⟨xs,l,rfl⟩ | ⟨xs,l,rfl⟩ | ⟨kvs,l,rfl⟩
  .exact rH pins s Y H _ us Q I r ⟨.ref p,_,rfl,.inl ⟨xs,l,rfl⟩,q⟩
  .exact rH pins s Y H _ us Q I r ⟨.ref p,_,rfl,.inr ⟨xs,l,rfl⟩,q⟩
  .obtain ⟨u,rfl,ru⟩:=vals1 r
   cases ru
   exact d_len I l fun t s' I'=>⟨.int kvs.length,H,I',⟨t,rfl⟩,q⟩
theorem aef(hc:X.calm=true):CallR X (.type "list") (fun xs H Q=>∃ d kvs,xs=[.ref d]/\Rd H d (.dK kvs)/\∀ l,H l=none->Q (.ref l) (A0 H l (.lst (kvs.map fun kv=>kV kv.1)))):=by
 intro pins s Y H xs us Q I r h;obtain ⟨d,kvs,rfl,e,q⟩:=h;obtain ⟨u,rfl,rx⟩:=vals1 r
 cases rx
 obtain ⟨z,hd,vs,rel,dd⟩:=dk_rd I.hok e;obtain ⟨ep,N0⟩:=dd.dictAt;have hl:=rel.length;refine PySem.W.kdl_call (PySem.W.kdl_dict (knd:=M4 X.prog X.w) (kvs:=vs) (ep:=ep) hd) (I.ok.hd hc) N0 'b' fun h' tk acc c' kp hD V8=>?_
 have hv:Vals (kvs.map fun kv=>kV kv.1) acc.toList:=by
  have hk:=rel.keys;have A6:acc.toList.length=kvs.length:=by rw [P3,V8.1,hl]
  have key:∀ (ks:List A7) (us:List Value),us.length=ks.length->(∀ (j:Nat) (v:Value),us[j]?=some v->∃ k,ks[j]?=some k/\keyIs k v=true)->Vals (ks.map kV) us:=by
   intro ks
   induction ks with
   | nil=>intro us h1 _;cases us with
    | nil=>exact .nil
    | cons _ _=>simp at h1
   | cons k ks ih=>
    intro us h1 h2
    cases us with
    | nil=>simp at h1
    | cons u us=>
     obtain ⟨k',e1,e2⟩:=h2 0 u rfl;simp at e1;subst e1;refine .cons ?_ (ih us (by simpa using h1) fun j v hj=>by simpa using h2 (j+1) v (by simpa using hj))
     rcases f9 e2 with ⟨i,t,rfl,rfl⟩ | ⟨x,t,rfl,rfl⟩
     .exact ⟨t,rfl⟩
     .exact ⟨t,rfl⟩
  rw [show (kvs.map fun kv=>kV kv.1)=(kvs.map (·.1)).map kV by rw [Q5];rfl];refine key _ _ (by rw [A6,A3]) fun j v hj=>?_
  obtain ⟨k,x,hx,lT⟩:=V8.2 j v (by rw [<- eI];exact hj);refine ⟨k,?_,lT⟩;rw [hk,P1,hx];rfl
 refine ⟨.ref s.heap.objs.size,_,I.laid (t':=tk) kp (C3 _) (show ObjOk X.prog X.w _ h' _ (.lst (kvs.map fun kv=>kV kv.1)) from ⟨by rw [A3];exact z,acc.toList,c',hv,by simpa using hD⟩),rfl,q _ (I.hok.fresh (C3 _))⟩
noncomputable def rListR (K:PySem.W.Frag) (calm:Bool) (p:Addr) (H:Hp) (Q:VK):Prop:=(∃ ys,(D6 K H p ys\/D1 K H p ys)/\∀ l,H l=none->Q (.ref l) (A0 H l (.lst ys)))\/(calm=true/\∃ kvs,Rd H p (.dK kvs)/\∀ l,H l=none->Q (.ref l) (A0 H l (.lst (kvs.map fun kv=>kV kv.1))))
theorem rListR.l(h1:D6 K H p ys\/D1 K H p ys)(h:∀ l,H l=none->Q (.ref l) (A0 H l (.lst ys))):rListR K calm p H Q:=.inl ⟨ys,h1,h⟩
theorem rListR.d(h1:Rd H p (.dK kvs))(h:∀ l,H l=none->Q (.ref l) (A0 H l (.lst (kvs.map fun kv=>kV kv.1)))):rListR K true p H Q:=.inr ⟨rfl,kvs,h1,h⟩
noncomputable def sC (K:PySem.W.Frag) (calm:Bool):List V->Hp->VK->Prop
 | [.ref p],H,Q=>rListR K calm p H Q
 | _,_,_=>False
theorem aqh:CallR X (.type "list") (sC X.K X.calm):=by
 intro pins s Y H xs us Q I r h
 match xs,h with
 | [.ref p],h=>
  rcases h with ⟨ys,h1,h2⟩ | ⟨hc,kvs,h1,h2⟩
  .exact afy pins s Y H _ us Q I r ⟨p,ys,rfl,h1,h2⟩
  .exact aef hc pins s Y H _ us Q I r ⟨p,kvs,rfl,h1,h2⟩
noncomputable def rAllB (calm:Bool):List V->Hp->VK->Prop
 | [.ref p],H,Q=>∃ bs:List Bool,calm=true/\H p=some (.lst (bs.map V.bl))/\Q (.bl (bs.all id)) H
 | _,_,_=>False
noncomputable def iA (H:Hp):V->Option String
 | .non=>some "NoneType"
 | .bl _=>some "bool"
 | .int _=>some "int"
 | .str _=>some "str"
 | .ref a=>match H a with
  | some (.lst _)=>some "list"
  | some (.frz _ (.lst _))=>some "list"
  | some (.tup _)=>some "tuple"
  | some (.dK _)=>some "dict"
  | _=>none
 | _=>none
noncomputable def sD (T n:String):Bool:=T==n || (T == "bool" && n == "int")
noncomputable def isTys:List String:=["str", "int", "bool", "list", "tuple", "dict"]
noncomputable def rIsi:List V->Hp->VK->Prop
 | [x,.ty n],H,Q=>∃ T,iA H x=some T/\isTys.contains n=true/\Q (.bl (sD T n)) H
 | _,_,_=>False
theorem aqi{x:V}{T:String}(h:iA H x=some T):TyOf K H x (.type T)/\["NoneType", "bool", "int", "str", "list", "tuple", "dict"].contains T=true:=by
 cases x with
 | non=>cases h;exact ⟨.non,by decide⟩
 | bl b=>cases h;exact ⟨.bl b,by decide⟩
 | int i=>cases h;exact ⟨.int i,by decide⟩
 | str z=>cases h;exact ⟨.str z,by decide⟩
 | ref a=>
  unfold iA at h
  dsimp only at h
  cases e:H a with
  | none=>rw [e] at h;cases h
  | some o=>
   rw [e] at h
   cases o with
   | lst xs=>cases h;exact ⟨.lst e,by decide⟩
   | tup xs=>cases h;exact ⟨.tup e,by decide⟩
   | dK kvs=>cases h;exact ⟨.dK e,by decide⟩
   | frz ob u=>
    cases u with
    | lst xs=>cases h;exact ⟨.frz e,by decide⟩
    | _=>cases h
   | _=>cases h
 | _=>cases h
theorem am4(K:PySem.W.Frag):∀ T∈["NoneType", "bool", "int", "str", "list", "tuple", "dict"],∀ n∈isTys,C5 K (.type T) (.type n)=some (sD T n):=by
 intro T hT n hn;simp only [F9,eD,or_false,isTys] at hT hn
 rcases hT with rfl | rfl | rfl | rfl | rfl | rfl | rfl <;> rcases hn with rfl | rfl | rfl | rfl | rfl | rfl <;> rfl
theorem akK:CallR X (.builtin "isinstance") rIsi:=by
 intro pins s Y H xs us Q I r h
 match xs,h with
 | [x,.ty n],⟨T,h1,h2,q⟩=>
  obtain ⟨u,c,rfl,ru,rc⟩:=vals2 r;obtain rfl:c=Value.type n:=rc;obtain ⟨h3,h4⟩:=aqi (K:=X.K) h1;exact aiL I ru h3 (am4 X.K T (by simpa using h4) n (by simpa using h2)) fun tk=>⟨.bl _,H,I.tok tk,rfl,q⟩
noncomputable def rOrd:List V->Hp->VK->Prop
 | [.str z],H,Q=>z.length=1/\Q (.int (z.cps.getD 0 0:Nat)) H
 | _,_,_=>False
noncomputable def iB (x:Str):It:=⟨fun i _=>i<x.cps.size,fun i H v H'=>H'=H/\∃ c,x.cps.toList[i]?=some c/\v=.str ⟨#[c]⟩,fun i _=>x.cps.size<=i⟩
theorem akL{P:Program}{w:World}{ty:String}(V7:ty="str_ascii_iterator"\/ty="str_iterator")(it:Addr)(x:Str)(t:Tok):Turn P w K tg (iB x) [it] it (fun i h=>h.IsStrIter it ty x t i) where
 mem:=by simp
 obj:=fun i h st b hb=>by
  have e:b=it:=by simpa using hb
  subst e;obtain ⟨o,e,c,d⟩:=st;exact ⟨o,e,fun v z=>by rw [d] at z;cases z⟩
 keep:=fun i h h' st k=>let ⟨o,e,r⟩:=st;⟨o,k it 'c' o e,r⟩
 item:=by
  intro X hP hw hK hc i pins s Y H E I hf st hg;subst hP hw hK;obtain ⟨f0,f1,f2,f3,f4,f5⟩:=hf it 'c';have jD:i<x.cps.size:=hg;have go:∀ h',h'.IsStrIter it ty x t (i+1)->Heap.SameBut it s.heap h'->∃ u,some (Value.str ⟨#[x.cps[i]]⟩ s.toks)=some u/\
    wpAny 'a' X.A (letOwnedTupleGo tg (.ref it) u) (fun _ s2=>∃ y H',Inv X pins Y H' s2/\RelV y u/\(iB x).yld i H y H'/\s2.heap.IsStrIter it ty x t (i+1)/\∀ b∈[it],H' b=none) E { s with heap:=h',toks:=s.toks+1 }:=by
   intro h' st' sb;have I1:Inv X pins Y H { s with heap:=h',toks:=s.toks+1 }:=I.turned (t':=s.toks+1) (fun b o hb e=>(sb.2 b hb).trans e) f0 f1 f3 f4 f5;obtain ⟨o,e,c,d⟩:=id st';refine ⟨_,rfl,go_of (s:={ s with heap:=h',toks:=s.toks+1 }) e c d (by rcases V7 with rfl | rfl <;> decide) ⟨.str ⟨#[x.cps[i]]⟩,H,I1,⟨_,rfl⟩,⟨rfl,x.cps[i],?_,rfl⟩,st',fun b hb=>(hf b hb).1⟩⟩;simp [jD]
  rcases V7 with rfl | rfl
  .exact wpAny_pyNext_ascii_item st (c:=x.cps[i]) (by simp [jD]) go
  .exact wpAny_pyNext_wide_item st (c:=x.cps[i]) (by simp [jD]) go
 done:=by
  intro X hP hw hK hc i pins s Y H E I hf st hg;subst hP hw hK;obtain ⟨f0,f1,f2,f3,f4,f5⟩:=hf it 'c';have jD:x.cps.size<=i:=hg;have fin:∀ h',Heap.ExtBut it s.heap h'->(none:Option Value)=none/\Inv X pins Y H { s with heap:=h' }:=fun h' eb=>⟨rfl,I.turned (t':=s.toks) (fun b o hb e=>eb b o hb e) f0 f1 f3 f4 f5⟩
  rcases V7 with rfl | rfl
  .exact wpAny_pyNext_ascii_end (I.ok.hd hc) st (by simp [jD]) fin
  .exact wpAny_pyNext_wide_end (I.ok.hd hc) st (by simp [jD]) fin
 self:=fun A i s Q E st h=>by
  rcases V7 with rfl | rfl
  .exact wpAny_pyIter_striter_ascii st h
  .exact wpAny_pyIter_striter_wide st h
noncomputable def iStr (tl:TE):TI:=fun Y H R=>tl Y H fun x H1=>∃ z,x=.str z/\R (iB z) H1
variable {tg:Expr}
theorem aqj{l:Expr}(hl:PE X l tl):PI X tg l (iStr tl):=by
 intro pins s Y H R I h;refine B3 (hl pins s Y H _ I h) fun v s1 ⟨x,H1,I1,r1,q1⟩=>?_
 obtain ⟨z,rfl,q⟩:=q1;obtain ⟨t,rfl⟩:=r1;have fin:∀ (ty:String) (V7:ty="str_ascii_iterator"\/ty="str_iterator"),rE X pins Y tg R (.ref s1.heap.objs.size) { s1 with heap:=s1.heap.push { cls:=.type ty,data:=.fields #[.str z t,.int 0 0] } }:=fun ty V7=>by
  refine ⟨s1.heap.objs.size,[s1.heap.objs.size],_,_,H1,rfl,I1.kept (t':=s1.toks) fun b o e=>Heap.get?_push_of_some _ e,akL V7 s1.heap.objs.size z t,⟨_,Heap.get?_push_size _ rfl,rfl,rfl⟩,fun b hb=>?_,q⟩;have e:b=s1.heap.objs.size:=by simpa using hb
  subst e;exact I1.fpOk (C3 _) (I1.hok.fresh (C3 _))
 cases ha:z.cps.all (· < 128)
 .exact wpAny_pyIter_wide ha (fin _ (.inr rfl))
 .exact wpAny_pyIter_ascii ha (fin _ (.inl rfl))
end
noncomputable def L6:Expr->Bool
 | .Starred _ _=>true
 | _=>false
noncomputable def Y3 (es:List Expr):Bool:=es.all fun e=>!L6 e
theorem O7{env:Env}(h:L6 e=false):starEach (e::es) env=(false,eval e env)::starEach es env:=by
 cases e <;> first | rfl | cases h
theorem iC{pos:Pos}{env:Env} : ∀ {es:List Expr},Y3 es=true->(backTo pos (starEach es env)).any (·.1)=false
 | [],_=>rfl
 | e::es,h=>by
  have h':(!L6 e&&Y3 es)=true:=h;rw [W4] at h';rw [O7 (by simpa using h'.1)];have ih:=iC (pos:=pos) (env:=env) h'.2;unfold backTo at ih ⊢
  rw [J3,aT,ih];rfl
theorem ahc{pos:Pos}{env:Env} : ∀ {es:List Expr},Y3 es=true->(backTo pos (starEach es env)).all (fun x=>!x.1)=true
 | [],_=>rfl
 | e::es,h=>by
  have h':(!L6 e&&Y3 es)=true:=h;rw [W4] at h';rw [O7 (by simpa using h'.1)];have ih:=ahc (pos:=pos) (env:=env) h'.2;unfold backTo at ih ⊢
  rw [J3,List.all_cons,ih];rfl
section
variable {X:Cx} {e:Expr} {es:List Expr} {te:TE} {t:TA} {x:Str} {p pos:Pos} {id T:String} {r:List V->Hp->VK->Prop}
theorem pa_c(ha:PE X e te)(hr:PA X es t)(h:L6 e=false:=by rfl):PA X (e::es) (tCons te t):=amO ha hr (O7 h)
theorem pe_cB(hc:CallR X (.builtin id) r)(hg:Gl X x)(hm:X.mg x=none)(hv:bootBuiltins x=some (.builtin id))(ha:PA X (e::es) t)(h1:L6 e=false:=by rfl)(h2:Y3 es=true:=by rfl)(hn:x≠"__name__":=by decide)(N2:(x==("__debug__" : Str))=false:=by decide) :
  PE X (.Call (.Name x p) (e::es) [] pos) (eJ r t):=aky hc hg hm hv ha hn N2 (O7 h1) (iC h2)
theorem pe_cT(hc:CallR X (.type T) r)(hg:Gl X x)(hm:X.mg x=none)(hv:bootBuiltins x=some (.type T))(ha:PA X (e::es) t)(h1:L6 e=false:=by rfl)(h2:Y3 es=true:=by rfl)(hn:x≠"__name__":=by decide)(N2:(x==("__debug__" : Str))=false:=by decide) :
  PE X (.Call (.Name x p) (e::es) [] pos) (eJ r t):=aiO hc hg hm hv ha hn N2 (O7 h1) (iC h2)
variable {o:Expr} {to:TE} {name:Str} {apos cpos:Pos} {rm:V->List V->Hp->VK->Prop}
theorem pe_mB(pa:PlainAttrs T)(slot:Slot T name id)(V7:typeOf (.builtin id)=pure (.type "method_descriptor"))(hm:nV X id rm)(ho:PE X o to)(ha:PA X (e::es) t)(h1:L6 e=false:=by rfl)(h2:Y3 es=true:=by rfl)(h3:decide ((e::es).length<30)=true:=by rfl)(D9:attributeBase o name X.env (eval o X.env)=eval o X.env:=by rfl)(E7:(apos.endLine==cpos.line)=true:=by rfl):PE X (.Call (.Attribute o name apos) (e::es) [] cpos) (nW X.K T rm to t):=
 pe_bm pa slot V7 hm ho ha D9 (by
  rw [ahc (show Y3 (e::es)=true by show (!L6 e&&Y3 es)=true;rw [h1,h2];rfl)];have h3':(e::es).length<30:=of_decide_eq_true h3;simp only [List.isEmpty_nil,if_true,T8,Nat.add_zero,Bool.true_and];rw [decide_eq_true h3'];rfl) E7 (O7 h1) (iC h2)
variable {tg a b:Expr} {ta:TA}
theorem pi_r1(hg:Gl X "range")(hm:X.mg "range"=none)(ha:PA X [a] ta)(h1:L6 a=false:=by rfl):PI X tg (.Call (.Name "range" p) [a] [] pos) (iRng1 ta):=aiA hg hm ha (by rw [O7 h1];rfl)
theorem pi_r2(hg:Gl X "range")(hm:X.mg "range"=none)(ha:PA X [a,b] ta)(h1:L6 a=false:=by rfl)(h2:L6 b=false:=by rfl):PI X tg (.Call (.Name "range" p) [a,b] [] pos) (iRng2 ta):=aiB hg hm ha (by rw [O7 h1,O7 h2];rfl) (by rw [O7 h2];rfl)
end
noncomputable def FO (P:Program) (w:World) (K:PySem.W.Frag) (mg:Str->Option Value) (base:Heap) (k:Nat) (x:Str) (ps:List Str) (dvs:List V) (sp:Sp):Prop:=
 ∃ f fd,FnOk P w K mg base G9 k f fd ps sp/\mg x=some (.ref f)/\O8 K (.ref f)=true/\∃ ds,Binds K fd ps ds/\Vals dvs ds
structure FunD(K:PySem.W.Frag)(x qual:Str)(st:Stmt)(f:Addr)(fd:FuncData):Prop where
 ex:∃ (oc:Value) (od:Option Addr) (dV kV doc pm:Value) (an:Option Addr) (cdv ct:Value) (osl:Array (Option Value)),
  fd=P7 x qual (R7 st) (P9 st) (C8 st) dV kV doc pm an cdv ct/\K.lookup f=some ⟨oc,od,.func fd,osl⟩/\U8 K cdv qual=true
section
variable {P:Program} {w:World} {K:PySem.W.Frag} {mg:Str->Option Value} {base:Heap}
theorem FunD.ok(F:FunD K x qual st f fd)(S:FnScope N ps (C8 st))(len:∀ vs H Q E,sp vs H Q E->vs.length=ps.length)(V6:∀ (cdv:Value) (A:Around) (outer:List Env) (s:Shared) (H:Hp) (vs:List V) (Q:VK) (E:XK),Room k (A.deeper (envOfC qual (C8 st) s.heap.objs.size f cdv))->sp vs H Q E->
   ∃ t,W5 (cxOf G9 P w K mg base N qual (C8 st) f cdv A outer s H E).nox (P9 st) t/\t { nx:=fun _ H'=>Q .non H',rt:=Q } (start N vs) H):FnOk P w K mg base G9 (k+1) f fd ps sp:=by
 obtain ⟨oc,od,dV,kV,doc,pm,an,cdv,ct,osl,rfl,lk,T3⟩:=F.ex;refine fn_of lk T3 S len fun A outer s H vs Q E hr aE=>?_
 obtain ⟨t,h,q⟩:=V6 cdv A outer s H vs Q E hr aE;exact ⟨t,h.nox,q⟩
theorem l7{osl:Array (Option Value)}{dV kV doc cdv:Value}(l:K.lookup f=some ⟨oc,od,.func (P7 x qual (R7 st) (P9 st) (C8 st) dV kV doc pm an cdv ct),osl⟩)(c:U8 K cdv qual=true):FunD K x qual st f (P7 x qual (R7 st) (P9 st) (C8 st) dV kV doc pm an cdv ct):=⟨oc,od,dV,kV,doc,pm,an,cdv,ct,osl,rfl,l,c⟩
end
section
variable {X:Cx} {k:Nat} {ps:List Str} {sp:Sp} {dvs:List V} {x:Str} {p pos:Pos} {e:Expr} {es:List Expr} {t:TA}
theorem akM(G:FO X.prog X.w X.K X.mg X.base k x ps dvs sp)(hr:Room k X.A)(ha:PA X (e::es) t)(hg:Gl X x:=by rfl)(h1:L6 e=false:=by rfl)(h2:Y3 es=true:=by rfl)(N2:(x==("__debug__" : Str))=false:=by decide):PE X (.Call (.Name x p) (e::es) [] pos) (tCall sp dvs E0 t):=by
 obtain ⟨f,fd,F,hm,hk,ds,hb,hd⟩:=G;exact zE F hr hg hm hk hb hd pass0 ha N2 (O7 h1) (iC h2)
theorem akN{i:Int}(h:∃ t,X.mg x=some (.int i t))(hg:Gl X x:=by rfl)(hd:(x==("__debug__" : Str))=false:=by decide):PE X (.Name x p) (tC (.int i)):=by
 obtain ⟨t,h⟩:=h;exact yP hg h ⟨t,rfl⟩ hd
theorem akO(h:X.mg x=some 'f')(hg:Gl X x:=by rfl)(hd:(x==("__debug__" : Str))=false:=by decide):PE X (.Name x p) (tC 'f'):=yP hg h rfl hd
end
section
variable {Y:St} {H:Hp} {Q:VK} {B:Bool->Hp->Prop} {ta tb tc te:TE} {t u:TS} {tt uu:TT} {D:Ends} {i:Nat} {v:V} {r r':R2} {K:PySem.W.Frag} {taa:TA} {R:List V->Hp->Prop} {g:TG}
theorem amj:tVar i Y H Q=∃ v,(Y[i]?).join=some v/\Q v H:=by
 unfold tVar;refine propext ⟨fun ⟨v,h,q⟩=>⟨v,by rw [h];rfl,q⟩,fun ⟨v,h,q⟩=>⟨v,?_,q⟩⟩;cases e:Y[i]? with
 | none=>rw [e] at h;cases h
 | some o=>rw [e] at h;exact congrArg some h
theorem ap_c:tC v Y H Q=Q v H:=rfl
theorem ap_op:aZ r ta tb Y H Q=ta Y H fun x H1=>tb Y H1 fun y H2=>r x y H2 Q:=rfl
theorem ap_un{ru:V->Hp->VK->Prop} : rF ru ta Y H Q=ta Y H fun x H1=>ru x H1 Q:=rfl
theorem ap_rU{f:Int->V}{x:V} : rU f x H Q=∃ i,x=.int i/\Q (f i) H:=rfl
theorem am5:tTest ta Y H B=ta Y H fun x H'=>∃ k,x=.bl k/\B k H':=rfl
theorem ap_tB:tB ta Y H B=ta Y H fun x H'=>∃ k,x=.bl k/\B k H':=rfl
theorem am6:tTru K ta Y H B=ta Y H fun x H'=>∃ k,TruV K x H' k/\B k H':=rfl
theorem am7:tNotT K ta Y H Q=ta Y H fun x H'=>∃ k,TruV K x H' k/\Q (.bl (!k)) H':=rfl
theorem akP:rG r r' ta tb tc Y H Q=ta Y H fun x H1=>tb Y H1 fun y H2=>r x y H2 fun z H3=>∃ k,z=.bl k/\(if k=true then tc Y H3 fun w' H4=>r' y w' H4 Q else Q (.bl false) H3):=rfl
theorem aqk:tAnd tt uu Y H B=tt Y H fun c H1=>if c=true then uu Y H1 B else B false H1:=rfl
theorem ap_or:qZ tt uu Y H B=tt Y H fun c H1=>if c=true then B true H1 else uu Y H1 B:=rfl
theorem aql:tNot tt Y H B=tt Y H fun c H1=>B (!c) H1:=rfl
theorem am8:tAndV ta tb Y H Q=ta Y H fun x H1=>∃ c,x=.bl c/\if c=true then tb Y H1 Q else Q (.bl false) H1:=rfl
theorem aqm:tOrV ta tb Y H Q=ta Y H fun x H1=>∃ c,x=.bl c/\if c=true then Q (.bl true) H1 else tb Y H1 Q:=rfl
theorem am9:tNotV ta Y H Q=ta Y H fun x H1=>∃ c,x=.bl c/\Q (.bl (!c)) H1:=rfl
theorem ap_if:rA tt ta tb Y H Q=tt Y H fun c H1=>if c=true then ta Y H1 Q else tb Y H1 Q:=rfl
theorem ana:tNext D Y H=D.nx Y H:=rfl
theorem aqn:tSeq t u D Y H=t { D with nx:=u D } Y H:=rfl
theorem akQ:aoD D Y H=D.bk Y H:=rfl
theorem anb:tCont D Y H=D.ct Y H:=rfl
theorem anc:tDrop te D Y H=te Y H fun _ H1=>D.nx Y H1:=rfl
theorem aqo:tRet te D Y H=te Y H D.rt:=rfl
theorem ane:tRetN D Y H=D.rt .non H:=rfl
theorem aqp:tIfS tt t u D Y H=tt Y H fun b H1=>if b=true then t D Y H1 else u D Y H1:=rfl
theorem akR:aoF D Y H=False:=rfl
theorem anf{Z:St->Hp->Prop} : gName i v Y H Z=Z (Y.set i (some v)) H:=rfl
theorem ang{Z:St->Hp->Prop} : gNil vs Y H Z=(vs=[]/\Z Y H):=rfl
theorem akS{us:j9}{Z:St->Hp->Prop} : gCons g us vs Y H Z=∃ v r,vs=v::r/\g v Y H fun σ' H'=>us r σ' H' Z:=rfl
theorem anh{us:j9}{Z:St->Hp->Prop} : gTup K n us v Y H Z=∃ a xs,v=.ref a/\D1 K H a xs/\xs.length=n/\us xs Y H Z:=rfl
theorem ani{ts:TSet}{Z:St->Hp->Prop} : gSub ta tb ts v Y H Z=ta Y H fun o H1=>tb Y H1 fun i H2=>ts o i v H2 fun H3=>Z Y H3:=rfl
theorem aqq:tAsg te g D Y H=te Y H fun x H1=>g x Y H1 D.nx:=rfl
theorem aqr{ti:cR} : tAug i te ti D Y H=∃ x,(Y[i]?).join=some x/\te Y H fun y H1=>ti x y H1 fun z H2=>D.nx (Y.set i (some z)) H2:=amj (Q:=fun x H=>te Y H fun y H1=>ti x y H1 fun z H2=>D.nx (Y.set i (some z)) H2)
theorem aqs{f:Int->Int->Int}{x:V} : rD f x y H Q=∃ i j,x=.int i/\y=.int j/\Q (.int (f i j)) H:=rfl
theorem anj:tCons te taa Y H R=te Y H fun x H1=>taa Y H1 fun xs H2=>R (x::xs) H2:=rfl
theorem aqt:tNil Y H R=R [] H:=rfl
theorem ank{E:XK} : tCall sp dvs E taa Y H Q=taa Y H fun vs H1=>sp (vs++dvs) H1 Q E:=rfl
theorem ap_cb{rc:List V->Hp->VK->Prop} : eJ rc taa Y H Q=taa Y H fun vs H1=>rc vs H1 Q:=rfl
theorem aqu:tTup taa Y H Q=taa Y H fun xs H1=>xs.length<=sizeLine/\∀ p,H1 p=none->Q (.ref p) (A0 H1 p (.tup xs)):=rfl
theorem aqv:tLst taa Y H Q=taa Y H fun xs H1=>xs.length<=sizeLine/\∀ p,H1 p=none->Q (.ref p) (A0 H1 p (.lst xs)):=rfl
theorem ap_sl{rs:V->Option Int->Option Int->Hp->VK->Prop}{tl th:TO} : rN rs te tl th Y H Q=te Y H fun x H1=>tl Y H1 fun l H2=>th Y H2 fun u H3=>rs x l u H3 Q:=rfl
theorem ai1{O:Option Int->Hp->Prop} : rL Y H O=O none H:=rfl
theorem anl{O:Option Int->Hp->Prop} : tPart te Y H O=te Y H fun x H1=>∃ i,x=.int i/\O (some i) H1:=rfl
theorem ap_bm{T:String}{rm:V->List V->Hp->VK->Prop} : nW K T rm te taa Y H Q=te Y H fun x H1=>cU K T x H1/\taa Y H1 fun xs H2=>rm x xs H2 Q:=rfl
theorem aqw{T:String}{rm:V->List V->Hp->VK->Prop} : tBM0 K T rm te Y H Q=te Y H fun x H1=>cU K T x H1/\rm x [] H1 Q:=rfl
theorem aqx:tYes Y H B=B true H:=rfl
theorem anm:rV Y H Q=∀ p,H p=none->Q (.ref p) (A0 H p (.dK [])):=rfl
theorem ann:tDGet ta tb Y H Q=ta Y H fun x H1=>tb Y H1 fun y H2=>∃ a v,x=.ref a/\DGet H2 a y (some v)/\Q v H2:=rfl
theorem ano:sDPut ta tb tc D Y H=tc Y H fun v H1=>ta Y H1 fun x H2=>tb Y H2 fun y H3=>∃ a H4,x=.ref a/\DPut H3 a y v H4/\D.nx Y H4:=rfl
theorem anp{rd:V->V->Hp->VK->Prop} : sDAug ta tb tc rd D Y H=ta Y H fun x H1=>tb Y H1 fun y H2=>∃ a v,x=.ref a/\DGet H2 a y (some v)/\tc Y H2 fun y2 H3=>rd v y2 H3 fun z H4=>∃ H5,DPut H4 a y z H5/\D.nx Y H5:=rfl
theorem anq{x:V} : s0 (fun i j=>V.int (i-j)) x y H Q=∃ i j,x=.int i/\y=.int j/\Q (.int (i-j)) H:=rfl
theorem akT{x:V} : rI CDiv (fun i j=>V.int (i / j)) x y H Q=∃ i j,x=.int i/\y=.int j/\(0<j/\j<1073741824)/\Q (.int (i / j)) H:=rfl
theorem anr{x:V} : rI (fun _ j=>0<j) (fun i j=>V.int (i % j)) x y H Q=∃ i j,x=.int i/\y=.int j/\0<j/\Q (.int (i % j)) H:=rfl
theorem ans : cU K "str" (.str z) H=True:=by simp [cU]
noncomputable def ForIt (J:It) (g:TG) (tb:TS) (D:Ends) (Y:St) (H1:Hp):Prop:=∃ W:Nat->Nat->St->Hp->Prop,(∃ m,W 0 m Y H1)/\∀ i m Y H,W i m Y H->
 (J.stop i H/\D.nx Y H)\/(J.go i H/\∃ N:St->Hp->Prop,(∀ σ' H',N σ' H'->∃ m',m'<m/\W (i+1) m' σ' H')/\∀ x H',J.yld i H x H'->g x Y H' fun σ2 H2=>tb { D with nx:=N,ct:=N,bk:=D.nx } σ2 H2)
theorem aqy{wi:TI}{tbs:TS} : tFor wi g tbs D Y H=wi Y H fun J H1=>ForIt J g tbs D Y H1:=rfl
theorem akU{Z:It->Hp->Prop} : iList K te Y H Z=te Y H fun x H1=>∃ a,x=.ref a/\(∃ xs,D6 K H1 a xs)/\Z (aY K a) H1:=rfl
theorem ant{Z:It->Hp->Prop} : iTup K te Y H Z=te Y H fun x H1=>∃ a,x=.ref a/\(∃ xs,D1 K H1 a xs)/\Z (cS K a) H1:=rfl
theorem anu{Z:It->Hp->Prop} : iStr te Y H Z=te Y H fun x H1=>∃ z,x=.str z/\Z (iB z) H1:=rfl
theorem akV{Z:It->Hp->Prop} : iRng1 taa Y H Z=taa Y H fun vs H1=>∃ j:Int,vs=[.int j]/\-(2 ^ 62)<=j/\j<2 ^ 62/\Z (r8 0 j.toNat) H1:=rfl
theorem akW{Z:It->Hp->Prop} : iRng2 taa Y H Z=taa Y H fun vs H1=>∃ i j:Int,vs=[.int i,.int j]/\(-(2 ^ 62)<=i/\i<2 ^ 62/\-(2 ^ 62)<=j/\j<2 ^ 62)/\Z (r8 i (j-i).toNat) H1:=rfl
noncomputable def iD (J:It) (k:Nat) (ixs:List Nat) (g:TG) (c:TT) (te:TE) (Y:St) (Q:VK) (H1:Hp):Prop:=∀ D,H1 D=none->
 ∃ (n:Nat) (W:Nat->List V->St->Hp->Prop),W 0 [] (compStart k ixs Y) (A0 H1 D (.lst []))/\∀ i ys σ2 H2,W i ys σ2 H2->H2 D=some (.lst ys)->
  (J.stop i H2/\Q (.ref D) H2)\/
  (i<n/\J.go i H2/\∀ x H',J.yld i H2 x H'->g x σ2 H' fun σ3 H3=>c σ3 H3 fun b H4=>
   if b=true then te σ3 H4 fun y H5=>H5 D=some (.lst ys)/\ys.length<sizeLine/\W (i+1) (ys++[y]) σ3 (A0 H5 D (.lst (ys++[y])))
   else H4 D=some (.lst ys)/\W (i+1) ys σ3 H4)
theorem anv{wi:TI} : tComp wi k ixs g tt te Y H Q=wi Y H fun J H1=>iD J k ixs g tt te Y Q H1:=rfl
end
theorem anw{b k:Bool} : TruV K (.bl b) H k=(k=b):=rfl
theorem akX{i:Int}{k:Bool} : TruV K (.int i) H k=(k=(i != 0)):=rfl
theorem akY{k:Bool} : TruV K (.str z) H k=(z.length<=sizeLine/\k=((z.length:Int) != 0)):=rfl
theorem akZ{k:Bool} : TruV K .non H k=(k=false):=rfl
theorem ak0 : start N vs=vs.map some++J2 (N.length-vs.length) none:=rfl
theorem afF : compStart k ixs Y=J2 k none++ixs.map fun i=>(Y[i]?).join:=rfl
theorem anx{i:Int} : gY K (.str z) (.int i) H Q=∃ c,z.length<=sizeLine/\J5 z.cps.toList i=some c/\Q (.str ⟨#[c]⟩) H:=by
 simp only [gY,rIxL,rIxT,rIxS];refine propext ⟨fun h=>?_,fun ⟨c,h⟩=>.inr (.inr ⟨z,i,c,rfl,rfl,h⟩)⟩
 rcases h with ⟨p,xs,j,v,e,_⟩ | ⟨p,xs,j,v,e,_⟩ | ⟨z',i',c,e1,e2,h⟩
 .cases e
 .cases e
 .cases e1;cases e2;exact ⟨c,h⟩
theorem anz{i:Int} : gY K (.ref p) (.int i) H Q=∃ xs v,(D6 K H p xs\/D1 K H p xs)/\J5 xs i=some v/\Q v H:=by
 simp only [gY,rIxL,rIxT,rIxS];refine propext ⟨fun h=>?_,fun ⟨xs,v,h,r⟩=>?_⟩
 .rcases h with ⟨p',xs,j,v,e1,e2,h1,h2⟩ | ⟨p',xs,j,v,e1,e2,h1,h2⟩ | ⟨z',i',c,e1,e2,h⟩
  .cases e1;cases e2;exact ⟨xs,v,.inl h1,h2⟩
  .cases e1;cases e2;exact ⟨xs,v,.inr h1,h2⟩
  .cases e1
 .rcases h with h | h
  .exact .inl ⟨p,xs,i,v,rfl,rfl,h,r⟩
  .exact .inr (.inl ⟨p,xs,i,v,rfl,rfl,h,r⟩)
theorem oF{α:Type}{xs:List α}{i:Int}(h0:0<=i)(h1:i<xs.length):∃ v,J5 xs i=some v/\v∈xs:=by
 have C7:i.toNat<xs.length:=by lia
 refine ⟨xs[i.toNat],?_,gH C7⟩;unfold J5 l6;rw [if_pos h0,if_pos h1];simp [C7]
theorem Y9:bootBuiltins "len"=some (.builtin "len"):=by decide +kernel
theorem Z0:bootBuiltins "isinstance"=some (.builtin "isinstance"):=by decide +kernel
theorem amk:bootBuiltins "any"=some (.builtin "any"):=by decide +kernel
theorem aqz:bootBuiltins "min"=some (.builtin "min"):=by decide +kernel
theorem y9:bootBuiltins "list"=some (.type "list"):=by decide +kernel
theorem sE:bootBuiltins "tuple"=some (.type "tuple"):=by decide +kernel
theorem anA:bootBuiltins "dict"=some (.type "dict"):=by decide +kernel
theorem sF:bootBuiltins "set"=some (.type "set"):=by decide +kernel
section
variable {K:PySem.W.Frag} {H:Hp} {Q:VK} {i j:Int} {x y:Str} {u v:V} {b c:Bool} {p q:Addr} {lo hi:Option Int} {cm:Bool}
theorem ad_ii:rAddU K (.int i) (.int j) H Q=Q (.int (i+j)) H:=rfl
theorem ad_ss:rAddU K (.str x) (.str y) H Q=(x.length+y.length<=sizeLine/\Q (.str (x++y)) H):=rfl
theorem ad_rr:rAddU K (.ref p) (.ref q) H Q=rAddR K p q H Q:=rfl
theorem mu_ii:rMulU (.int i) (.int j) H Q=(CMul i j/\Q (.int (i*j)) H):=rfl
theorem mu_ri:rMulU (.ref p) (.int j) H Q=rRep (.ref p) (.int j) H Q:=rfl
theorem eq_ii:rEqU K (.int i) (.int j) H Q=Q (.bl (decide (i=j))) H:=rfl
theorem eq_ss:rEqU K (.str x) (.str y) H Q=Q (.bl (decide (x=y))) H:=rfl
theorem eq_bb:rEqU K (.bl b) (.bl c) H Q=Q (.bl (decide (b=c))) H:=rfl
theorem eq_rx:rEqU K (.ref p) v H Q=∃ d e,Dn K H (.ref p) d/\Dn K H v e/\min d.depth e.depth<=60/\Q (.bl (Q7 d e)) H:=by cases v <;> rfl
theorem eq_xr:rEqU K v (.ref p) H Q=∃ d e,Dn K H v d/\Dn K H (.ref p) e/\min d.depth e.depth<=60/\Q (.bl (Q7 d e)) H:=by cases v <;> rfl
theorem ne_ii:rNeU K (.int i) (.int j) H Q=Q (.bl (!decide (i=j))) H:=rfl
theorem ne_ss:rNeU K (.str x) (.str y) H Q=Q (.bl (!decide (x=y))) H:=rfl
theorem ne_bb:rNeU K (.bl b) (.bl c) H Q=Q (.bl (!decide (b=c))) H:=rfl
theorem ne_rx:rNeU K (.ref p) v H Q=∃ d e,Dn K H (.ref p) d/\Dn K H v e/\min d.depth e.depth<=60/\Q (.bl (!PyData.eqv d e)) H:=by cases v <;> rfl
theorem ne_xr:rNeU K v (.ref p) H Q=∃ d e,Dn K H v d/\Dn K H (.ref p) e/\min d.depth e.depth<=60/\Q (.bl (!PyData.eqv d e)) H:=by cases v <;> rfl
theorem lt_ii:rLtU (.int i) (.int j) H Q=Q (.bl (decide (i<j))) H:=rfl
theorem lt_ss:rLtU (.str x) (.str y) H Q=Q (.bl (decide (x.cps.toList<y.cps.toList))) H:=rfl
theorem le_ii:rLeU (.int i) (.int j) H Q=Q (.bl (decide (i<=j))) H:=rfl
theorem le_ss:rLeU (.str x) (.str y) H Q=Q (.bl (!decide (y.cps.toList<x.cps.toList))) H:=rfl
theorem gt_ii:rGtU (.int i) (.int j) H Q=Q (.bl (decide (j<i))) H:=rfl
theorem gt_ss:rGtU (.str x) (.str y) H Q=Q (.bl (decide (y.cps.toList<x.cps.toList))) H:=rfl
theorem ge_ii:rGeU (.int i) (.int j) H Q=Q (.bl (decide (j<=i))) H:=rfl
theorem ge_ss:rGeU (.str x) (.str y) H Q=Q (.bl (!decide (x.cps.toList<y.cps.toList))) H:=rfl
theorem in_xs:rInU K b u (.str x) H Q=∃ i,u=.str i/\Q (.bl (b.xor (!(Builtin.Str.occurrences x i 0 x.length 1).isEmpty))) H:=rfl
theorem in_xr:rInU K b u (.ref p) H Q=rInR K b u p H Q:=rfl
theorem sl_s:rSlU K (.str x) lo hi H Q=(x.length<=sizeLine/\Q (.str (cutS x lo hi)) H):=rfl
theorem sl_r:rSlU K (.ref p) lo hi H Q=rSlR K p lo hi H Q:=rfl
theorem len_s:rLenU K [.str x] H Q=(x.length<=sizeLine/\Q (.int x.length) H):=rfl
theorem len_r:rLenU K [.ref p] H Q=∃ n:Nat,LenR K H p n/\Q (.int n) H:=rfl
theorem aqA:sC K cm [.ref p] H Q=rListR K cm p H Q:=rfl
theorem all_r:rAllB cm [.ref p] H Q=∃ bs:List Bool,cm=true/\H p=some (.lst (bs.map V.bl))/\Q (.bl (bs.all id)) H:=rfl
theorem isi_t{n:String} : rIsi [u,.ty n] H Q=∃ T,iA H u=some T/\isTys.contains n=true/\Q (.bl (sD T n)) H:=rfl
theorem ord_s:rOrd [.str x] H Q=(x.length=1/\Q (.int (x.cps.getD 0 0:Nat)) H):=rfl
end
theorem forL(Pv:Nat->St->Hp->Prop)(h0:Pv 0 Y H)(hl:∀ i Y H,i<=xs.length->Pv i Y H->D6 K H a xs)(hs:∀ i x Y H,xs[i]?=some x->Pv i Y H->g x Y H fun σ2 H2=>tb { D with nx:=Pv (i+1),ct:=Pv (i+1),bk:=D.nx } σ2 H2)(hd:∀ Y H,Pv xs.length Y H->D.nx Y H):ForIt (aY K a) g tb D Y H:=aks Pv h0 hl hs hd
theorem forT(Pv:Nat->St->Hp->Prop)(h0:Pv 0 Y H)(hl:∀ i Y H,i<=xs.length->Pv i Y H->D1 K H a xs)(hs:∀ i x Y H,xs[i]?=some x->Pv i Y H->g x Y H fun σ2 H2=>tb { D with nx:=Pv (i+1),ct:=Pv (i+1),bk:=D.nx } σ2 H2)(hd:∀ Y H,Pv xs.length Y H->D.nx Y H):ForIt (cS K a) g tb D Y H:=amI Pv h0 hl hs hd
theorem forR{lo:Int}(Pv:Nat->St->Hp->Prop)(h0:Pv 0 Y H)(hs:∀ i Y H,i<n->Pv i Y H->g (.int (lo+i)) Y H fun σ2 H2=>tb { D with nx:=Pv (i+1),ct:=Pv (i+1),bk:=D.nx } σ2 H2)(hd:∀ Y H,Pv n Y H->D.nx Y H):ForIt (r8 lo n) g tb D Y H:=aiD Pv h0 hs hd
noncomputable def CW (n:Nat) (fr:St) (Pv:Nat->List V->Hp->Prop) (i:Nat) (ys:List V) (σ2:St) (H2:Hp):Prop:=i<=n/\ys.length<=i/\(∃ v,σ2=v::fr)/\Pv i ys H2
theorem CW.put{fr:St}{Pv:Nat->List V->Hp->Prop}{o:Option V}(hi:i<n)(hy:ys.length<=i)(p:Pv (i+1) (ys++[y]) H):CW n fr Pv (i+1) (ys++[y]) (o::fr) H:=
 ⟨hi,by rw [D4,eA];lia,⟨_,rfl⟩,p⟩
theorem CW.skip{fr:St}{Pv:Nat->List V->Hp->Prop}{o:Option V}(hi:i<n)(hy:ys.length<=i)(p:Pv (i+1) ys H):CW n fr Pv (i+1) ys (o::fr) H:=⟨hi,Nat.le_succ_of_le hy,⟨_,rfl⟩,p⟩
theorem compL(fr:St)(Q1:compStart 1 ixs Y=none::fr)(Pv:Addr->Nat->List V->Hp->Prop)(h0:∀ D,H1 D=none->Pv D 0 [] (A0 H1 D (.lst [])))(hl:∀ D i ys H,H1 D=none->i<=xs.length->Pv D i ys H->D6 K H a xs)(hs:∀ D i x ys H,H1 D=none->i<xs.length->xs[i]?=some x->Pv D i ys H->H D=some (.lst ys)->ys.length<=i->c (some x::fr) H fun b H4=>
   if b=true then te (some x::fr) H4 fun y H5=>H5 D=some (.lst ys)/\ys.length<sizeLine/\CW xs.length fr (Pv D) (i+1) (ys++[y]) (some x::fr) (A0 H5 D (.lst (ys++[y])))
   else H4 D=some (.lst ys)/\CW xs.length fr (Pv D) (i+1) ys (some x::fr) H4)(hd:∀ D ys H,H1 D=none->Pv D xs.length ys H->H D=some (.lst ys)->ys.length<=xs.length->Q (.ref D) H):iD (aY K a) 1 ixs (gName 0) c te Y Q H1:=by
 intro D hD;refine ⟨xs.length,CW xs.length fr (Pv D),⟨J0 _,J0 _,⟨none,Q1⟩,h0 D hD⟩,?_⟩;rintro i ys σ2 H2 ⟨hi,hy,⟨v,rfl⟩,p⟩ hDy;have q:=hl D i ys H2 hD hi p
 by_cases C7:i<xs.length
 .refine .inr ⟨C7,⟨xs,xs[i],q,by simp [C7]⟩,fun x H' y=>?_⟩;obtain ⟨e,y⟩:=y;subst e;exact hs D i x ys _ hD C7 (y xs q) p hDy hy
 .have e:i=xs.length:=by lia
  subst e;exact .inl ⟨⟨xs,q,C3 _⟩,hd D ys H2 hD p hDy hy⟩
theorem compT(fr:St)(Q1:compStart 1 ixs Y=none::fr)(Pv:Addr->Nat->List V->Hp->Prop)(h0:∀ D,H1 D=none->Pv D 0 [] (A0 H1 D (.lst [])))(hl:∀ D i ys H,H1 D=none->i<=xs.length->Pv D i ys H->D1 K H a xs)(hs:∀ D i x ys H,H1 D=none->i<xs.length->xs[i]?=some x->Pv D i ys H->H D=some (.lst ys)->ys.length<=i->c (some x::fr) H fun b H4=>
   if b=true then te (some x::fr) H4 fun y H5=>H5 D=some (.lst ys)/\ys.length<sizeLine/\CW xs.length fr (Pv D) (i+1) (ys++[y]) (some x::fr) (A0 H5 D (.lst (ys++[y])))
   else H4 D=some (.lst ys)/\CW xs.length fr (Pv D) (i+1) ys (some x::fr) H4)(hd:∀ D ys H,H1 D=none->Pv D xs.length ys H->H D=some (.lst ys)->ys.length<=xs.length->Q (.ref D) H):iD (cS K a) 1 ixs (gName 0) c te Y Q H1:=by
 intro D hD;refine ⟨xs.length,CW xs.length fr (Pv D),⟨J0 _,J0 _,⟨none,Q1⟩,h0 D hD⟩,?_⟩;rintro i ys σ2 H2 ⟨hi,hy,⟨v,rfl⟩,p⟩ hDy;have q:=hl D i ys H2 hD hi p
 by_cases C7:i<xs.length
 .refine .inr ⟨C7,⟨xs,xs[i],q,by simp [C7]⟩,fun x H' y=>?_⟩;obtain ⟨e,y⟩:=y;subst e;exact hs D i x ys _ hD C7 (y xs q) p hDy hy
 .have e:i=xs.length:=by lia
  subst e;exact .inl ⟨⟨xs,q,C3 _⟩,hd D ys H2 hD p hDy hy⟩
theorem compS(fr:St)(Q1:compStart 1 ixs Y=none::fr)(Pv:Addr->Nat->List V->Hp->Prop)(h0:∀ D,H1 D=none->Pv D 0 [] (A0 H1 D (.lst [])))(hs:∀ D i x ys H,H1 D=none->i<z.cps.size->z.cps.toList[i]?=some x->Pv D i ys H->H D=some (.lst ys)->ys.length<=i->c (some (.str ⟨#[x]⟩)::fr) H fun b H4=>
   if b=true then te (some (.str ⟨#[x]⟩)::fr) H4 fun y H5=>H5 D=some (.lst ys)/\ys.length<sizeLine/\CW z.cps.size fr (Pv D) (i+1) (ys++[y]) (some (.str ⟨#[x]⟩)::fr) (A0 H5 D (.lst (ys++[y])))
   else H4 D=some (.lst ys)/\CW z.cps.size fr (Pv D) (i+1) ys (some (.str ⟨#[x]⟩)::fr) H4)(hd:∀ D ys H,H1 D=none->Pv D z.cps.size ys H->H D=some (.lst ys)->ys.length<=z.cps.size->Q (.ref D) H):iD (iB z) 1 ixs (gName 0) c te Y Q H1:=by
 intro D hD;refine ⟨z.cps.size,CW z.cps.size fr (Pv D),⟨J0 _,J0 _,⟨none,Q1⟩,h0 D hD⟩,?_⟩;rintro i ys σ2 H2 ⟨hi,hy,⟨v,rfl⟩,p⟩ hDy
 by_cases C7:i<z.cps.size
 .refine .inr ⟨C7,C7,fun x H' y=>?_⟩;obtain ⟨e,c,hc,rfl⟩:=y;subst e;exact hs D i c ys _ hD C7 hc p hDy hy
 .have e:i=z.cps.size:=by lia
  subst e;exact .inl ⟨C3 _,hd D ys H2 hD p hDy hy⟩
theorem C2{q:Addr}{o u:HO}(h:H p=some o)(n:H q=none):A0 H q u p=some o:=by rw [A4 (O3 h n)];exact h
theorem Same.new{q:Addr}{u:HO}(n:H q=none):Same H (A0 H q u):=fun _ _ h=>C2 h n
theorem Same.put{q:Addr}{u:HO}(s:Same H0 H)(n:H0 q=none):Same H0 (A0 H q u):=fun b o h=>by rw [A4 (O3 h n)];exact s b o h
theorem cxK{CX:Y8}{P:Program}{w:World}{base:Heap}{sc:Scope}{o:List Env}{E:XK} : (cxOf CX P w K mg base N q sc f cd A o s H E).K=K:=rfl
theorem cxKn : X.nox.K=X.K:=rfl
theorem cxKb{sc:Scope} : (N3 X sc N' C zu zr fp pins).K=X.K:=rfl
theorem cxC{CX:Y8}{P:Program}{w:World}{base:Heap}{sc:Scope}{o:List Env}{E:XK} : (cxOf CX P w K mg base N q sc f cd A o s H E).calm=true:=rfl
theorem cxCn : X.nox.calm=X.calm:=rfl
theorem cxCb{sc:Scope} : (N3 X sc N' C zu zr fp pins).calm=X.calm:=rfl
theorem iteD{c A B:Prop}[Decidable c](h1:c->A)(h2:¬ c->B):if decide c=true then A else B:=by
 by_cases h:c
 .rw [decide_eq_true h,if_pos rfl];exact h1 h
 .rw [decide_eq_false h,if_neg K4];exact h2 h
theorem iteN{c A B:Prop}[Decidable c](h1:¬ c->A)(h2:c->B):if (!decide c)=true then A else B:=by
 by_cases h:c
 .rw [decide_eq_true h];exact iteF (h2 h)
 .rw [decide_eq_false h];exact iteT (h1 h)
theorem R8(h:H p=some (.lst xs)):cU K "list" (.ref p) H:=.inl ⟨rfl,_,D6.of h⟩
theorem appOk{l:Addr}(h:H l=some (.lst xs))(hz:xs.length<sizeLine)(q:Q .non (A0 H l (.lst (xs++[y])))):rQ (.ref l) [y] H Q:=⟨l,xs,y,rfl,rfl,h,hz,q⟩
theorem K8(h:n<=1000000):n<sizeLine:=Nat.lt_of_le_of_lt h 'g'
theorem z0(h:n<=1000000):n<=sizeLine:=Nat.le_of_lt (K8 h)
noncomputable def signB (c:Nat):Bool:=decide (33<=c)&&decide (c<=126)&&decide (c≠37)
noncomputable def kL (z:Str):Bool:=decide (1<=z.length)&&decide (z.length<=2)&&z.cps.toList.all signB
theorem ai3(h:kL z=true):P8 z=true/\1<=z.length/\z.length<=2:=by
 unfold kL at h;simp only [W4,decide_eq_true_eq] at h;refine ⟨?_,h.1.1,h.1.2⟩;unfold P8;rw [Array.all_eq_true_iff_forall_mem];intro c hc
 have:=List.all_eq_true.mp h.2 c (Array.mem_toList_iff.mpr hc)
 unfold signB at this;simp only [W4,decide_eq_true_eq] at this;simp only [decide_eq_true_eq];lia
noncomputable def SG:List Nat:=[33,34,35,36]++(U0 89).map (· + 38)
theorem anB:∀ c∈SG,signB c=true:=by decide +kernel
theorem sG:SG.length=93:=by decide +kernel
structure IsRows(H:Hp)(a:Addr)(rs:List Addr)(zss:List (List Str)):Prop where
 top:H a=some (.lst (rs.map V.ref))
 row:Paired (fun r (zs:List Str)=>H r=some (.lst (zs.map V.str))) rs zss
theorem IsRows.same{zss:List (List Str)}(R:IsRows H a rs zss)(s:Same H H'):IsRows H' a rs zss:=⟨s _ _ R.top,j8 R.row fun _ _ h=>s _ _ h⟩
theorem Paired.at{α β:Type}{F:α->β->Prop} : ∀ {zx:List α} {l₂:List β} {i:Nat} {a:α},Paired F zx l₂->zx[i]?=some a->∃ b,l₂[i]?=some b/\F a b
 | _,_,_,_,.nil,h=>by simp at h
 | _,_,0,_,.cons h t,e=>by simp at e;subst e;exact ⟨_,rfl,h⟩
 | _,_,i+1,_,.cons h t,e=>by
  obtain ⟨b,h1,h2⟩:=Paired.at (i:=i) t (by simpa using e);exact ⟨b,by simpa using h1,h2⟩
theorem sH:∀ zs:List Str,r0 (zs.map U9)=0
 | []=>rfl
 | z::zs=>by rw [J3,r0,sH zs,PyData.depth];rfl
theorem ahe(xs ys:List Str):Q7 (.list (xs.map .str)) (.list (ys.map .str))=decide (xs=ys):=by rw [Q7,oB]
noncomputable def dd (acc:List Str) (z:Str):List Str:=if z∈acc then acc else acc++[z]
noncomputable def M5 (acc zs:List Str):List Str:=zs.foldl dd acc
noncomputable def toldL (zss:List (List Str)):List Str:=zss.foldl M5 []
theorem kM(zs:List Str):∀ acc:List Str,(M5 acc zs).length<=acc.length+zs.length:=by
 induction zs with
 | nil=>intro acc;exact C3 _
 | cons z zs ih=>
  intro acc;have h1:=ih (dd acc z);have h2:(dd acc z).length<=acc.length+1:=by
   unfold dd
   split
   .lia
   .simp
  show (M5 (dd acc z) zs).length<=_;rw [G8];lia
theorem ak1(h:zs[j]?=some z):M5 acc (zs.take (j+1))=dd (M5 acc (zs.take j)) z:=by
 rw [p7,h];simp [M5,cG]
theorem ai5{zss:List (List Str)}(h:zss[i]?=some zs):toldL (zss.take (i+1))=M5 (toldL (zss.take i)) zs:=by
 rw [p7,h];simp [toldL,cG]
theorem oG(zss:List (List Str)):∀ acc,zss.foldl M5 acc=M5 acc zss.flatten:=by
 induction zss with
 | nil=>intro acc;rfl
 | cons zs zss ih=>
  intro acc;rw [List.foldl_cons,ih,cH];unfold M5;rw [cG]
theorem eM(zss:List (List Str)):(toldL zss).length<=zss.flatten.length:=by
 unfold toldL;rw [oG]
 have:=kM zss.flatten []
 simpa using this
noncomputable def kvOf (zs:List Str):List (A7×V):=zs.map fun z=>(Sum.inr z,V.bl true)
theorem ahf(z:Str):∀ acc:List Str,((kvOf acc).any fun kv=>decide (kv.1=(Sum.inr z:A7)))=decide (z∈acc)
 | []=>by simp [kvOf]
 | y::acc=>by
  have ih:=ahf z acc;unfold kvOf at ih ⊢
  rw [J3,aT,ih]
  by_cases e:y=z
  .subst e
   simp
  .have e1:decide ((Sum.inr y:A7)=Sum.inr z)=false:=decide_eq_false fun q=>e (Sum.inr.inj q)
   have e2:decide (z∈y::acc)=decide (z∈acc):=by
    by_cases h:z∈acc
    .rw [decide_eq_true h,decide_eq_true (L8 _ h)]
    .rw [decide_eq_false h,decide_eq_false];intro q
     rcases F9.mp q with q | q
     .exact e q.symm
     .exact h q
   rw [e2];simp only [e1,Bool.false_or]
theorem ai6(acc:List Str)(z:Str):putK (kvOf acc) (Sum.inr z:A7) (.bl true)=kvOf (dd acc z):=by
 unfold putK dd;rw [ahf]
 by_cases h:z∈acc
 .rw [decide_eq_true h,if_pos rfl,if_pos h];unfold kvOf;rw [Q5];refine aQ fun y _=>?_
  show (if (Sum.inr y:A7)=Sum.inr z then ((Sum.inr y:A7),V.bl true) else (Sum.inr y,V.bl true))=_
  split <;> rfl
 .rw [decide_eq_false h,if_neg K4,if_neg h];unfold kvOf;rw [E2];rfl
theorem ai7(acc:List Str):((kvOf acc).map fun kv=>kV kv.1)=acc.map V.str:=by
 unfold kvOf;rw [Q5];rfl
theorem oH(z:Str):∀ acc:List Str,y7 (.str z) (acc.map V.str)=decide (z∈acc)
 | []=>by simp [y7]
 | y::acc=>by
  have ih:=oH z acc;unfold y7 at ih ⊢
  rw [J3,aT,ih];show ((y==z) || decide (z∈acc))=_
  by_cases e:y=z
  .subst e
   simp
  .have e1:(y==z)=false:=by simpa using e
   rw [e1,Bool.false_or]
   by_cases h:z∈acc
   .rw [decide_eq_true h,decide_eq_true (L8 _ h)]
   .rw [decide_eq_false h,decide_eq_false];intro q
    rcases F9.mp q with q | q
    .exact e q.symm
    .exact h q
theorem afH:∀ acc:List Str,(acc.map V.str).all flatV=true
 | []=>rfl
 | _::acc=>by rw [J3,List.all_cons,afH acc];rfl
theorem J1{α β:Type}{f:α->β}{l:List α}{y:β}(h:(l.map f)[i]?=some y):∃ x,l[i]?=some x/\y=f x:=by
 rw [P1] at h;cases e:l[i]? with
 | none=>rw [e] at h;cases h
 | some x=>rw [e] at h;exact ⟨x,rfl,(Option.some.inj h).symm⟩
noncomputable def SS:Str:=Str.ofString "!\"#$&'()*+,-./0123456789:;<=>?@ABCDEFGHIJKLMNOPQRSTUVWXYZ[\\]^_`"++Str.ofString "abcdefghijklmnopqrstuvwxyz{|}~"
theorem SS_eq:SS.cps.toList=SG:=by decide +kernel
theorem aqB:SS.length<=sizeLine:=by decide +kernel
theorem anC:(Str.ofString "!\"#$&'()*+,-./0123456789:;<=>?@ABCDEFGHIJKLMNOPQRSTUVWXYZ[\\]^_`").length+(Str.ofString "abcdefghijklmnopqrstuvwxyz{|}~").length<=sizeLine:=by decide +kernel
theorem SS_at{i:Int}(h0:0<=i)(h1:i<93):∃ c,J5 SS.cps.toList i=some c/\signB c=true:=by
 rw [SS_eq];obtain ⟨c,h2,h3⟩:=oF (xs:=SG) h0 (by rw [sG];exact h1);exact ⟨c,h2,anB c h3⟩
theorem drawn{i:Int}(hx:∀ x∈xs,∃ n,x=V.int n)(h0:0<=i)(h1:i<xs.length):∃ n,J5 xs i=some (V.int n):=by
 obtain ⟨v,h2,h3⟩:=oF h0 h1;obtain ⟨n,rfl⟩:=hx v h3;exact ⟨n,h2⟩
theorem sI{α β:Type}{F G:α->β->Prop} : ∀ {zx:List α} {l₂:List β},Paired F zx l₂->(∀ a∈zx,∀ b,F a b->G a b)->Paired G zx l₂
 | _,_,.nil,_=>.nil
 | _,_,.cons h t,k=>.cons (k _ K5 _ h) (sI t fun a ha b hb=>k a (L8 _ ha) b hb)
structure RowsAt(H0 H:Hp)(a:Addr)(rs:List Addr)(zss:List (List Str)):Prop where
 rows:IsRows H a rs zss
 nd:(a::rs).Nodup
 new:∀ r∈a::rs,H0 r=none
 same:Same H0 H
theorem RowsAt.live{zss:List (List Str)}(R:RowsAt H0 H a rs zss)(h:r∈a::rs):∃ o,H r=some o:=by
 rcases F9.mp h with h | h
 .subst h;exact ⟨_,R.rows.top⟩
 .obtain ⟨i,hi,rfl⟩:=p6.mp h;obtain ⟨zs,_,h2⟩:=Paired.at R.rows.row (i:=i) (a:=rs[i]) (by simp [hi]);exact ⟨_,h2⟩
theorem ai8(h:H p=some (.lst xs)):iA H (.ref p)=some "list":=by unfold iA;simp only [h]
structure QE(X:Cx)(e:Expr)(t:TE):Prop where
 out:PE X e t
structure QT(X:Cx)(e:Expr)(t:TT):Prop where
 out:PT X e t
structure QW(X:Cx)(e:Expr)(t:TT):Prop where
 out:PW X e t
structure QA(X:Cx)(es:List Expr)(t:TA):Prop where
 out:PA X es t
structure QS(X:Cx)(st:Stmt)(t:TS):Prop where
 out:PS X st t
structure QSs(X:Cx)(st:List Stmt)(t:TS):Prop where
 out:W5 X st t
structure QG(X:Cx)(tg:Expr)(t:TG):Prop where
 out:PG X tg t
structure QGs(X:Cx)(tg:List Expr)(t:j9):Prop where
 out:kF X tg t
structure QI(X:Cx)(tg iter:Expr)(wi:TI):Prop where
 out:PI X tg iter wi
structure QO(X:Cx)(e:Option Expr)(t:TO):Prop where
 out:PO X e t
structure QIfs(X:Cx)(ifs:List Expr)(t:TT):Prop where
 out:PIfs X ifs t
structure QOp(X:Cx)(f:Value->Value->Sem Value)(r:R2):Prop where
 out:G0 X f r
structure QUn(X:Cx)(f:Value->Sem Value)(r:V->Hp->VK->Prop):Prop where
 out:nR X f r
structure QCall(X:Cx)(f:Value)(r:List V->Hp->VK->Prop):Prop where
 out:CallR X f r
structure QMt(X:Cx)(id:String)(r:V->List V->Hp->VK->Prop):Prop where
 out:nV X id r
structure QIp(X:Cx)(op:Operator)(t:cR):Prop where
 out:rB X op t
structure QIn(X:Cx)(op:Operator)(t:V->V->Hp->VK->Prop):Prop where
 out:InOp X op t
section
variable {X:Cx} {a b c e o i value:Expr} {es:List Expr} {ta tb tc te to ti tv:TE} {tA tB':TT} {t u:TS} {tl:TA} {pos p pos' tpos:Pos} {rest:List Expr} {r r':R2} {x:Str}
theorem A8{i j} : QE X (.Constant (.int i) j pos) (tC (.int i)):=⟨yO⟩
theorem qe_bl{b j} : QE X (.Constant (.bool b) j pos) (tC (.bl b)):=⟨pe_bl⟩
theorem sJ{j} : QE X (.Constant .none j pos) (tC .non):=⟨aow⟩
theorem M3{x j} : QE X (.Constant (.str x) j pos) (tC (.str x)):=⟨aox⟩
theorem qe_v(hN:X.N[n]?=some x)(hv:kE X.env.scope x)(hd:(x==("__debug__" : Str))=false)(T3:(x==("__classdict__" : Str))=false):QE X (.Name x pos) (tVar n):=⟨yN hN hv hd T3⟩
theorem qv(n:Nat)(hN:X.N[n]?=some x:=by rfl)(hv:kE X.env.scope x:=by first | exact Or.inl rfl | exact Or.inr (Or.inl rfl) | exact Or.inr (Or.inr rfl))(hd:(x==("__debug__" : Str))=false:=by decide)(T3:(x==("__classdict__" : Str))=false:=by decide):QE X (.Name x pos) (tVar n):=⟨yN hN hv hd T3⟩
theorem sK{i:Int}(h:∃ t,X.mg x=some (.int i t))(hg:Gl X x:=by rfl)(hd:(x==("__debug__" : Str))=false:=by decide):QE X (.Name x p) (tC (.int i)):=⟨akN h hg hd⟩
theorem Y4{a:Addr}(h:X.mg x=some 'f')(hg:Gl X x:=by rfl)(hd:(x==("__debug__" : Str))=false:=by decide):QE X (.Name x p) (tC 'f'):=⟨akO h hg hd⟩
theorem qe_ty{n:String}(hm:X.mg x=none)(hv:bootBuiltins x=some (.type n))(hg:Gl X x:=by rfl)(hn:x≠"__name__":=by decide)(hd:(x==("__debug__" : Str))=false:=by decide):QE X (.Name x p) (tC (.ty n)):=⟨amA hg hm hv rfl hn hd⟩
theorem qe_op{op:Operator}(ho:QOp X (binaryOp op) r)(ha:QE X a ta)(hb:QE X b tb):QE X (.BinOp a op b pos) (aZ r ta tb):=⟨pe_op ho.out ha.out hb.out⟩
theorem qe_un{op:UnaryOp}{r:V->Hp->VK->Prop}(ho:QUn X (unaryOp op) r)(ha:QE X a ta):QE X (.UnaryOp op a pos) (rF r ta):=⟨pe_un ho.out ha.out⟩
theorem anD(ha:QE X a ta)(hK:X.K=K:=by rfl):QE X (.UnaryOp .Not a pos) (tNotT K ta):=by subst hK;exact ⟨am2 ha.out⟩
theorem iE{op}(ha:QE X a ta):QE X (.BoolOp op [a] pos) ta:=⟨aoB ha.out⟩
theorem iF(ha:QE X a ta)(hb:QE X (.BoolOp .And (b::rest) pos) tb):QE X (.BoolOp .And (a::b::rest) pos) (tAndV ta tb):=⟨aoC ha.out hb.out⟩
theorem cW{op:CmpOp}(ho:QOp X (compareOp op) r)(ha:QE X a ta)(hb:QE X b tb)(hm:behindInMarks op b=false:=by first | exact yX _ | rfl):QE X (.Compare a [op] [b] pos) (aZ r ta tb):=⟨amK ho.out ha.out hb.out hm⟩
theorem ak2{op op':CmpOp}(ho:QOp X (compareOp op) r)(g8:QOp X (compareOp op') r')(ha:QE X a ta)(hb:QE X b tb)(hc:QE X c tc)(hm:lastMarks [op,op'] [b,c]=false:=by with_unfolding_all rfl):QE X (.Compare a [op,op'] [b,c] pos) (rG r r' ta tb tc):=⟨akt ho.out g8.out ha.out hb.out hc.out hm⟩
theorem ak3(hc:QT X c tA)(ha:QE X a ta)(hb:QE X b tb):QE X (.IfExp c a b pos) (rA tA ta tb):=⟨ako hc.out ha.out hb.out⟩
theorem A2:QA X [] tNil:=⟨aoY⟩
theorem qa_c(ha:QE X e te)(hr:QA X es tl)(h:L6 e=false:=by rfl):QA X (e::es) (tCons te tl):=⟨pa_c ha.out hr.out h⟩
theorem M6(h:QA X es tl):QE X (.List es pos) (tLst tl):=⟨ao0 h.out⟩
theorem R9{x1}(h:QA X es tl):QE X (.Tuple es x1 pos) (tTup tl):=⟨aoZ h.out⟩
theorem eN:QE X (.Dict [] [] pos) rV:=⟨akF⟩
theorem l8:QO X none rL:=⟨amQ⟩
theorem Q9(h:QE X e te):QO X (some e) (tPart te):=⟨amR h.out⟩
theorem W6{lo hi:Option Expr}{tlo thi:TO}{p2:Pos}(he:QE X e te)(hl:QO X lo tlo)(hu:QO X hi thi)(hK:X.K=K:=by rfl):QE X (.Subscript e (.Slice lo hi none p2) pos) (rN (rSlU K) te tlo thi):=by subst hK;exact ⟨akA p_sl he.out hl.out hu.out⟩
theorem Z1(hu:X.A.units+1<cLine)(ho:QE X o to)(hi:QE X i ti)(hs:NoSl i:=by exact fun _ _=>rfl):QE X (.Subscript o i pos) (tDGet to ti):=⟨amX hu ho.out hi.out hs⟩
theorem qe_ix(ha:QE X a ta)(hb:QE X b tb)(hs:zN b:=by exact fun _ _=>rfl)(hK:X.K=K:=by rfl):QE X (.Subscript a b pos) (aZ (gY K) ta tb):=by subst hK;exact ⟨pe_ix ao4 ha.out hb.out hs⟩
theorem qe_cB{id:String}{rc:List V->Hp->VK->Prop}(hc:QCall X (.builtin id) rc)(hm:X.mg x=none)(hv:bootBuiltins x=some (.builtin id))(ha:QA X (e::es) tl)(hg:Gl X x:=by rfl)(h1:L6 e=false:=by rfl)(h2:Y3 es=true:=by rfl)(hn:x≠"__name__":=by decide)(N2:(x==("__debug__" : Str))=false:=by decide) :
  QE X (.Call (.Name x p) (e::es) [] pos) (eJ rc tl):=⟨pe_cB hc.out hg hm hv ha.out h1 h2 hn N2⟩
theorem qe_cT{T:String}{rc:List V->Hp->VK->Prop}(hc:QCall X (.type T) rc)(hm:X.mg x=none)(hv:bootBuiltins x=some (.type T))(ha:QA X (e::es) tl)(hg:Gl X x:=by rfl)(h1:L6 e=false:=by rfl)(h2:Y3 es=true:=by rfl)(hn:x≠"__name__":=by decide)(N2:(x==("__debug__" : Str))=false:=by decide) :
  QE X (.Call (.Name x p) (e::es) [] pos) (eJ rc tl):=⟨pe_cT hc.out hg hm hv ha.out h1 h2 hn N2⟩
theorem qe_mB{T id:String}{rm:V->List V->Hp->VK->Prop}(pa:PlainAttrs T)(slot:Slot T name id)(V7:typeOf (.builtin id)=pure (.type "method_descriptor"))(hm:QMt X id rm)(ho:QE X o to)(ha:QA X (e::es) tl)(h1:L6 e=false:=by rfl)(h2:Y3 es=true:=by rfl)(h3:decide ((e::es).length<30)=true:=by rfl)(D9:attributeBase o name X.env (eval o X.env)=eval o X.env:=by rfl)(E7:(apos.endLine==cpos.line)=true:=by rfl)(hK:X.K=K:=by rfl):QE X (.Call (.Attribute o name apos) (e::es) [] cpos) (nW K T rm to tl):=by subst hK;exact ⟨pe_mB pa slot V7 hm.out ho.out ha.out h1 h2 h3 D9 E7⟩
theorem qe_m0{T id:String}{rm:V->List V->Hp->VK->Prop}(pa:PlainAttrs T)(slot:Slot T name id)(V7:typeOf (.builtin id)=pure (.type "method_descriptor"))(hm:QMt X id rm)(ho:QE X o to)(D9:attributeBase o name X.env (eval o X.env)=eval o X.env:=by rfl)(E7:(apos.endLine==cpos.line)=true:=by rfl)(hK:X.K=K:=by rfl):QE X (.Call (.Attribute o name apos) [] [] cpos) (tBM0 K T rm to):=by subst hK;exact ⟨ao6 pa slot V7 hm.out ho.out D9 E7⟩
theorem E3(G:FO X.prog X.w X.K X.mg X.base k x ps dvs sp)(hr:Room k X.A)(ha:QA X (e::es) tl)(hg:Gl X x:=by rfl)(h1:L6 e=false:=by rfl)(h2:Y3 es=true:=by rfl)(N2:(x==("__debug__" : Str))=false:=by decide) :
  QE X (.Call (.Name x p) (e::es) [] pos) (tCall sp dvs E0 tl):=⟨akM G hr ha.out hg h1 h2 N2⟩
theorem E6{op:CmpOp}(ho:QOp X (compareOp op) r)(ha:QE X a ta)(hb:QE X b tb)(hm:behindInMarks op b=false:=by first | exact yX _ | rfl):QT X (.Compare a [op] [b] pos) (tTest (aZ r ta tb)):=⟨amL ho.out ha.out hb.out hm⟩
theorem sL(ha:QT X a tA):QT X (.UnaryOp .Not a pos) (tNot tA):=⟨aoA ha.out⟩
theorem kN(ha:QT X a tA):QW X (.BoolOp .And [a] pos) tA:=⟨amB ha.out⟩
theorem sM(ha:QT X a tA):QW X (.BoolOp .Or [a] pos) tA:=⟨aoy ha.out⟩
theorem kO(ha:QT X a tA)(hb:QW X (.BoolOp .And (b::rest) pos) tB'):QW X (.BoolOp .And (a::b::rest) pos) (tAnd tA tB'):=⟨aoz ha.out hb.out⟩
theorem qw_or(ha:QT X a tA)(hb:QW X (.BoolOp .Or (b::rest) pos) tB'):QW X (.BoolOp .Or (a::b::rest) pos) (qZ tA tB'):=⟨pw_or ha.out hb.out⟩
theorem QW.pt(h:QW X a tA):QT X a tA:=⟨h.out.pt⟩
theorem m8(ha:QE X a ta)(he:∀ whole,isTrue a X.env whole=(do let v <- whole;standAt a.pos;holding [v] (truthy v)):=by intro _;rfl)(hK:X.K=K:=by rfl):QT X a (tTru K ta):=by subst hK;exact ⟨aqd ha.out he⟩
variable {st:Stmt} {sts:List Stmt}
theorem K1:QSs X [] tNext:=⟨amC⟩
theorem B5(h:QS X st t):QSs X [st] t:=⟨amD h.out⟩
theorem C1(h:QS X st t)(h2:QSs X sts u):QSs X (st::sts) (tSeq t u):=⟨akp h.out h2.out⟩
theorem E4(he:QE X e te):QS X (.Return (some e) pos) (tRet te):=⟨aoE he.out⟩
theorem aqC(hN:X.N.Nodup)(hi:X.N[n]?=some x)(hx:Y1 X.env.scope x)(he:QE X e te)(hs:swapsWith e (some (.Name x pos')) pos.line X.env=pure false:=by rfl)(hf:X.fn x=true:=by rfl):QS X (.Assign [.Name x pos'] e pos) (tAsg te (gName n)):=⟨aoI hN hi hx he.out hs (.inl hf)⟩
theorem iG{f:Str}(ho:QE X o to)(hv:QE X value tv)(hs:swapsWith value (some (.Attribute o f pos')) pos.line X.env=pure false:=by rfl)(hK:X.K=K:=by rfl):QS X (.Assign [.Attribute o f pos'] value pos) (sFld K to tv f):=by subst hK;exact ⟨aoV ho.out hv.out hs⟩
theorem kP{f:Str}(ho:QE X o to)(hb:attributeBase o f X.env (eval o X.env)=eval o X.env:=by rfl)(hK:X.K=K:=by rfl):QE X (.Attribute o f pos) (tFld K to f):=by subst hK;exact ⟨aoU ho.out hb⟩
theorem z8(hu:X.A.units+1<cLine)(ho:QE X o to)(hi:QE X i ti)(hv:QE X value tv)(hs:swapsWith value (some (.Subscript o i pos')) pos.line X.env=pure false:=by rfl):QS X (.Assign [.Subscript o i pos'] value pos) (sDPut to ti tv):=⟨amY hu ho.out hi.out hv.out hs⟩
theorem sN{op:Operator}{rd:V->V->Hp->VK->Prop}(hu:X.A.units+1<cLine)(ho:QE X o to)(hi:QE X i ti)(hv:QE X value tv)(wF:QIn X op rd)(ha:∀ ov iv new,augStore i ov iv new=(do holding [new,ov,iv] (setItem ov iv new);release [new,ov,iv] [];pure .next):=by exact fun _ _ _=>rfl) :
  QS X (.AugAssign (.Subscript o i tpos) op value pos) (sDAug to ti tv rd):=⟨amZ hu ho.out hi.out hv.out wF.out ha⟩
theorem aqD(he:QE X e te)(hg:QG X tg g)(hs:swapsWithSole [tg] e pos.line X.env=pure false:=by rfl)(hw:swappedStores [tg] e X.env=pure none:=by rfl)(h1:(assignEach [tg] X.env).map (·.2)=[assign tg X.env]:=by rfl):QS X (.Assign [tg] e pos) (tAsg te g):=⟨aoH he.out hg.out hs hw h1⟩
theorem aqE{op:Operator}{tip:cR}(hN:X.N.Nodup)(hi:X.N[n]?=some x)(hx:Y1 X.env.scope x)(he:QE X e te)(ho:QIp X op tip)(hf:X.fn x=true:=by rfl):QS X (.AugAssign (.Name x pos') op e pos) (tAug n te tip):=⟨aoJ hN hi hx he.out ho.out (.inl hf)⟩
theorem R0(he:QE X e te)(hs:swapsWith e none pos.line X.env=pure false:=by rfl):QS X (.Expr e pos) (tDrop te):=⟨amE he.out hs⟩
theorem qs_if{sa sb:List Stmt}(hc:QT X c tA)(ha:QSs X sa t)(hb:QSs X sb u):QS X (.If c sa sb pos) (tIfS tA t u):=⟨ps_if hc.out ha.out hb.out⟩
theorem oJ{body:List Stmt}(hp:PassesOwn 'a' X.A X.env X.xe)(hc:QT X c tA)(hb:QSs X body t):QS X (.While c body [] pos) (nQ tA t):=⟨akr hp hc.out hb.out⟩
theorem N4{iter:Expr}{body:List Stmt}{wi:TI}(hp:PassesOwn 'a' X.A X.env X.xe)(hi:QI X tg iter wi)(hg:QG X tg g)(hb:QSs X body t)(hc:X.calm=true:=by rfl)(hs:∀ x,foldedSetIterable iter X.env x=pure x:=by intro _;rfl):QS X (.For tg iter body [] pos) (tFor wi g t):=⟨aoM hp hc hi.out hg.out hb.out hs⟩
theorem W7(hN:X.N.Nodup)(hi:X.N[n]?=some x)(hx:Y1 X.env.scope x)(hf:X.fn x=true\/X.env.scope.names.lookup x=some .local:=by first | exact .inl rfl | exact .inr rfl | assumption):QG X (.Name x pos) (gName n):=⟨amF hN hi hx hf⟩
theorem eO:QGs X [] gNil:=⟨amG⟩
theorem Z2{gs:j9}(h1:QG X e g)(h2:QGs X es gs)(hs:(assignEach (e::es) X.env).map (·.2)=assign e X.env::(assignEach es X.env).map (·.2):=by rfl):QGs X (e::es) (gCons g gs):=⟨akq h1.out h2.out hs⟩
theorem eP{gs:j9}(h:QGs X es gs)(hc:X.calm=true:=by rfl)(hn:(assignEach es X.env).length=n:=by rfl)(Z7:(assignEach es X.env).findIdx? (·.1)=none:=by rfl)(hK:X.K=K:=by rfl):QG X (.Tuple es k pos) (gTup K n gs):=by subst hK;exact ⟨aoG hc h.out hn Z7⟩
variable {tg:Expr}
theorem O4(h:QE X e te)(hK:X.K=K:=by rfl):QI X tg e (iList K te):=by subst hK;exact ⟨amH h.out⟩
theorem kQ(h:QE X e te)(hK:X.K=K:=by rfl):QI X tg e (iTup K te):=by subst hK;exact ⟨aoL h.out⟩
theorem aqF(h:QE X e te):QI X tg e (iStr te):=⟨aqj h.out⟩
theorem qi_r1(hm:X.mg "range"=none)(ha:QA X [a] tl)(hg:Gl X "range":=by rfl)(h1:L6 a=false:=by rfl):QI X tg (.Call (.Name "range" p) [a] [] pos) (iRng1 tl):=⟨pi_r1 hg hm ha.out h1⟩
theorem qi_r2(hm:X.mg "range"=none)(ha:QA X [a,b] tl)(hg:Gl X "range":=by rfl)(h1:L6 a=false:=by rfl)(h2:L6 b=false:=by rfl):QI X tg (.Call (.Name "range" p) [a,b] [] pos) (iRng2 tl):=⟨pi_r2 hg hm ha.out h1 h2⟩
theorem eQ:QIfs X [] tYes:=⟨akI⟩
theorem eR(h:QT X c tA):QIfs X [c] tA:=⟨akJ h.out⟩
variable {sc:Scope} {N':List Str} {k:Nat} {ixs:List Nat} {ifs:List Expr} {wi:TI} {g:TG} {elt:Expr}
theorem u0(C:CompOk X.N X.env.scope.names sc N' k ixs)(hi:QI X tg e wi)(hg:∀ C zu zr fp pins,QG (N3 X sc N' C zu zr fp pins) tg g)(hc:∀ C zu zr fp pins,QIfs (N3 X sc N' C zu zr fp pins) ifs tA)(he:∀ C zu zr fp pins,QE (N3 X sc N' C zu zr fp pins) elt te)(M9:X.calm=true:=by rfl)(hs:∀ x,foldedSetIterable e X.env x=pure x:=by intro _;rfl):QE X (.ListComp elt [⟨tg,e,ifs,0⟩] sc pos) (tComp wi k ixs g tA te):=
 ⟨am1 C M9 hi.out (fun _ _ _ _ _=>(hg _ _ _ _ _).out) (fun _ _ _ _ _=>(hc _ _ _ _ _).out) (fun _ _ _ _ _=>(he _ _ _ _ _).out) hs⟩
theorem sO(hN:X.N.Nodup)(hiN:X.N[n]?=some x)(hx:Y1 X.env.scope x)(C:CompOk X.N X.env.scope.names sc N' k ixs)(hi:QI X tg e wi)(hg:∀ C zu zr fp pins,QG (N3 X sc N' C zu zr fp pins) tg g)(hc:∀ C zu zr fp pins,QIfs (N3 X sc N' C zu zr fp pins) ifs tA)(he:∀ C zu zr fp pins,QE (N3 X sc N' C zu zr fp pins) elt te)(lS:swapsWith (.ListComp elt [⟨tg,e,ifs,0⟩] sc pos) (some (.Name x pos')) spos.line X.env=pure true:=by rfl)(M9:X.calm=true:=by rfl)(hf:X.fn x=true:=by rfl)(hs:∀ x,foldedSetIterable e X.env x=pure x:=by intro _;rfl) :
  QS X (.Assign [.Name x pos'] (.ListComp elt [⟨tg,e,ifs,0⟩] sc pos) spos) (tAsg (tComp wi k ixs g tA te) (gName n)):=
 ⟨ah5 hN hiN hx C M9 hi.out (fun _ _ _ _ _=>(hg _ _ _ _ _).out) (fun _ _ _ _ _=>(hc _ _ _ _ _).out) (fun _ _ _ _ _=>(he _ _ _ _ _).out) lS (.inl hf) hs⟩
theorem q_add(hK:X.K=K:=by rfl):QOp X (binaryOp .Add) (rAddU K):=by subst hK;exact ⟨p_add⟩
theorem q_sub:QOp X (binaryOp .Sub) (s0 fun i j=>.int (i-j)):=⟨p_sub⟩
theorem q_mul:QOp X (binaryOp .Mult) rMulU:=⟨p_mul⟩
theorem bD:QOp X (binaryOp .FloorDiv) (rI CDiv fun i j=>.int (i / j)):=⟨aqe⟩
theorem q_mod:QOp X (binaryOp .Mod) (rI (fun _ j=>0<j) fun i j=>.int (i % j)):=⟨p_mod⟩
theorem q_eq(hu:X.A.units+64<cLine)(hK:X.K=K:=by rfl):QOp X (compareOp .Eq) (rEqU K):=by subst hK;exact ⟨p_eq hu⟩
theorem q_ne(hu:X.A.units+64<cLine)(hK:X.K=K:=by rfl):QOp X (compareOp .NotEq) (rNeU K):=by subst hK;exact ⟨p_ne hu⟩
theorem q_lt:QOp X (compareOp .Lt) rLtU:=⟨p_lt⟩
theorem q_le:QOp X (compareOp .LtE) rLeU:=⟨p_le⟩
theorem q_gt:QOp X (compareOp .Gt) rGtU:=⟨p_gt⟩
theorem q_ge:QOp X (compareOp .GtE) rGeU:=⟨p_ge⟩
theorem q_in(hu:X.A.units+64<cLine)(hK:X.K=K:=by rfl):QOp X (compareOp .In) (rInU K false):=by subst hK;exact ⟨p_in hu⟩
theorem sP(hu:X.A.units+64<cLine)(hK:X.K=K:=by rfl):QOp X (compareOp .NotIn) (rInU K true):=by subst hK;exact ⟨am3 hu⟩
theorem q_isN:QOp X (compareOp .Is) (fun x y H Q=>y=.non/\Q (.bl (decide (x=.non))) H):=⟨aoT⟩
theorem q_neg:QUn X (unaryOp .USub) (rU fun i=>.int (-i)):=⟨aoS⟩
theorem q_len(hK:X.K=K:=by rfl):QCall X (.builtin "len") (rLenU K):=by subst hK;exact ⟨p_len⟩
theorem q_isi:QCall X (.builtin "isinstance") rIsi:=⟨akK⟩
theorem cX(hK:X.K=K:=by rfl)(v2:X.calm=calm:=by rfl):QCall X (.type "list") (sC K calm):=by subst hK;subst v2;exact ⟨aqh⟩
theorem m9:QMt X "list.append" rQ:=⟨fun pins s Y H x xs v us Q I rx rv h=>zS pins s Y H x xs v us Q I rx rv h⟩
theorem ajc:QMt X "list.reverse" zT:=⟨fun pins s Y H x xs v us Q I rx rv h=>ah4 pins s Y H x xs v us Q I rx rv h⟩
theorem q_pop:QMt X "list.pop" rPop:=⟨fun pins s Y H x xs v us Q I rx rv h=>ao7 pins s Y H x xs v us Q I rx rv h⟩
theorem aqG:QIp X .Add (rD fun i j=>i+j):=⟨aoK⟩
theorem aqH:QIn X .Add rAdd:=⟨aoW⟩
theorem aml:QIn X .Sub rSub:=⟨aoX⟩
end
noncomputable def ModD (P:Program) (w:World) (K:PySem.W.Frag) (a:Addr) (kvs:List (A7×V)):Prop:=(a==sysModules)=false/\∀ h:Heap,K.In h->∃ vs,KV kvs vs/\h.DictOf (M4 P w) a vs
noncomputable abbrev ModE (w:World):List DictEntry->List (A7×V)->Prop:=Paired fun e kv=>keyIs kv.1 e.key=true/\e.hash=keyH w kv.1/\RelV kv.2 e.val
theorem ModE.pairs{P:Program}{w:World} : ∀ {es:List DictEntry} {kvs:List (A7×V)},ModE w es kvs->∃ vs:List (A7×Value),KV kvs vs/\Pairs (M4 P w) es vs/\(∀ e∈es,∃ k,(M4 P w).is k e.key=true/\e.hash=(M4 P w).hash k)/\vs.map (·.1)=kvs.map (·.1)
 | _,_,.nil=>⟨[],.nil,.nil,fun e h=>(nomatch h),rfl⟩
 | e::es,kv::kvs,.cons ⟨h1,h2,h3⟩ t=>by
  obtain ⟨vs,a1,a2,a3,a4⟩:=ModE.pairs (P:=P) t;refine ⟨(kv.1,e.val)::vs,.cons ⟨rfl,h3⟩ a1,.cons h1 rfl a2,fun e' he=>?_,by rw [J3,J3,a4]⟩
  rcases F9.mp he with z | z
  .rw [z];exact ⟨kv.1,h1,h2⟩
  .exact a3 e' z
theorem anE{P:Program}{w:World}{es:Array DictEntry}(l:K.lookup a=some { cls:=.type "dict",dict:=none,data:=.dict es ep,slots:=#[] })(hs:(a==sysModules)=false)(he:ModE w es.toList kvs)(hn:(kvs.map (·.1)).Nodup):ModD P w K a kvs:=by
 refine ⟨hs,fun h X=>?_⟩;obtain ⟨vs,a1,a2,a3,a4⟩:=he.pairs (P:=P);exact ⟨vs,a1,_,es,ep,X a _ l,⟨rfl,rfl,rfl⟩,rfl,fun e h=>a3 e (Array.mem_toList_iff.mpr h),a2,by rw [a4];exact hn⟩
noncomputable def rInM (neg:Bool) (a:Addr) (kvs:List (A7×V)):R2:=fun x y H Q=>y=.ref a/\∃ k,x=kV k/\Q (.bl (neg.xor (valV kvs k).isSome)) H
noncomputable def amm (a:Addr) (kvs:List (A7×V)) (to ti:TE):TE:=fun Y H Q=>to Y H fun x H1=>ti Y H1 fun y H2=>x=.ref a/\∃ k v,y=kV k/\valV kvs k=some v/\Q v H2
section
variable {X:Cx} {a:Addr} {kvs:List (A7×V)} {o i:Expr} {to ti:TE} {pos:Pos}
theorem q_inM(M:ModD X.prog X.w X.K a kvs):QOp X (compareOp .In) (rInM false a kvs):=⟨by
 sleep 0;obtain ⟨rfl,k,rfl,q⟩:=h;obtain rfl:u=Value.ref a:=ry;obtain ⟨hd,M⟩:=M;obtain ⟨vs,rel,dd⟩:=M s.heap I.kIn;refine wpAny_in_of (kV_is rx) hd dd.mapOf ?_;rw [<- (rel.val k).isSome_eq];exact ⟨.bl _,H,I.tok _,rfl,by simpa using q⟩⟩
theorem ahg(M:ModD X.prog X.w X.K a kvs)(ho:QE X o to)(hi:QE X i ti)(hs:NoSl i:=by exact fun _ _=>rfl):QE X (.Subscript o i pos) (amm a kvs to ti):=⟨by
 sleep 1;refine zX PySem.F.slot_dict_getitem.lookup hs (B3 (ho.out pins s Y H _ I h) fun u s1 ⟨x,H1,I1,rx,q1⟩=>B3 (hi.out pins s1 Y H1 _ I1 q1) fun iv s2 ⟨y,H2,I2,ry,ex,k,v,ey,l,q2⟩=>?_);subst ex ey;obtain rfl:u=Value.ref a:=rx;obtain ⟨hd,M⟩:=M;obtain ⟨vs,rel,dd⟩:=M s2.heap I2.kIn;obtain ⟨w',hw,rw'⟩:=gU (v:=v) (o:=valueAt vs k) (by rw [<- l];exact rel.val k);exact ⟨dd.typeIs,wpAny_getItem_of (kV_is ry) dd.mapOf hw ⟨v,H2,I2.tok _,rw',q2⟩⟩⟩
end
theorem amn{k:A7} : (V.str z=kV k)=(k=Sum.inr z):=by
 cases k with
 | inl i=>exact propext ⟨fun h=>(by cases h),fun h=>(by cases h)⟩
 | inr x=>exact propext ⟨fun h=>(by cases h;rfl),fun h=>(by cases h;rfl)⟩
theorem aqI : rInM neg a kvs (.str z) (.ref b) H Q=(V.ref b=V.ref a/\Q (.bl (neg.xor (valV kvs (Sum.inr z)).isSome)) H):=by
 unfold rInM;simp only [amn,exists_eq_left]
theorem ak4{to ti:TE} : amm a kvs to ti Y H Q=to Y H fun x H1=>ti Y H1 fun y H2=>x=.ref a/\∃ k v,y=kV k/\valV kvs k=some v/\Q v H2:=rfl
noncomputable def ajd (c:TT) (tb:TS) (D:Ends) (Y:St) (H:Hp):Prop:=nQ c tb D Y H
theorem ak5 : nQ c tb D Y H=ajd c tb D Y H:=rfl
theorem oK(Pv:Nat->St->Hp->Prop)(m:Nat)(h0:Pv m Y H)(hs:∀ m Y H,Pv m Y H->c Y H fun b H1=>if b=true then ∃ N:St->Hp->Prop,(∀ σ' H',N σ' H'->∃ m',m'<m/\Pv m' σ' H')/\tb { D with nx:=N,ct:=N,bk:=D.nx } Y H1 else D.nx Y H1):ajd c tb D Y H:=⟨Pv,⟨m,h0⟩,hs⟩
noncomputable def rTupR (K:PySem.W.Frag) (p:Addr) (H:Hp) (Q:VK):Prop:=∃ ys,(D6 K H p ys/\∀ l,H l=none->Q (.ref l) (A0 H l (.tup ys)))\/(D1 K H p ys/\Q (.ref p) H)
theorem rTupR.l(h1:D6 K H p ys)(h:∀ l,H l=none->Q (.ref l) (A0 H l (.tup ys))):rTupR K p H Q:=⟨ys,.inl ⟨h1,h⟩⟩
noncomputable def rTupU (K:PySem.W.Frag):List V->Hp->VK->Prop
 | [.ref p],H,Q=>rTupR K p H Q
 | _,_,_=>False
theorem tup_r : rTupU K [.ref p] H Q=rTupR K p H Q:=rfl
theorem sQ(hK:X.K=K:=by rfl):QCall X (.type "tuple") (rTupU K):=by
 subst hK;refine ⟨fun pins s Y H xs us Q I r h=>?_⟩
 match xs,h with
 | [.ref p],⟨ys,h⟩=>exact aeR pins s Y H _ us Q I r ⟨p,ys,rfl,h⟩
noncomputable def rMin:List V->Hp->VK->Prop:=fun xs H Q=>∃ i j,xs=[.int i,.int j]/\Q (.int (if j<i then j else i)) H
noncomputable def rMax:List V->Hp->VK->Prop:=fun xs H Q=>∃ i j,xs=[.int i,.int j]/\Q (.int (if j > i then j else i)) H
theorem aqJ{i j:Int} : rMin [.int i,.int j] H Q=Q (.int (if j<i then j else i)) H:=propext ⟨fun ⟨_,_,e,q⟩=>(by cases e;exact q),fun q=>⟨_,_,rfl,q⟩⟩
theorem aqK{i j:Int} : rMax [.int i,.int j] H Q=Q (.int (if j > i then j else i)) H:=propext ⟨fun ⟨_,_,e,q⟩=>(by cases e;exact q),fun q=>⟨_,_,rfl,q⟩⟩
noncomputable def rCalm (calm:Bool) (r:List V->Hp->VK->Prop):List V->Hp->VK->Prop:=fun xs H Q=>calm=true/\r xs H Q
theorem anF{r:List V->Hp->VK->Prop} : rCalm true r xs H Q=r xs H Q:=propext ⟨fun h=>h.2,fun h=>⟨rfl,h⟩⟩
end L2
namespace L2
open PySem PySem.Spec PyProof.Rows
open PySem.Builtin PySem.Builtin.Str PySem.StrLaws
noncomputable def tSeqM (t u:TS):TS:=fun D Y H=>∃ M:St->Hp->Prop,t { D with nx:=M } Y H/\∀ σ' H',M σ' H'->u D σ' H'
theorem eS{rest:List Stmt}{t u:TS}(h1:QS X st t)(h2:QSs X rest u):QSs X (st::rest) (tSeqM t u):=⟨by
 intro pins s Y H D I h;obtain ⟨M,h,hm⟩:=h;refine wpAny_execs_cons (B3 (h1.out pins s Y H { D with nx:=M } I h) fun f s1 q=>?_)
 cases f with
 | next=>
  obtain ⟨σ',H',I',q⟩:=q;exact h2.out pins s1 σ' H' D I' (hm _ _ q)
 | ret v=>exact q
 | brk=>exact q
 | cont=>exact q⟩
theorem mid{t u:TS}(M:St->Hp->Prop)(h:t { D with nx:=M } Y H)(h2:∀ σ' H',M σ' H'->u D σ' H'):tSeqM t u D Y H:=⟨M,h,h2⟩
theorem kR(h:H p=some (.lst xs)):TruV K (.ref p) H (!xs.isEmpty):=.inl ⟨xs,.of h,rfl⟩
theorem cY(xs:List V)(k:Nat):cutV xs (some (k:Int)) none=xs.drop k:=by
 unfold cutV;have e1:HT.sIx xs.length 0 (some (k:Int))=min k xs.length:=by unfold HT.sIx;simp;lia
 have e2:HT.sIx xs.length xs.length none=xs.length:=rfl;rw [e1,e2,j1 (by rw [f7];exact C3 _)]
 by_cases h:k<=xs.length
 .rw [gK h]
 .rw [Nat.min_eq_right 'b',nK (C3 _),nK 'b']
theorem sR(xs:List V)(k:Nat):cutV xs none (some (k:Int))=xs.take k:=by
 unfold cutV;have e1:HT.sIx xs.length xs.length (some (k:Int))=min k xs.length:=by unfold HT.sIx;simp;lia
 have e2:HT.sIx xs.length 0 none=0:=rfl;rw [e1,e2,List.drop_zero,Nat.sub_zero]
 by_cases h:k<=xs.length
 .rw [gK h]
 .rw [Nat.min_eq_right 'b',j1 (C3 _),j1 'b']
theorem sS(x:V)(xs:List V):cutV (x::xs) (some 1) none=xs:=cY (x::xs) 1
theorem Y5{α:Type}(x:α)(xs:List α):J5 (x::xs) 0=some x:=by
 have e:l6 (x::xs).length 0=some 0:=by unfold l6;rw [if_pos (Int.le_refl 0),if_pos (by rw [G8];lia)];rfl
 unfold J5;rw [e];rfl
theorem anG{trs:List (TE×TE)} : tDisp trs Y H Q=∀ p,H p=none->hV trs Y (A0 H p (.dK [])) fun ps H2=>H2 p=some (.dK [])/\∃ kvs:List (A7×V),ps=kvs.map (fun kv=>(kV kv.1,kv.2))/\kvs.length<=15/\Q (.ref p) (A0 H2 p (.dK (g6 [] kvs))):=rfl
theorem anH{Q:List (V×V)->Hp->Prop} : hV [] Y H Q=Q [] H:=rfl
theorem ak6{tk tv:TE}{r:List (TE×TE)}{Q:List (V×V)->Hp->Prop} : hV ((tk,tv)::r) Y H Q=tk Y H fun x H1=>tv Y H1 fun y H2=>hV r Y H2 fun ps H3=>Q ((x,y)::ps) H3:=rfl
theorem ak7{td ty tx:TE} : aqb td ty tx Y H Q=td Y H fun x H1=>∃ a,x=.ref a/\bC H1 a/\ty Y H1 fun y H2=>tx Y H2 fun z H3=>∃ o,DGet H3 a y o/\Q (o.getD z) H3:=rfl
theorem oM:∀ {zs:List Str} {us:List Value},Vals (zs.map V.str) us->StrsAre us zs
 | [],_,.nil=>.nil
 | z::zs,_::_,.cons ⟨t,h⟩ r=>by subst h;exact .cons _ _ (oM r)
end L2
namespace L2
open PySem PySem.Spec PyProof.Rows
theorem ab5:entryFor table "dict.update.loop"=some Builtin.«dict.update.loop»:=entryFor_of_tree (by kernel_rfl)
theorem oN:plainId "dict.update.loop"=true:=by decide +kernel
section
variable {prog:Program} {w:World} {A:Around} {R:Result->Shared->Prop} {I:Addr} {fp wr:List Addr} {G:Array GenState->Array GenState->Prop} {n:Nat} {P:Nat->Value->Prop} {St:Nat->Shared->Prop}
variable {K:Type} [DecidableEq K] {knd:KeyKind prog w K}
noncomputable def u3 (ks:Nat->K) (vl:Nat->Value):Nat->List (K×Value)
 | 0=>[]
 | i+1=>stored (u3 ks vl i) (ks i) (vl i)
theorem adL(ks:Nat->K)(vl:Nat->Value):∀ i,(u3 ks vl i).length<=i
 | 0=>C3 _
 | i+1=>by
  have h1:=adL ks vl i;have h2:(stored (u3 ks vl i) (ks i) (vl i)).length<=(u3 ks vl i).length+1:=by
   unfold stored
   split
   .rw [A3];lia
   .rw [D4];exact C3 _
  show (stored (u3 ks vl i) (ks i) (vl i)).length<=i+1;lia
theorem aje(W:WalksS prog w A.in1 I fp wr G n P St)(d:Addr)(aF:d∉fp)(tp:Nat->Addr)(ky vl:Nat->Value)(ks:Nat->K)(hP:∀ i v,P i v->v=.ref (tp i))(hk:∀ i,i<n->knd.is (ks i) (ky i)=true)(ht:∀ i,i<n->tp i≠d/\tp i∉wr)(hn:n<=sizeLine) :
  ∀ (k i:Nat) (s:Shared) (j:Int) (t:Tok),n-i=k->i<=n->St i s->(∀ i,i<n->IsTup s.heap (tp i) #[ky i,vl i])->s.heap.DictOf knd d (u3 ks vl i)->
   (∀ s',Moved (d::wr) G s s'->s'.heap.DictOf knd d (u3 ks vl n)->R (.ok (.ret .none)) s')->
   codeAny 'd' A (.builtin "dict.update.loop" ⟨[.ref d,.ref I,.int j t,.none],[]⟩) R s:=by
 have hdw:d∉wr:=fun h=>aF (W.sub _ h)
 have v3:∀ b∈wr,b∈d::wr:=fun b hb=>L8 _ hb
 intro k
 induction k with
 | zero=>
  intro i s j t lT hi Z7 hT hD hR;have L5:i=n:=by lia
  subst L5;refine codeAny_builtin ab5 ?_;rw [Around.under_plainId oN _];show wpAny _ A.in1 (pyNext (.ref I) >>= _) _ _ s;refine wpAny_bind (W.done s _ _ Z7 fun s' hm=>?_);have e0:Builtin.Dict.addKeywords d []=pure ():=rfl;show wpAny _ A.in1 (Builtin.Dict.addKeywords d [] >>= fun _=>ret Value.none) _ _ s';rw [e0];refine wpAny_bind (wpAny_pure (wpAny_pure (hR s' (hm.mono v3) ?_)));obtain ⟨o,es,ep,ho,rest⟩:=hD;exact ⟨o,es,ep,hm.heap d _ hdw ho,rest⟩
 | succ k ih=>
  intro i s j t lT hi Z7 hT hD hR;have C7:i<n:=by lia
  refine codeAny_builtin ab5 ?_;rw [Around.under_plainId oN _];show wpAny _ A.in1 (pyNext (.ref I) >>= _) _ _ s;refine wpAny_bind (W.item i s _ _ C7 Z7 fun v s' hv fK hm=>?_);obtain rfl:=hP i v hv;have hD':s'.heap.DictOf knd d (u3 ks vl i):=by
   obtain ⟨o,es,ep,ho,rest⟩:=hD;exact ⟨o,es,ep,hm.heap d _ hdw ho,rest⟩
  have hT':∀ i,i<n->IsTup s'.heap (tp i) #[ky i,vl i]:=fun i hi=>by
   obtain ⟨o,ho,rest⟩:=hT i hi;exact ⟨o,hm.heap _ _ (ht i hi).2 ho,rest⟩
  have hTi:=hT' i C7;obtain ⟨o,ho,vV,n0,jE⟩:=id hTi;refine wpAny_bind (wpAny_holding (wpAny_bind (wpAny_tryCatch ?_)));unfold Builtin.Dict.pairItems;refine wpAny_bind (wpAny_typeOf hTi.typeIs ?_);rw [if_pos 'g'];refine wpAny_bind (wpAny_seqItems ho jE ?_);refine wpAny_pure ?_;show wpAny _ _ (holding [ky i,vl i] (dictSet d (ky i) (vl i))) _ _ s';have hl:=adL ks vl i;refine wpAny_holding (wpAny_dictSet_pairs (hk i C7) hD' (fun h' hD2 jF=>?_) 'b');refine wpAny_pure ⟨plainId_quiet oN _,ih (i+1) _ (j+1) 0 'b' C7 (W.frame _ s' _ _ fK (y4 _) fun b hb o e=>?_) (fun i hi=>?_) hD2 fun s'' hm'' hD''=>?_⟩
  .rw [jF.2 b (fun h:b=d=>aF (by rw [<- h];exact hb))];exact e
  .obtain ⟨o,ho,rest⟩:=hT' i hi;exact ⟨o,(jF.2 _ (ht i hi).1).trans ho,rest⟩
  .refine hR s'' (Moved.trans W.gtrans ((hm.mono v3).then_heap (y4 _) fun b o hb e=>?_) hm'') hD'';rw [jF.2 b (fun h:b=d=>hb (by rw [h];exact K5))];exact e
end
theorem ah6:typeLookup (.type "list") "__getattribute__"=pure (some (.builtin "list.__getattribute__")):=by rw [typeLookup_type,builtinLookup_eq_fast];kernel_rfl
theorem afL:typeLookup (.type "list") "keys"=pure none:=by rw [typeLookup_type,builtinLookup_eq_fast];kernel_rfl
theorem afM:typeLookup (.type "list") "__getattr__"=pure none:=by rw [typeLookup_type,builtinLookup_eq_fast];kernel_rfl
theorem afN{w:World}{E:Value->Shared->Prop}{l:Addr}{o:Obj}{xs:Array Value}{Q:Option Value->Shared->Prop}(hx:s.heap.get? l=some o)(hc:o.cls=.type "list")(lU:o.data=.seq xs k)(hd:o.dict=none)(hA:A.handled=none)(h:∀ h' tk,(∀ b o,s.heap.get? b=some o->h'.get? b=some o)->Q none { s with heap:=h',toks:=tk }):wpAny 'd' A (getAttr? (.ref l) "keys") Q E s:=by
 obtain ⟨c,dct,dat,sl⟩:=o;simp only at hc lU hd;subst hc lU hd;obtain ⟨hp,g,d,tk,os⟩:=s;have hT:∀ tk',(⟨hp,g,d,tk',os⟩:Shared).TypeIs (.ref l) "list":=fun _=>⟨_,hx,rfl⟩
 have f4:=F.slot_list_getattribute.bind (.ref l);unfold getAttr? getAttrBy? getAttrBy;refine wpAny_bind (wpAny_mkText (wpAny_bind (wpAny_attempt (wpAny_holding (wpAny_bind (wpAny_typeOf (hT _) ?_))))));rw [ah6];refine wpAny_bind (wpAny_pure ?_);show wpAny _ _ (getAttrByItsOwn _ _ _ _ _ _) _ _ _;unfold getAttrByItsOwn;refine wpAny_bind (wpAny_pure ?_);refine wpAny_bind (wpAny_attempt (wpAny_holding ?_));show wpAny _ _ (boundAndCalled _ _ _) _ _ _;unfold boundAndCalled;rw [f4];refine wpAny_bind (wpAny_pure ?_);refine call_meets F.slot_list_getattribute (hT _) am_entry_list_getattribute (F.args_list_getattribute_2 _ _) (meets_getattribute_miss_list l xs k sl "keys" _ afL 'e' 'e') ⟨hx,hA,fun h' tk' e new=>?_⟩;obtain ⟨t',u',he⟩:=new.there;have hTe:∀ tk',(⟨h',g,d,tk',os⟩:Shared).TypeIs (.ref e) "AttributeError":=fun _=>⟨_,he,rfl⟩
 show wpAny _ _ (getattributeRaised _ _ _ _ _ _ _) _ _ _;unfold getattributeRaised;refine wpAny_bind (wpAny_isInstance (hTe _) sub_AttributeError ?_);rw [if_pos rfl];show wpAny _ _ (hookBehind _ _ >>= _) _ _ _;unfold hookBehind;rw [if_neg 'g',afM];refine wpAny_bind (wpAny_pure ?_);unfold hookOrError attributeErrorLeaves;show wpAny _ _ (if (!false)=true then _ else _) _ _ _;rw [if_pos 'g'];refine wpAny_bind (wpAny_throw ?_);show wpAny _ _ (isInstance _ _ >>= _) _ _ _;refine wpAny_bind (wpAny_isInstance (hTe _) sub_AttributeError ?_);rw [if_pos rfl];exact wpAny_pure (h h' tk' new.keeps)
section
variable {prog:Program} {w:World} {A:Around} {E:Value->Shared->Prop} {s:Shared} {K:Type} [DecidableEq K] {knd:KeyKind prog w K}
theorem adM{l:Addr}{Q:Value->Shared->Prop}(hl:PlainL s.heap l items)(hA:A.handled=none)(tp:Nat->Addr)(ky vl:Nat->Value)(ks:Nat->K)(hP:∀ (i:Nat) (v:Value),items[i]?=some v->v=Value.ref (tp i))(hk:∀ i,i<items.size->knd.is (ks i) (ky i)=true)(hT:∀ i,i<items.size->IsTup s.heap (tp i) #[ky i,vl i])(hn:items.size<=sizeLine)(h:∀ h' tk,(∀ b o,s.heap.get? b=some o->h'.get? b=some o)->h'.DictOf knd s.heap.objs.size (u3 ks vl items.size)->Q (.ref s.heap.objs.size) { s with heap:=h',toks:=tk }) :
  wpAny 'd' A (call (.type "dict") [.ref l]) Q E s:=by
 refine callType_codes (Q₁:=fun obj zt=>obj=.ref s.heap.objs.size/\zt={ s with heap:=s.heap.push { cls:=.type "dict",data:=.dict #[] } }) F.kt_called_dict (F.kt_typeCall_dict_1 _) F.entry_dict_init (kt_code_dict_new _ ⟨rfl,rfl⟩) ?_;rintro obj zt ⟨rfl,rfl⟩;have Q0:(s.heap.push { cls:=.type "dict",data:=.dict #[] }).DictOf knd s.heap.objs.size []:=Heap.DictOf.new s.heap;obtain ⟨ol,nl,fL,fM,qA,b8⟩:=hl;have fO:(s.heap.push { cls:=.type "dict",data:=.dict #[] }).get? l=some ol:=Heap.get?_push_of_some _ fL;have C7:l<s.heap.objs.size:=Heap.lt_size fL;refine ⟨Q0.typeIs,F.args_dict_init_2 _ _,?_⟩;unfold Builtin.«dict.__init__»;refine wpAny_bind ?_;unfold Builtin.Dict.selfAndRest;refine wpAny_bind (wpAny_notOrdered_dict Q0.typeIs ?_);show wpAny _ _ (pure (s.heap.objs.size,[Value.ref l])) _ _ _;refine wpAny_pure ?_;show wpAny _ _ (Builtin.Dict.updateFrom "dict.__init__" s.heap.objs.size (.ref l) [] .none) _ _ _;unfold Builtin.Dict.updateFrom;refine wpAny_bind (wpAny_typeOf (T:="list") ⟨_,fO,fM⟩ ?_);rw [if_pos 'g'];refine wpAny_bind (afN fO fM b8 qA (by simp [hA]) fun h2 tk2 keep2=>?_);rw [if_pos (show (none:Option Value).isNone=true from rfl)];refine wpAny_bind (wpAny_rule ?_);have lO:h2.IsList l items:=⟨ol,keep2 _ _ fO,fM,nl,b8⟩
 refine wpAny_bind (wpAny_pyIter_list lO ?_);obtain ⟨od,es,ep,jE,restd⟩:=Q0;have bM:s.heap.objs.size<h2.objs.size:=Heap.lt_size (keep2 _ _ jE);have G7:l≠h2.objs.size:=J4 (y3 C7 bM);have hh:A.in1.in1.handled=none:=by simp [hA]
 have aF:s.heap.objs.size∉[h2.objs.size,l]:=by
  simp only [F9,eD,or_false,not_or];exact ⟨J4 bM,q9 C7⟩
 have bN:∀ i,i<items.size->tp i<s.heap.objs.size:=fun i hi=>by
  obtain ⟨o,ho,_⟩:=hT i hi;exact Heap.lt_size ho
 refine wpAny_pure ⟨plainId_quiet oN _,aje ((Walks.list hh _ l G7 items).toS) s.heap.objs.size aF tp ky vl ks hP hk (fun i hi=>⟨J4 (bN i hi),?_⟩) hn (items.size-0) 0 _ 0 0 'b' (J0 _) ⟨⟨_,Heap.get?_push_size _ rfl,rfl,rfl⟩,lO.push _⟩ (fun i hi=>?_) ?_ fun s' hm hD'=>?_⟩
 .simp only [F9,eD,or_false];exact J4 (y3 (bN i hi) bM)
 .obtain ⟨o,ho,rest⟩:=hT i hi;exact ⟨o,Heap.get?_push_of_some _ (keep2 _ _ (Heap.get?_push_of_some _ ho)),rest⟩
 .exact ⟨od,es,ep,Heap.get?_push_of_some _ (keep2 _ _ jE),restd⟩
 .obtain ⟨h',g',d',tk',os'⟩:=s';have eg:g'=s.gens:=hm.gens;have ed:d'=s.drawn:=hm.drawn;have eo:os'=s.os:=hm.os;subst eg ed eo;refine ⟨rfl,h h' tk' (fun b o hb=>hm.heap b o ?_ (Heap.get?_push_of_some _ (keep2 _ _ (Heap.get?_push_of_some _ hb)))) hD'⟩;have v6:b<s.heap.objs.size:=Heap.lt_size hb;simp only [F9,eD,or_false,not_or];exact ⟨J4 v6,J4 (y3 v6 bM)⟩
end
noncomputable def aqL (K:PySem.W.Frag) (calm:Bool):List V->Hp->VK->Prop:=fun xs H Q=>calm=true/\∃ (p:Addr) (ts:List Addr) (kxs:List (A7×V)),xs=[.ref p]/\D6 K H p (ts.map V.ref)/\Paired (fun t kx=>D1 K H t [kV kx.1,kx.2]) ts kxs/\∀ d,H d=none->Q (.ref d) (A0 H d (.dK (g6 [] kxs)))
theorem ahi(I:Inv X pins Y H s):∀ {ts:List Addr} {kxs:List (A7×V)},Paired (fun t kx=>D1 X.K H t [kV kx.1,kx.2]) ts kxs->
  ∃ ws:List (Value×Value),Paired (fun t w=>IsTup s.heap t #[w.1,w.2]) ts ws/\Paired (fun (kx:A7×V) (w:Value×Value)=>keyIs kx.1 w.1=true/\RelV kx.2 w.2) kxs ws
 | _,_,.nil=>⟨[],.nil,.nil⟩
 | _,_,.cons h t=>by
  obtain ⟨ws,h1,h2⟩:=ahi I t;obtain ⟨its,r,ht,_⟩:=I.tuple h;obtain ⟨u1,u2,rfl,r1,r2⟩:=vals2 r;exact ⟨(u1,u2)::ws,.cons ht h1,.cons ⟨kV_is (P:=X.prog) (w:=X.w) r1,r2⟩ h2⟩
theorem ajf:∀ {ts:List Addr} {us:List Value},Vals (ts.map V.ref) us->us=ts.map Value.ref
 | [],_,.nil=>rfl
 | t::ts,_::_,.cons h r=>by
  rw [J3,<- ajf r];cases h;rfl
theorem anI(hK:X.K=K:=by rfl)(hc:X.calm=calm:=by rfl):QCall X (.type "dict") (aqL K calm):=⟨by
 subst hK;intro pins s Y H xs us Q I r h;obtain ⟨v2,p,ts,kxs,rfl,hp,hP,q⟩:=h;obtain ⟨u,rfl,rx⟩:=vals1 r
 cases rx
 obtain ⟨its,r',pl,hz⟩:=I.list hp;have lV:=ajf r';obtain ⟨ws,h1,h2⟩:=ahi I hP;have jG:ts.length=ws.length:=Paired.length h1;have lO:kxs.length=ws.length:=Paired.length h2;rw [A3] at hz;have hsz:its.toArray.size=ts.length:=by rw [K3,lV,A3]
 have wH:∀ i,i<=ts.length->KV (g6 [] (kxs.take i)) (u3 (fun i=>(kxs.getD i (Sum.inl 0,.non)).1) (fun i=>(ws.getD i (.none,.none)).2) i):=by
  intro i
  induction i with
  | zero=>intro _;exact .nil
  | succ i ih=>
   intro hi;have wI:i<kxs.length:=by lia
   obtain ⟨w',hw,hr⟩:=Paired.at h2 (E9 wI);have e1:g6 [] (kxs.take (i+1))=putK (g6 [] (kxs.take i)) kxs[i].1 kxs[i].2:=by
    unfold g6;rw [p7,E9 wI,Option.toList_some,cG];rfl
   rw [e1];show KV _ (stored _ (kxs.getD i (Sum.inl 0,.non)).1 (ws.getD i (.none,.none)).2);have e2:(kxs.getD i (Sum.inl 0,.non))=kxs[i]:=by rw [o9,E9 wI];rfl
   have e3:(ws.getD i (.none,.none))=w':=by rw [o9,hw];rfl
   rw [e2,e3];exact (ih 'b').put _ hr.2
 refine adM (knd:=M4 X.prog X.w) pl (I.ok.hd (hc.trans v2)) (fun i=>ts.getD i 0) (fun i=>(ws.getD i (.none,.none)).1) (fun i=>(ws.getD i (.none,.none)).2) (fun i=>(kxs.getD i (Sum.inl 0,.non)).1) (fun i v hv=>?_) (fun i hi=>?_) (fun i hi=>?_) 'b' fun h' tk keep hD=>?_
 .rw [<- eI,lV,P1] at hv;rw [o9];cases e:ts[i]? with
  | none=>rw [e] at hv;cases hv
  | some t=>rw [e] at hv;cases hv;rfl
 .obtain ⟨w',hw,hr⟩:=Paired.at h2 (E9 (show i<kxs.length by lia));have e2:(kxs.getD i (Sum.inl 0,.non))=kxs[i]'(by lia):=by rw [o9,E9 (show i<kxs.length by lia)];rfl
  have e3:(ws.getD i (.none,.none))=w':=by rw [o9,hw];rfl
  rw [e2,e3];exact hr.1
 .have bO:i<ts.length:=by lia
  obtain ⟨w',hw,hr⟩:=Paired.at h1 (E9 bO);have e3:(ws.getD i (.none,.none))=w':=by rw [o9,hw];rfl
  have e4:ts.getD i 0=ts[i]:=by rw [o9,E9 bO];rfl
  rw [e3,e4];exact hr
 .have hD2:KV (g6 [] kxs) (u3 (fun i=>(kxs.getD i (Sum.inl 0,.non)).1) (fun i=>(ws.getD i (.none,.none)).2) its.toArray.size):=by
   have:=wH ts.length (C3 _)
   rw [j1 'b'] at this;rw [hsz];exact this
  have A6:=zY kxs [];rw [T8] at A6;exact ⟨.ref s.heap.objs.size,_,I.laid (t':=tk) keep (C3 _) (nZ 'b' (beq_eq_false_iff_ne.mpr (Ne.symm (J4 I.big))) hD2 hD),rfl,q _ (I.hok.fresh (C3 _))⟩⟩
section
variable {X:Cx} {pins:List (Addr×Obj)} {Y:St} {H:Hp} {s:Shared} {h':Heap}
theorem Inv.turnNew{ch:List Addr}{o:HO}(I:Inv X pins Y H s)(hf:∀ b∈ch,FpOk X pins H b)(k:∀ b u,b∉ch->s.heap.get? b=some u->h'.get? b=some u)(hT:s.heap.objs.size<=T)(new:ObjOk X.prog X.w (A0 H T o) h' T o):Inv X pins Y (A0 H T o) { s with heap:=h',toks:=t' }:=by
 have hn:H T=none:=I.hok.fresh hT;have nch:∀ b u,H b=some u->b∉ch:=fun b u e z=>by rw [(hf b z).1] at e;cases e
 have neT:∀ b u,s.heap.get? b=some u->b≠T:=fun b u e=>J4 (Q6 (Heap.lt_size e) hT)
 refine I.step (g':=s.gens) (d':=s.drawn) (ch:=ch) (fun b hb=>?_) (fun b u _ _ hc e _=>k b u hc e) (fun b u _ _ hc e _=>⟨u.slots,k b u hc e⟩) (fun b u _ e n=>by rw [A4 (neT b u e)];exact n)
  (fun b u hc e=>⟨u,k b u hc e⟩) (fun b xs e=>C2 e hn) (fun b ob u e=>C2 e hn) (fun b ps e=>⟨#[],by rw [C2 e hn];simp⟩) (fun m hm=>?_) (fun b u e=>?_) I.bare
 .obtain ⟨f0,f1,f2,f3,f4,f5⟩:=hf b hb;exact ⟨f3,f1,f4,f5⟩
 .obtain ⟨ob,es,ep,ho,r⟩:=hm;exact ⟨ob,es,ep,k _ ob (fun z=>(hf _ z).2.1 rfl) ho,r⟩
 .by_cases hb:b=T
  .subst hb;rw [A1] at e;cases e;exact new
  .rw [A4 hb] at e;refine (I.hok b u e).stay (fun c v hc q=>k c v ?_ q) (fun c q=>C2 q hn) fun c xs q=>C2 q hn
   rcases hc with z | z
   .rw [z];exact nch b u e
   .exact nch c _ z
end
theorem n5{a b:Nat}(h:a<b\/b<a):(show Addr from a)≠(show Addr from b):=fun e=>by
 have e:a=b:=e;lia
noncomputable def oO (l1 l2 : Addr) : It :=
  ⟨fun i H => ∃ xs ys x y, H l1 = some (.lst xs) /\ H l2 = some (.lst ys) /\ xs[i]? = some x /\ ys[i]? = some y,
   fun i H v H' => ∃ t xs ys x y, H l1 = some (.lst xs) /\ H l2 = some (.lst ys) /\ xs[i]? = some x /\ ys[i]? = some y /\ H t = none /\ v = .ref t /\ H' = A0 H t (.tup [x, y]),
   fun i H => ∃ xs ys, H l1 = some (.lst xs) /\ H l2 = some (.lst ys) /\ (xs.length <= i \/ ys.length <= i)⟩
theorem ak8{P:Program}{w:World}{pos:Pos}(z TI TO i1 i2 l1 l2:Addr)(a1:TI≠z)(a2:TO≠z)(a3:i1≠z)(a4:i2≠z)(a5:TI≠TO)(a6:TI≠i1)(a7:TI≠i2)(a8:TO≠i1)(a9:TO≠i2)(a10:i1≠i2) :
  Turn P w K (.Tuple elts x1 pos) (oO l1 l2) [z,TO,i1,i2,TI] z (fun i h=>IsZip h z TI TO .none/\IsPair h TI (.ref i1) (.ref i2)/\(∃ a b,IsPair h TO a b)/\h.IsListIter i1 l1 i/\h.IsListIter i2 l2 i) where
 mem:=by simp
 obj:=fun i h ⟨hz,hTI,⟨a,b,hTO⟩,h1,h2⟩ c hc=>by
  have e:c=z\/c=TO\/c=i1\/c=i2\/c=TI:=by simpa using hc
  rcases e with rfl | rfl | rfl | rfl | rfl
  .exact ⟨_,hz,fun v q=>by cases q⟩
  .exact ⟨_,hTO,fun v q=>by cases q⟩
  .obtain ⟨o,e,c,d⟩:=h1;exact ⟨o,e,fun v z=>by rw [d] at z;cases z⟩
  .obtain ⟨o,e,c,d⟩:=h2;exact ⟨o,e,fun v z=>by rw [d] at z;cases z⟩
  .exact ⟨_,hTI,fun v q=>by cases q⟩
 keep:=fun i h h' ⟨hz,hTI,⟨a,b,hTO⟩,h1,h2⟩ k=>⟨k z 'c' _ hz,k TI 'c' _ hTI,⟨a,b,k TO 'c' _ hTO⟩,h1.at fun o e=>k i1 'c' o e,h2.at fun o e=>k i2 'c' o e⟩
 item:=by
  intro X hP hw hK hc i pins s Y H E I hf ⟨hz,hTI,⟨a,b,hTO⟩,h1,h2⟩ hg;subst hP hw hK;obtain ⟨xs,ys,x,y,e1,e2,hx,hy⟩:=hg;obtain ⟨its1,b9,p1,_⟩:=I.list (D6.of (K:=X.K) e1);obtain ⟨its2,qB,p2,_⟩:=I.list (D6.of (K:=X.K) e2);obtain ⟨u1,C9,r1⟩:=b9.get hx;obtain ⟨u2,hu2,r2⟩:=qB.get hy;have nl:∀ c∈[z,TO,i1,i2,TI],l1≠c/\l2≠c:=fun c hc=>⟨fun q=>(by rw [q,(hf c hc).1] at e1;cases e1),fun q=>(by rw [q,(hf c hc).1] at e2;cases e2)⟩
  have D:ZipApart z TI TO i1 i2 l1 l2:=⟨a1,a2,a3,a4,a5,a6,a7,a8,a9,a10,(nl z 'c').1,(nl TO 'c').1,(nl i1 'c').1,(nl i2 'c').1,(nl z 'c').2,(nl TO 'c').2,(nl i1 'c').2,(nl i2 'c').2⟩
  refine wpAny_pyNext_zip_item D hz hTI hTO h1 h2 p1.isList p2.isList (x:=u1) (y:=u2) (by simpa using C9) (by simpa using hu2) fun h' b1 b2 b3 b4 b5 b6 b7=>⟨_,rfl,wpAny_letOwnedTupleGo_zip b1 fun h2' c1 c2=>?_⟩
  have dN:z<s.heap.objs.size:=Heap.lt_size hz;have up:∀ c o,c≠z->h'.get? c=some o->h2'.get? c=some o:=fun c o hc e=>(c2.2 c hc).trans e
  have nT:∀ c∈[z,TO,i1,i2,TI],c≠s.heap.objs.size:=fun c hc=>by
   have e:c=z\/c=TO\/c=i1\/c=i2\/c=TI:=by simpa using hc
   refine J4 ?_
   rcases e with rfl | rfl | rfl | rfl | rfl
   .exact Heap.lt_size hz
   .exact Heap.lt_size hTO
   .obtain ⟨o,e,_⟩:=h1;exact Heap.lt_size e
   .obtain ⟨o,e,_⟩:=h2;exact Heap.lt_size e
   .exact Heap.lt_size hTI
  have hT:=up _ _ (q9 dN) b5;refine ⟨.ref s.heap.objs.size,A0 H s.heap.objs.size (.tup [x,y]),I.turnNew (t':=s.toks) (ch:=[z,TO,i1,i2,TI]) hf (fun c u hc e=>?_) (C3 _) ⟨by show 2<=sizeLine;decide,[u1,u2],.cons r1 (.cons r2 .nil),?_⟩,rfl,⟨_,xs,ys,x,y,e1,e2,hx,hy,I.fresh,rfl,rfl⟩,
   ⟨c1,up _ _ a1 (b7 _ _ a1 a5 a6 a7 hTI),⟨_,_,up _ _ a2 b2⟩,b3.at fun o e=>up _ o a3 e,b4.at fun o e=>up _ o a4 e⟩,fun c hc=>by rw [A4 (nT c hc)];exact (hf c hc).1⟩
  .have q:c≠z/\c≠TO/\c≠i1/\c≠i2:=by
    refine ⟨fun q=>hc (by simp [q]),fun q=>hc (by simp [q]),fun q=>hc (by simp [q]),fun q=>hc (by simp [q])⟩
   exact up c u q.1 (b7 c u q.1 q.2.1 q.2.2.1 q.2.2.2 e)
  .exact ⟨_,hT,rfl,_,rfl⟩
 done:=by
  intro X hP hw hK hc i pins s Y H E I hf ⟨hz,hTI,⟨a,b,hTO⟩,h1,h2⟩ hg;subst hP hw hK;obtain ⟨xs,ys,e1,e2,fP⟩:=hg;obtain ⟨its1,b9,p1,_⟩:=I.list (D6.of (K:=X.K) e1);obtain ⟨its2,qB,p2,_⟩:=I.list (D6.of (K:=X.K) e2);have q1:=b9.length;have q2:=qB.length;have nl:∀ c∈[z,TO,i1,i2,TI],l1≠c/\l2≠c:=fun c hc=>⟨fun q=>(by rw [q,(hf c hc).1] at e1;cases e1),fun q=>(by rw [q,(hf c hc).1] at e2;cases e2)⟩
  have D:ZipApart z TI TO i1 i2 l1 l2:=⟨a1,a2,a3,a4,a5,a6,a7,a8,a9,a10,(nl z 'c').1,(nl TO 'c').1,(nl i1 'c').1,(nl i2 'c').1,(nl z 'c').2,(nl TO 'c').2,(nl i1 'c').2,(nl i2 'c').2⟩
  refine wpAny_pyNext_zip_end (I.ok.hd hc) D hz hTI hTO h1 h2 p1.isList p2.isList (by rcases fP with q | q <;> simp <;> lia) fun h' k=>⟨rfl,?_⟩
  refine I.step (h':=h') (t':=s.toks) (g':=s.gens) (d':=s.drawn) (ch:=[z,TO,i1,i2,TI]) (fun b hb=>?_) (fun b u _ _ hc e _=>?_) (fun b u _ _ hc e _=>⟨u.slots,?_⟩) (fun b u _ e n=>n)
   (fun b u hc e=>⟨u,?_⟩) (fun b xs e=>e) (fun b ob u e=>e) (fun b ps e=>⟨#[],by rw [e];simp⟩) (fun m hm=>?_) (fun b u e=>?_) I.bare
  .obtain ⟨f0,f1,f2,f3,f4,f5⟩:=hf b hb;exact ⟨f3,f1,f4,f5⟩
  .exact k b u (fun q=>hc (by simp [q])) (fun q=>hc (by simp [q])) (fun q=>hc (by simp [q])) (fun q=>hc (by simp [q])) e
  .exact k b u (fun q=>hc (by simp [q])) (fun q=>hc (by simp [q])) (fun q=>hc (by simp [q])) (fun q=>hc (by simp [q])) e
  .exact k b u (fun q=>hc (by simp [q])) (fun q=>hc (by simp [q])) (fun q=>hc (by simp [q])) (fun q=>hc (by simp [q])) e
  .obtain ⟨ob,es,ep,ho,r⟩:=hm;have nL:∀ c∈[z,TO,i1,i2,TI],X.env.locals≠c:=fun c hc q=>(hf c hc).2.1 q.symm
   exact ⟨ob,es,ep,k _ ob (nL z 'c') (nL TO 'c') (nL i1 'c') (nL i2 'c') ho,r⟩
  .have nch:∀ b u,H b=some u->∀ c∈[z,TO,i1,i2,TI],b≠c:=fun b u e c hc q=>by rw [q,(hf c hc).1] at e;cases e
   refine (I.hok b u e).stay (fun c v hc q=>?_) (fun c q=>q) fun c xs q=>q
   have:∀ d∈[z,TO,i1,i2,TI],c≠d:=by
    rcases hc with z | z
    .rw [z];exact nch b u e
    .exact nch c _ z
   exact k c v (this z 'c') (this TO 'c') (this i1 'c') (this i2 'c') q
 self:=fun _ _ _ _ _ st h=>wpAny_pyIter_zip st.1 h
section
variable {X:Cx}
noncomputable def iZip (ta:TA):TI:=fun Y H R=>ta Y H fun vs H1=>∃ (l1 l2:Addr) (xs ys:List V),vs=[.ref l1,.ref l2]/\H1 l1=some (.lst xs)/\H1 l2=some (.lst ys)/\R (oO l1 l2) H1
theorem aqM{a b:Expr}{p pos:Pos}(hg:Gl X "zip")(hm:X.mg "zip"=none)(ha:PA X [a,b] ta)(h1:L6 a=false:=by rfl)(h2:L6 b=false:=by rfl) :
  PI X (.Tuple elts x1 tpos) (.Call (.Name "zip" p) [a,b] [] pos) (iZip ta):=by
 intro pins s Y H R I h;refine Call_ (cQ I hg hm boot_zip (PyProof.Rows.callWith_type1 (B3 (ha pos pins s Y H _ I h) fun us s1 ⟨vs,H1,I1,r1,q1⟩=>?_) (O7 h1) (by rw [O7 h2];rfl)));obtain ⟨l1,l2,xs,ys,rfl,e1,e2,q⟩:=q1;obtain ⟨u1,u2,rfl,lW,wJ⟩:=vals2 r1
 cases lW
 cases wJ
 obtain ⟨its1,b9,p1,_⟩:=I1.list (D6.of (K:=X.K) e1);obtain ⟨its2,qB,p2,_⟩:=I1.list (D6.of (K:=X.K) e2);refine call_zip_2 p1.isList p2.isList fun h' z1 z2 z3 z4 z5 z6 z7=>wpAny_pyIter_zip z1 ?_
 refine ⟨s1.heap.objs.size+4,[s1.heap.objs.size+4,s1.heap.objs.size+3,s1.heap.objs.size,s1.heap.objs.size+1,s1.heap.objs.size+2],_,_,H1,rfl,I1.kept (t':=s1.toks) z7,
  ak8 _ (s1.heap.objs.size+2) (s1.heap.objs.size+3) s1.heap.objs.size (s1.heap.objs.size+1) l1 l2 (n5 'b') (n5 'b') (n5 'b') (n5 'b') (n5 'b') (n5 'b') (n5 'b') (n5 'b') (n5 'b') (n5 'b'),⟨z1,z2,⟨_,_,z3⟩,z4,z5⟩,fun b hb=>?_,q⟩
 have P0:s1.heap.objs.size<=b:=by
  have e:b=s1.heap.objs.size+4\/b=s1.heap.objs.size+3\/b=s1.heap.objs.size\/b=s1.heap.objs.size+1\/b=s1.heap.objs.size+2:=by simpa using hb
  rcases e with rfl | rfl | rfl | rfl | rfl
  .exact cM _ _
  .exact cM _ _
  .exact C3 _
  .exact cM _ _
  .exact cM _ _
 exact I1.fpOk P0 (I1.hok.fresh P0)
theorem aqN{a b:Expr}{p pos:Pos}(hm:X.mg "zip"=none)(ha:QA X [a,b] ta)(hg:Gl X "zip":=by rfl)(h1:L6 a=false:=by rfl)(h2:L6 b=false:=by rfl) :
  QI X (.Tuple elts x1 tpos) (.Call (.Name "zip" p) [a,b] [] pos) (iZip ta):=⟨aqM hg hm ha.out h1 h2⟩
end
theorem anJ{R:It->Hp->Prop} : iZip ta Y H R=ta Y H fun vs H1=>∃ (l1 l2:Addr) (xs ys:List V),vs=[.ref l1,.ref l2]/\H1 l1=some (.lst xs)/\H1 l2=some (.lst ys)/\R (oO l1 l2) H1:=rfl
theorem forZ{l1 l2:Addr}(Pv:Nat->St->Hp->Prop)(h0:Pv 0 Y H)(hl:∀ i Y H,Pv i Y H->H l1=some (.lst xs)/\H l2=some (.lst ys))(hs:∀ i x y t Y H,xs[i]?=some x->ys[i]?=some y->Pv i Y H->H t=none->g (.ref t) Y (A0 H t (.tup [x,y])) fun σ2 H2=>tb { D with nx:=Pv (i+1),ct:=Pv (i+1),bk:=D.nx } σ2 H2)(hd:∀ Y H,Pv (min xs.length ys.length) Y H->D.nx Y H):ForIt (oO l1 l2) g tb D Y H:=by
 refine ⟨fun i m Y H=>m=min xs.length ys.length-i/\i<=min xs.length ys.length/\Pv i Y H,⟨min xs.length ys.length,by simp,J0 _,h0⟩,?_⟩;rintro i m Y H ⟨rfl,hi,p⟩;obtain ⟨e1,e2⟩:=hl i Y H p
 by_cases C7:i<min xs.length ys.length
 .refine .inr ⟨⟨xs,ys,xs[i]'(by lia),ys[i]'(by lia),e1,e2,by simp,by simp⟩,Pv (i+1),fun σ' H' p'=>⟨_,by lia,rfl,C7,p'⟩,fun v H' y=>?_⟩;obtain ⟨t,xs',ys',x,y',f1,f2,hx,hy,ht,rfl,rfl⟩:=y;rw [e1] at f1;cases f1;rw [e2] at f2;cases f2;exact hs i x y' t Y H hx hy p ht
 .have e:i=min xs.length ys.length:=by lia
  subst e;exact .inl ⟨⟨xs,ys,e1,e2,by lia⟩,hd Y H p⟩
noncomputable def Itr3 (lo st:Int) (n:Nat):It:=⟨fun i _=>i<n,fun i H x H'=>H'=H/\x=.int (lo+i*st),fun i _=>n<=i⟩
theorem aex:∀ {vs:List Value} {zs:List Str},StrsAre vs zs->∀ {j:Nat} {z:Str},zs[j]?=some z->∃ t,vs[j]?=some (.str z t)
 | _,_,.nil,_,_,h=>by simp at h
 | _,_,.cons _ _ _,0,_,h=>by simp at h;subst h;exact ⟨_,rfl⟩
 | _,_,.cons _ _ r,j+1,z,h=>by
  obtain ⟨t,q⟩:=aex r (j:=j) (z:=z) (by simpa using h);exact ⟨t,by simpa using q⟩
theorem afO{α β:Type}(f:α->β):∀ (l:List α) (i:Nat),(l.eraseIdx i).map f=(l.map f).eraseIdx i
 | [],_=>rfl
 | _::_,0=>rfl
 | x::l,i+1=>by
  show f x::(l.eraseIdx i).map f=f x::(l.map f).eraseIdx i;rw [afO f l i]
noncomputable def sT (td ty tx:TE):TE:=fun Y H Q=>td Y H fun x H1=>∃ a,x=.ref a/\bC H1 a/\ty Y H1 fun y H2=>tx Y H2 fun z H3=>∃ kvs k,H3 a=some (.dK kvs)/\kvs.length<sizeLine/\y=kV k/\
 (∀ v,valV kvs k=some v->Q v H3)/\(valV kvs k=none->Q z (A0 H3 a (.dK (putK kvs k z))))
section
variable {X:Cx} {o e f:Expr} {apos cpos:Pos} {td ty tx:TE} {pins:List (Addr×Obj)} {Y:St} {H:Hp} {s:Shared} {a:Addr} {A:Around} {E:Value->Shared->Prop}
theorem aqO{k:A7}{z:V}{r:Value}{Q:Value->Shared->Prop}(I:Inv X pins Y H s)(e:H a=some (.dK kvs))(hl:kvs.length<sizeLine)(ry:RelV (kV k) u)(rz:RelV z r)(h1:∀ v w' s',valV kvs k=some v->Inv X pins Y H s'->RelV v w'->Q w' s')(h2:∀ s',valV kvs k=none->Inv X pins Y (A0 H a (.dK (putK kvs k z))) s'->Q r s') :
  wpAny 'a' A (call (.builtin "dict.setdefault") [.ref a,u,r]) Q E s:=by
 obtain ⟨hz,hd,vs,rel,dd⟩:=dk_of I.hok e;have A6:=rel.length;refine call_meetsIn PySem.F.slot_dict_setdefault dd.typeIs PySem.F.entry_dict_setdefault (PySem.F.args_dict_setdefault_3 _ _ _) (kt_meets_setdefault (M4 X.prog X.w) a (kV_is ry) hd r) ⟨vs,dd,by lia,fun v hv=>?_,fun hn h' hm hs=>?_⟩
 .have:=rel.val k
  rw [hv] at this;cases fQ:valV kvs k with
  | none=>rw [fQ] at this;exact this.elim
  | some x=>rw [fQ] at this;exact h1 x v _ fQ (I.tok _) this
 .have:=rel.val k
  rw [hn] at this;cases fQ:valV kvs k with
  | some x=>rw [fQ] at this;exact this.elim
  | none=>
   have V5:(putK kvs k z).length<=sizeLine:=by rw [akC z fQ,D4,eA];lia
   obtain ⟨ob,_,_,ho,_⟩:=id hm;exact h2 _ fQ (nY (t':=s.toks+1) I (by rw [e];exact trivial) hs ⟨ob,ho⟩ (nZ V5 hd (rel.put k rz) hm))
theorem ak9(ho:PE X o td)(he:PE X e ty)(hf:PE X f tx)(m:M2 X o "setdefault" apos e f cpos):PE X (.Call (.Attribute o "setdefault" apos) [e,f] [] cpos) (sT td ty tx):=by
 sleep 1;refine wpAny_Call_method m.base m.few m.line PySem.F.plainAttrs_dict PySem.F.slot_dict_setdefault PySem.F.type_dict_setdefault (B3 (ho pins s Y H _ I h) fun u s1 ⟨x,H1,I1,rx,a,ex,d,q1⟩=>?_);subst ex;obtain rfl:u=Value.ref a:=rx;obtain ⟨t1,t2,_⟩:=rW I1 d;refine ⟨t1,t2,?_⟩;rw [m.trees];refine Calls.callWith_builtin rfl (Calls.evalArgs_plain (Calls.spliced_cons (B3 (he pins s1 Y H1 _ I1 q1) fun iv s2 ⟨y,H2,I2,ry,q2⟩=>
  Calls.spliced_cons (B3 (hf pins s2 Y H2 _ I2 q2) fun fv s3 ⟨z,H3,I3,rz,kvs,k,e3,hl,ey,q3,q4⟩=>Calls.spliced_nil ?_))))
 subst ey;exact aqO I3 e3 hl ry rz (fun v w' s4 hv I4 rw'=>⟨v,H3,I4,rw',q3 v hv⟩) fun s4 hn I4=>⟨z,_,I4,rz,q4 hn⟩
theorem ala(ho:QE X o td)(he:QE X e ty)(hf:QE X f tx)(h1:L6 e=false:=by rfl)(h2:L6 f=false:=by rfl)(D9:attributeBase o "setdefault" X.env (eval o X.env)=eval o X.env:=by rfl)(E7:(apos.endLine==cpos.line)=true:=by rfl):QE X (.Call (.Attribute o "setdefault" apos) [e,f] [] cpos) (sT td ty tx):=
 ⟨ak9 ho.out he.out hf.out ⟨D9,by rw [O7 h1,O7 h2];rfl,E7,by rw [O7 h1,O7 h2];rfl⟩⟩
theorem alb:sT td ty tx Y H Q=td Y H fun x H1=>∃ a,x=.ref a/\bC H1 a/\ty Y H1 fun y H2=>tx Y H2 fun z H3=>∃ kvs k,H3 a=some (.dK kvs)/\kvs.length<sizeLine/\y=kV k/\
 (∀ v,valV kvs k=some v->Q v H3)/\(valV kvs k=none->Q z (A0 H3 a (.dK (putK kvs k z)))):=rfl
end
section
variable {X:Cx} {tg:Expr}
noncomputable def rsz (i j k:Int):Nat:=(if i<j then (j-i-1) / k+1 else 0).toNat
noncomputable def iRng3 (ta:TA):TI:=fun Y H R=>ta Y H fun vs H1=>∃ i j k:Int,vs=[.int i,.int j,.int k]/\(-(2 ^ 60)<=i/\i<2 ^ 60/\-(2 ^ 60)<=j/\j<2 ^ 60/\0<k/\k<1000000)/\R (Itr3 i k (rsz i j k)) H1
end
theorem alc{R:It->Hp->Prop} : iRng3 ta Y H R=ta Y H fun vs H1=>∃ i j k:Int,vs=[.int i,.int j,.int k]/\(-(2 ^ 60)<=i/\i<2 ^ 60/\-(2 ^ 60)<=j/\j<2 ^ 60/\0<k/\k<1000000)/\R (Itr3 i k (rsz i j k)) H1:=rfl
section
variable {X:Cx} {pins:List (Addr×Obj)} {Y:St} {H:Hp} {s:Shared} {a:Addr}
theorem Inv.swap{u u':HO}(I:Inv X pins Y H s)(e:H a=some u)(n1:∀ xs,u≠.tup xs)(n2:∀ x,u≠.own x)(n3:∀ ps,u≠.tbl ps)(n4:∀ o v,X.H₀ a≠some (.frz o v))(new:ObjOk X.prog X.w H s.heap a u'):Inv X pins Y (A0 H a u') s:=by
 have ne:∀ b,H b=none->b≠a:=fun b h q=>by rw [q,e] at h;cases h
 have own:∀ c x,H c=some (.own x)->A0 H a u' c=some (.own x):=fun c x q=>by
  rw [A4 (fun z=>by rw [z,e] at q;exact n2 x (Option.some.inj q))];exact q
 have tup:∀ c xs,H c=some (.tup xs)->A0 H a u' c=some (.tup xs):=fun c x q=>by
  rw [A4 (fun z=>by rw [z,e] at q;exact n1 x (Option.some.inj q))];exact q
 refine ⟨I.ok,I.os,I.bare,⟨I.base.keep,I.base.slot,fun b o h1 h2 h3=>?_,I.base.there,fun b xs h=>tup b xs (I.base.tups b xs h),fun b o v h=>?_,fun b ps h=>?_⟩,I.loc,I.cell,?_,fun x c h=>?_,fun p hp=>?_,fun b v h=>?_,I.len⟩
 .have:=I.base.free b o h1 h2 h3
  rw [A4 (ne b this)];exact this
 .rw [A4 (fun z=>n4 o v (by rw [<- z];exact h))];exact I.base.frzs b o v h
 .obtain ⟨m,q⟩:=I.base.tbls b ps h;exact ⟨m,by rw [A4 (fun z=>by rw [z,e] at q;exact n3 _ (Option.some.inj q))];exact q⟩
 .rw [A4 (ne _ I.free)];exact I.free
 .rw [A4 (ne _ (I.freeC x c h))];exact I.freeC x c h
 .obtain ⟨h1,h2,h3⟩:=I.pin p hp;exact ⟨h1,by rw [A4 (ne _ h2)];exact h2,h3⟩
 .by_cases hb:b=a
  .subst hb;rw [A1] at h;cases h;exact new.stay (fun _ _ _ q=>q) (fun c q=>own c _ q) fun c xs q=>tup c xs q
  .rw [A4 hb] at h;exact (I.hok b v h).stay (fun _ _ _ q=>q) (fun c q=>own c _ q) fun c xs q=>tup c xs q
end
noncomputable def kT (a:Addr) (o:Obj) (kvs:List (A7×V)):It:=
 ⟨fun i H=>H a=some (.frz o (.dK kvs))/\i<kvs.length,fun i H x H'=>H'=H/\∃ k v,kvs[i]?=some (k,v)/\x=kV k,fun i H=>H a=some (.frz o (.dK kvs))/\kvs.length<=i⟩
theorem ajh{P:Program}{w:World}(a it:Addr)(o:Obj)(kvs:List (A7×V))(vs:List (A7×Value))(ep:Nat)(N0:∀ h:Heap,h.get? a=some o->h.DictAt (M4 P w) a vs ep)(rel:KV kvs vs):Turn P w K tg (kT a o kvs) [it] it (fun i h=>h.IsKeyIter it a i vs.length ep) where
 mem:=by simp
 obj:=fun i h st b hb=>by
  have e:b=it:=by simpa using hb
  subst e;obtain ⟨o,e,c,d⟩:=st;exact ⟨o,e,fun v z=>by rw [d] at z;cases z⟩
 keep:=fun i h h' st k=>st.at fun o e=>k it 'c' o e
 item:=by
  intro X hP hw hK hc i pins s Y H E I hf st hg;subst hP hw hK;obtain ⟨f0,f1,f2,f3,f4,f5⟩:=hf it 'c';obtain ⟨bP,lX⟩:=hg;have hd:=N0 s.heap (I.hok a _ bP).1;have hvl:i<vs.length:=by rw [<- rel.length];exact lX
  refine wpAny_pyNext_dict_item st hd (k:=vs[i].1) (v:=vs[i].2) (by rw [E9 hvl]) fun key h' P5 V9 c9=>?_
  have I1:Inv X pins Y H { s with heap:=h' }:=I.turned (t':=s.toks) (fun b o hb e=>(c9.2 b hb).trans e) f0 f1 f3 f4 f5;obtain ⟨oi,e,c,d⟩:=id V9;have hk:kvs[i].1=vs[i].1:=by
   have:=congrArg (·[i]?) rel.keys
   simpa [lX,hvl] using this
  have rk:RelV (kV kvs[i].1) key:=by
   rw [hk];have P5:keyIs vs[i].1 key=true:=P5;generalize vs[i].1=kk at P5
   rcases f9 P5 with ⟨j,t,rfl,rfl⟩ | ⟨x,t,rfl,rfl⟩
   .exact ⟨t,rfl⟩
   .exact ⟨t,rfl⟩
  exact ⟨key,rfl,go_of (s:={ s with heap:=h' }) e c d 'g' ⟨kV kvs[i].1,H,I1,rk,⟨rfl,kvs[i].1,kvs[i].2,by rw [E9 lX],rfl⟩,V9,fun b hb=>(hf b hb).1⟩⟩
 done:=by
  intro X hP hw hK hc i pins s Y H E I hf st hg;subst hP hw hK;obtain ⟨f0,f1,f2,f3,f4,f5⟩:=hf it 'c';obtain ⟨bP,lX⟩:=hg;have hd:=N0 s.heap (I.hok a _ bP).1;exact wpAny_pyNext_dict_end (I.ok.hd hc) st hd (by rw [List.getElem?_eq_none_iff,<- rel.length];exact lX) fun h' eb=>⟨rfl,I.turned (t':=s.toks) (fun b o hb e=>eb b o hb e) f0 f1 f3 f4 f5⟩
 self:=fun _ _ _ _ _ st h=>wpAny_pyIter_keyiter st h
noncomputable def Ends.thaw (D:Ends) (a:Addr) (kvs:List (A7×V)):Ends where
 nx:=fun Y H=>(∃ o,H a=some (.frz o (.dK kvs)))/\D.nx Y (A0 H a (.dK kvs))
 rt:=fun v H=>(∃ o,H a=some (.frz o (.dK kvs)))/\D.rt v (A0 H a (.dK kvs))
noncomputable def tForD (tl:TE) (g:TG) (tb:TS):TS:=fun D Y H=>tl Y H fun x H1=>∃ a kvs,x=.ref a/\H1 a=some (.dK kvs)/\∀ o,ForIt (kT a o kvs) g tb (D.thaw a kvs) Y (A0 H1 a (.frz o (.dK kvs)))
theorem anK{l:Expr}{body:List Stmt}{pos:Pos}(hp:PassesOwn 'a' X.A X.env X.xe)(hc:X.calm=true)(hl:PE X l tl)(hg:PG X tg g)(hb:W5 X body tb)(hs:∀ x,foldedSetIterable l X.env x=pure x):PS X (.For tg l body [] pos) (tForD tl g tb):=by
 intro pins s Y H D I h;refine wpAny_For (B3 (hl pins s Y H _ I h) fun v s1 ⟨x,H1,I1,r1,q1⟩=>?_) hs;obtain ⟨a,kvs,rfl,e,q⟩:=q1
 cases r1
 obtain ⟨z,hd,vs,rel,dd⟩:=dk_of I1.hok e;obtain ⟨ep,N0⟩:=dd.dictAt;obtain ⟨o,es,ho,Z9⟩:=id N0;refine wpAny_pyIter_dict hd N0 ?_;have NF:∀ o' v',X.H₀ a≠some (.frz o' v'):=fun o' v' z=>by
  have:=I1.base.frzs _ _ _ z
  rw [e] at this;cases this
 have I1':Inv X pins Y H1 { s1 with heap:=s1.heap.push { cls:=.type "dict_keyiterator",data:=.fields #[.ref a,.int 0 0,.int vs.length 0,.int ep 0] } }:=I1.kept (t':=s1.toks) fun b u e=>Heap.get?_push_of_some _ e
 have I2:=I1'.swap (u':=.frz o (.dK kvs)) e (fun _ q=>by cases q) (fun _ q=>by cases q) (fun _ q=>by cases q) NF ⟨Heap.get?_push_of_some _ ho,I1'.hok a _ e⟩;have thaw:∀ {σ':St} {H':Hp} {s':Shared},Inv X pins σ' H' s'->(∃ o,H' a=some (.frz o (.dK kvs)))->Inv X pins σ' (A0 H' a (.dK kvs)) s':=fun {σ' H' s'} I' ⟨o',e'⟩=>
  I'.swap e' (fun _ q=>by cases q) (fun _ q=>by cases q) (fun _ q=>by cases q) NF (I'.hok a _ e').2
 have T:Turn X.prog X.w X.K tg (kT a o kvs) [s1.heap.objs.size] s1.heap.objs.size (fun i h=>h.IsKeyIter s1.heap.objs.size a i vs.length ep):=ajh a _ o kvs vs ep (fun h e=>⟨o,es,e,Z9⟩) rel;have Q1:A0 H1 a (.frz o (.dK kvs)) s1.heap.objs.size=none:=by rw [A4 (fun q=>by rw [<- q,I1.fresh] at e;cases e)];exact I1.fresh
 have f2:∀ b∈[s1.heap.objs.size],FpOk X pins (A0 H1 a (.frz o (.dK kvs))) b:=fun b hb=>by
  have e:b=s1.heap.objs.size:=by simpa using hb
  subst e;exact I1.fpOk (C3 _) Q1
 obtain ⟨W,⟨m0,w0⟩,turn⟩:=q o;have stat:∀ {H':Hp},(∀ b∈[s1.heap.objs.size],H' b=none)->∀ b∈[s1.heap.objs.size],FpOk X pins H' b:=fun hn b hb=>⟨hn b hb,(f2 b hb).2⟩
 refine codeAny_forLoop_any (fun n s'=>∃ i σ' H',Inv X pins σ' H' s'/\s'.heap.IsKeyIter s1.heap.objs.size a i vs.length ep/\(∀ b∈[s1.heap.objs.size],H' b=none)/\W i n σ' H') ?_ m0 ⟨0,Y,_,I2,⟨_,Heap.get?_push_size _ rfl,rfl,rfl⟩,fun b hb=>(f2 b hb).1,w0⟩;rintro n s3 ⟨i,σ3,H3,I3,dI,lL,w3⟩
 rcases turn i n σ3 H3 w3 with ⟨stop,qn⟩ | ⟨go,N,hN,step⟩
 .refine wpAny_passesOwn hp (B3 (T.done X rfl rfl rfl hc i pins s3 σ3 H3 X.xe I3 (stat lL) dI stop) fun r s4 ⟨hr,I4⟩=>?_);subst hr;exact wpAny_execs_nil ⟨σ3,_,thaw I4 qn.1,qn.2⟩
 .refine wpAny_passesOwn hp (B3 (T.item X rfl rfl rfl hc i pins s3 σ3 H3 X.xe I3 (stat lL) dI go) fun r s4 ⟨u,hr,h4⟩=>?_);subst hr;refine wpAny_passesOwn hp (B3 h4 fun _ s5 ⟨x,H5,I5,r5,y5,fE,vX⟩=>?_);have I5':=I5.pinned (stat vX) (T.obj _ _ fE);refine wpAny_passesOwn hp (B3 (hg _ s5 σ3 H5 x u _ I5' r5 (step x H5 y5)) fun _ s6 ⟨σ6,H6,I6,q6⟩=>?_);refine wpAny_passesOwn hp (B3 (hb _ s6 σ6 H6 _ I6 q6) fun f s7 q7=>?_);have again:∀ {σ7:St} {H7:Hp},Inv X (pins++gQ [s1.heap.objs.size] s5.heap) σ7 H7 s7->N σ7 H7->∃ m,m<n/\∃ i σ' H',Inv X pins σ' H' s7/\s7.heap.IsKeyIter s1.heap.objs.size a i vs.length ep/\(∀ b∈[s1.heap.objs.size],H' b=none)/\W i m σ' H':=fun {σ7 H7} I7 n7=>by
   obtain ⟨m',hm,w7⟩:=hN σ7 H7 n7;refine ⟨m',hm,i+1,σ7,H7,I7.unpinned,T.keep _ _ _ fE fun b hb o e=>(I7.pin (b,o) (O5 _ (O5 _ (gS hb e)))).1,fun b hb=>?_,w7⟩;obtain ⟨o,e,d⟩:=T.obj _ _ fE b hb;exact (I7.pin (b,o) (O5 _ (O5 _ (gS hb e)))).2.1
  cases f with
  | next=>obtain ⟨σ7,H7,I7,n7⟩:=q7;exact again I7 n7
  | cont=>obtain ⟨σ7,H7,I7,n7⟩:=q7;exact again I7 n7
  | brk=>obtain ⟨σ7,H7,I7,q7⟩:=q7;exact ⟨σ7,_,thaw I7.unpinned q7.1,q7.2⟩
  | ret v=>obtain ⟨x7,σ7,H7,I7,r7,q7⟩:=q7;exact ⟨x7,σ7,_,thaw I7.unpinned q7.1,r7,q7.2⟩
theorem sU{l:Expr}{body:List Stmt}{pos:Pos}(hp:PassesOwn 'a' X.A X.env X.xe)(hl:QE X l tl)(hg:QG X tg g)(hb:QSs X body tb)(hc:X.calm=true:=by rfl)(hs:∀ x,foldedSetIterable l X.env x=pure x:=by intro _;rfl):QS X (.For tg l body [] pos) (tForD tl g tb):=⟨anK hp hc hl.out hg.out hb.out hs⟩
theorem anL : tForD tl g tb D Y H=tl Y H fun x H1=>∃ a kvs,x=.ref a/\H1 a=some (.dK kvs)/\∀ o,ForIt (kT a o kvs) g tb (D.thaw a kvs) Y (A0 H1 a (.frz o (.dK kvs))):=rfl
theorem forD{o:Obj}(Pv:Nat->St->Hp->Prop)(h0:Pv 0 Y H)(hl:∀ i Y H,Pv i Y H->H a=some (.frz o (.dK kvs)))(hs:∀ i k v Y H,kvs[i]?=some (k,v)->Pv i Y H->g (kV k) Y H fun σ2 H2=>tb { D.thaw a kvs with nx:=Pv (i+1),ct:=Pv (i+1),bk:=(D.thaw a kvs).nx } σ2 H2)(hd:∀ Y H,Pv kvs.length Y H->D.nx Y (A0 H a (.dK kvs))):ForIt (kT a o kvs) g tb (D.thaw a kvs) Y H:=by
 refine ⟨fun i m Y H=>m=kvs.length-i/\i<=kvs.length/\Pv i Y H,⟨kvs.length,by simp,J0 _,h0⟩,?_⟩;rintro i m Y H ⟨rfl,hi,p⟩;have e:=hl i Y H p
 by_cases C7:i<kvs.length
 .refine .inr ⟨⟨e,C7⟩,Pv (i+1),fun σ' H' p'=>⟨_,by lia,rfl,C7,p'⟩,fun v H' y=>?_⟩;obtain ⟨rfl,k,v',hk,rfl⟩:=y;exact hs i k v' Y _ hk p
 .have e2:i=kvs.length:=by lia
  subst e2;exact .inl ⟨⟨e,C3 _⟩,⟨o,e⟩,hd Y H p⟩
noncomputable def O0 (row:List Str):List 'h':=row.zip row.tail
noncomputable def edges (rows:List (List Str)):List 'h':=rows.flatMap O0
noncomputable def C4 (E:List 'h') (p:Str):List Str:=(E.filter fun e=>decide (e.1=p)).map (·.2)
noncomputable def G6 (E:List 'h') (line:List Str) (q:Str):Nat:=E.countP fun e=>decide (e.2=q) && !decide (e.1∈line)
noncomputable def cntIn (E:List 'h') (S:List Str) (q:Str):Nat:=E.countP fun e=>decide (e.2=q)&&decide (e.1∈S)
theorem ald(E:List 'h')(a b p:Str):C4 (E++[(a,b)]) p=if a=p then C4 E p++[b] else C4 E p:=by
 unfold C4;rw [f6,E2]
 by_cases h:a=p
 .rw [if_pos h,p0 (by simpa using h)];rfl
 .rw [if_neg h,p5 (by simpa using h)];simp
theorem sV(E:List 'h')(p q:Str):(C4 E p).count q=E.countP fun e=>decide (e.2=q)&&decide (e.1=p):=by
 induction E with
 | nil=>rfl
 | cons e E ih=>
  unfold C4 at ih ⊢
  by_cases h:e.1=p
  .rw [p0 (by simpa using h),J3,List.count_cons,ih,p9]
   by_cases h2:e.2=q
   .simp [h,h2]
   .simp [h,h2]
  .rw [p5 (by simpa using h),ih,p9];simp [h]
theorem ah7{E:List 'h'}{p:Str}(h:p∉S):cntIn E (S++[p]) q=cntIn E S q+(C4 E p).count q:=by
 rw [sV];unfold cntIn
 induction E with
 | nil=>rfl
 | cons e E ih=>
  rw [p9,p9,p9,ih]
  by_cases h2:e.2=q
  .by_cases h1:e.1=p
   .have:e.1∉S:=by rw [h1];exact h
    simp [h2,h1,h];lia
   .by_cases h3:e.1∈S
    .simp [h2,h1,h3];lia
    .simp [h2,h1,h3]
  .simp [h2]
theorem ahj{E:List 'h'}{line:List Str}{p:Str}(h:p∉line):G6 E line q=G6 E (line++[p]) q+(C4 E p).count q:=by
 rw [sV];unfold G6
 induction E with
 | nil=>rfl
 | cons e E ih=>
  rw [p9,p9,p9,ih]
  by_cases h2:e.2=q
  .by_cases h1:e.1=p
   .simp [h2,h1,h];lia
   .by_cases h3:e.1∈line
    .simp [h2,h1,h3]
    .simp [h2,h1,h3];lia
  .simp [h2]
theorem afP{E:List 'h'}(h:∀ e∈E,e.1∈S)(q:Str):cntIn E S q=G6 E [] q:=by
 unfold cntIn G6;refine List.countP_congr fun e he=>?_
 simp [h e he]
theorem aji(E:List 'h')(q:Str):cntIn E [] q=0:=by
 unfold cntIn
 simp
theorem cnt_zero{E:List 'h'}{line:List Str} : G6 E line q=0↔∀ e∈E,e.2=q->e.1∈line:=by
 unfold G6;rw [List.countP_eq_zero]
 constructor
 .intro h e he h2
  have:=h e he
  simpa [h2] using this
 .intro h e he
  by_cases h2:e.2=q
  .simp [h2,h e he h2]
  .simp [h2]
noncomputable def nextP (E:List 'h') (ts pre:List Str):Option Str:=(ts.filter fun p=>!decide (p∈pre)).find? fun p=>decide (G6 E pre p=0)
noncomputable def R1 (E:List 'h') (ts line:List Str):Prop:=∀ pre q post,line=pre++q::post->nextP E ts pre=some q
theorem R1.nil(E:List 'h')(ts:List Str):R1 E ts []:=fun pre q post h=>by
 have:=congrArg List.length h
 simp at this
theorem R1.snoc{E:List 'h'}{line:List Str}{p:Str}(r:R1 E ts line)(h:nextP E ts line=some p):R1 E ts (line++[p]):=fun pre q post e=>by
 rcases List.append_eq_append_iff.mp e with ⟨m,h1,h2⟩ | ⟨m,h1,h2⟩
 .cases m with
  | nil=>
   rw [K7] at h1;rw [q5] at h2
   cases (List.cons.inj h2).1
   rw [h1];exact h
  | cons a m=>
   have:=congrArg List.length h2
   simp at this
 .cases m with
  | nil=>
   rw [K7] at h1;rw [q5] at h2
   cases (List.cons.inj h2).1
   rw [<- h1];exact h
  | cons a m=>
   rw [List.cons_append] at h2;have h3:=(List.cons.inj h2).1;exact r pre q m (by rw [h1,h3])
theorem kU{E:List 'h'}{pre:List Str}(h:nextP E ts pre=some q):q∈ts/\q∉pre/\G6 E pre q=0:=by
 have h1:=List.mem_of_find?_eq_some h;have h2:=List.find?_some h;rw [N1] at h1;exact ⟨h1.1,by simpa using h1.2,by simpa using h2⟩
theorem R1.nodup{E:List 'h'} : ∀ {line:List Str},R1 E ts line->line.Nodup:=by
 intro line r;rw [W3,dX];intro i j hi hj fS e;have e1:line=line.take j++line[j]::line.drop (j+1):=by rw [<- nI hj,X7]
 have:=(kU (r _ _ _ e1)).2.1
 exact this (p6.mpr ⟨i,by rw [K6];lia,by rw [List.getElem_take];exact e⟩)
theorem R1.sub{E:List 'h'}{line:List Str}(r:R1 E ts line)(h:q∈line):q∈ts:=by
 obtain ⟨pre,post,e⟩:=List.append_of_mem h;exact (kU (r pre q post e)).1
theorem ahk{E:List 'h'}{line:List Str}(nd:ts.Nodup)(r:R1 E ts line)(h:∀ p∈ts,p∈line):line.length=ts.length:=
 ((List.perm_ext_iff_of_nodup r.nodup nd).mpr fun a=>⟨r.sub,h a⟩).length_eq
theorem aey(E:List 'h')(pre:List Str):∀ ts:List Str,nextP E ts pre=ts.find? fun p=>!decide (p∈pre)&&decide (∀ e∈E,e.2=p->e.1∈pre)
 | []=>rfl
 | t::ts=>by
  have ih:=aey E pre ts;unfold nextP at ih ⊢
  by_cases h:t∈pre
  .rw [p5 (by simpa using h),x9,ih];simp [h]
  .rw [p0 (by simpa using h),x9,x9,ih]
   by_cases h2:G6 E pre t=0
   .have:=cnt_zero.mp h2
    rw [decide_eq_true h2,decide_eq_true this];simp [h]
   .have:¬ ∀ e∈E,e.2=t->e.1∈pre:=fun z=>h2 (cnt_zero.mpr z)
    rw [decide_eq_false h2,decide_eq_false this];simp [h]
theorem aez{row:List Str}{e:Str×Str}(h:e∈O0 row):e.1∈row/\e.2∈row:=by
 unfold O0 at h;exact ⟨(List.of_mem_zip h).1,List.mem_of_mem_tail (List.of_mem_zip h).2⟩
theorem afQ{rows:List (List Str)}{e:Str×Str}(h:e∈edges rows):e.1∈rows.flatten/\e.2∈rows.flatten:=by
 unfold edges at h;obtain ⟨row,h1,h2⟩:=U7.mp h
 have:=aez h2
 exact ⟨cJ.mpr ⟨row,h1,this.1⟩,cJ.mpr ⟨row,h1,this.2⟩⟩
noncomputable def A5 (ts:List Str) (f:Str->V):List (A7×V):=ts.map fun t=>(Sum.inr t,f t)
theorem sW(f:Str->V)(z:Str):∀ ts:List Str,((A5 ts f).any fun kv=>decide (kv.1=(Sum.inr z:A7)))=decide (z∈ts)
 | []=>by simp [A5]
 | y::ts=>by
  have ih:=sW f z ts;unfold A5 at ih ⊢
  rw [J3,aT,ih]
  by_cases e:y=z
  .subst e
   simp
  .have e1:decide ((Sum.inr y:A7)=Sum.inr z)=false:=decide_eq_false fun q=>e (Sum.inr.inj q)
   rw [e1,Bool.false_or]
   by_cases h:z∈ts
   .rw [decide_eq_true h,decide_eq_true (L8 _ h)]
   .rw [decide_eq_false h,decide_eq_false];intro q
    rcases F9.mp q with q | q
    .exact e q.symm
    .exact h q
theorem N5(f:Str->V)(z:Str):∀ ts:List Str,valV (A5 ts f) (Sum.inr z)=if z∈ts then some (f z) else none
 | []=>rfl
 | y::ts=>by
  have ih:=N5 f z ts;unfold A5 at ih ⊢
  rw [J3]
  by_cases e:y=z
  .subst e;rw [nX rfl,if_pos K5]
  .rw [bB (fun q=>e (Sum.inr.inj q)),ih]
   by_cases h:z∈ts
   .rw [if_pos h,if_pos (L8 _ h)]
   .rw [if_neg h,if_neg];intro q
    rcases F9.mp q with q | q
    .exact e q.symm
    .exact h q
theorem kW{f:Str->V}(v:V)(h:z∈ts):putK (A5 ts f) (Sum.inr z:A7) v=A5 ts fun t=>if t=z then v else f t:=by
 unfold putK;rw [sW,decide_eq_true h,if_pos rfl];unfold A5;rw [Q5];refine aQ fun y _=>?_
 show (if (Sum.inr y:A7)=Sum.inr z then ((Sum.inr y:A7),v) else (Sum.inr y,f y))=((Sum.inr y:A7),if y=z then v else f y)
 by_cases e:y=z
 .rw [if_pos (by rw [e]),if_pos e]
 .rw [if_neg (fun q=>e (Sum.inr.inj q)),if_neg e]
theorem cZ{f:Str->V}(v:V)(h:z∉ts):putK (A5 ts f) (Sum.inr z:A7) v=A5 (ts++[z]) fun t=>if t=z then v else f t:=by
 unfold putK;rw [sW,decide_eq_false h,if_neg K4];unfold A5;rw [E2]
 congr 1
 .refine aQ fun y hy=>?_
  show _=((Sum.inr y:A7),if y=z then v else f y);rw [if_neg (fun e:y=z=>h (by rw [<- e];exact hy))]
 .simp
theorem P6{f g:Str->V}(h:∀ t∈ts,f t=g t):A5 ts f=A5 ts g:=by
 unfold A5;exact aQ fun t ht=>by rw [h t ht]
theorem Z3(f:Str->V)(ts:List Str):(A5 ts f).length=ts.length:=by unfold A5;rw [A3]
theorem amo{f:Str->V}{k:A7}{v:V}(h:(A5 ts f)[i]?=some (k,v)):∃ t,ts[i]?=some t/\k=Sum.inr t/\v=f t:=by
 unfold A5 at h;obtain ⟨t,h1,h2⟩:=J1 h;cases h2;exact ⟨t,h1,rfl,rfl⟩
theorem ale(f:Str->V)(ts:List Str):((A5 ts f).map fun kv=>kV kv.1)=ts.map V.str:=by
 unfold A5;rw [Q5];rfl
structure DL(H0 H:Hp)(ts:List Str)(ad:Str->Addr)(F:Str->List Str):Prop where
 row:∀ t∈ts,H (ad t)=some (.lst ((F t).map V.str))
 inj:∀ t∈ts,∀ u∈ts,ad t=ad u->t=u
 new:∀ t∈ts,H0 (ad t)=none
theorem DL.same{ad:Str->Addr}{F:Str->List Str}(x:DL H0 H ts ad F)(s:Same H H'):DL H0 H' ts ad F:=⟨fun t h=>s _ _ (x.row t h),x.inj,x.new⟩
theorem DL.app{ad:Str->Addr}{F:Str->List Str}(x:DL H0 H ts ad F)(hz:z∈ts)(ys:List Str):DL H0 (A0 H (ad z) (.lst (ys.map V.str))) ts ad fun t=>if t=z then ys else F t:=by
 refine ⟨fun t ht=>?_,x.inj,x.new⟩;show _=some (HO.lst ((if t=z then ys else F t).map V.str))
 by_cases e:t=z
 .subst e;rw [A1,if_pos rfl]
 .rw [A4 (fun q=>e (x.inj t ht z hz q)),if_neg e];exact x.row t ht
theorem DL.more{ad:Str->Addr}{F:Str->List Str}(x:DL H0 H ts ad F)(hz:z∉ts)(np:H p=none)(n0:H0 p=none):DL H0 (A0 H p (.lst [])) (ts++[z]) (fun t=>if t=z then p else ad t) fun t=>if t=z then [] else F t:=by
 have ne:∀ t∈ts,t≠z:=fun t ht e=>hz (by rw [<- e];exact ht)
 have nad:∀ t∈ts,ad t≠p:=fun t ht e=>by have:=x.row t ht;rw [e,np] at this;cases this
 have cases':∀ t,t∈ts++[z]->(t∈ts/\t≠z)\/t=z:=fun t ht=>by
  rcases D8.mp ht with h | h
  .exact .inl ⟨h,ne t h⟩
  .exact .inr (D3.mp h)
 refine ⟨fun t ht=>?_,fun t ht u hu e=>?_,fun t ht=>?_⟩
 .show A0 H p (.lst []) (if t=z then p else ad t)=some (.lst ((if t=z then [] else F t).map V.str))
  rcases cases' t ht with ⟨h1,h2⟩ | rfl
  .rw [if_neg h2,if_neg h2,A4 (nad t h1)];exact x.row t h1
  .rw [if_pos rfl,if_pos rfl,A1];rfl
 .have e:(if t=z then p else ad t)=(if u=z then p else ad u):=e
  rcases cases' t ht with ⟨h1,h2⟩ | rfl <;> rcases cases' u hu with ⟨h3,h4⟩ | rfl
  .rw [if_neg h2,if_neg h4] at e;exact x.inj t h1 u h3 e
  .rw [if_neg h2,if_pos rfl] at e;exact absurd e (nad t h1)
  .rw [if_pos rfl,if_neg h4] at e;exact absurd e.symm (nad u h3)
  .rfl
 .show H0 (if t=z then p else ad t)=none
  rcases cases' t ht with ⟨h1,h2⟩ | rfl
  .rw [if_neg h2];exact x.new t h1
  .rw [if_pos rfl];exact n0
theorem alf(h:acc.Nodup)(z:Str):(dd acc z).Nodup:=by
 unfold dd
 split
 .exact h
 .rename_i hz
  rw [X8];refine ⟨h,by simp,fun a ha b hb e=>hz ?_⟩;rw [<- D3.mp hb,<- e];exact ha
theorem sX:∀ {zs acc:List Str},acc.Nodup->(M5 acc zs).Nodup
 | [],_,h=>h
 | z::zs,acc,h=>sX (zs:=zs) (alf h z)
theorem kX(zss:List (List Str)):(toldL zss).Nodup:=by
 unfold toldL;rw [oG];exact sX 'c'
theorem dA(x:Str):∀ (zs acc:List Str),x∈M5 acc zs↔x∈acc\/x∈zs
 | [],acc=>by simp [M5]
 | z::zs,acc=>by
  show x∈M5 (dd acc z) zs↔_;rw [dA x zs];unfold dd
  by_cases h:z∈acc
  .rw [if_pos h,F9]
   constructor
   .rintro (h1 | h1)
    .exact .inl h1
    .exact .inr (.inr h1)
   .rintro (h1 | rfl | h1)
    .exact .inl h1
    .exact .inl h
    .exact .inr h1
  .rw [if_neg h,D8,D3,F9,or_assoc]
theorem dB(x:Str)(zss:List (List Str)):x∈toldL zss↔x∈zss.flatten:=by
 unfold toldL;rw [oG,dA]
 simp
theorem bE{zss:List (List Str)}{e:Str×Str}(h:e∈edges zss):e.1∈toldL zss/\e.2∈toldL zss:=⟨(dB _ _).mpr (afQ h).1,(dB _ _).mpr (afQ h).2⟩
theorem oP{zss:List (List Str)}(h:zss[i]?=some zs):edges (zss.take (i+1))=edges (zss.take i)++O0 zs:=by
 rw [p7,h];unfold edges;rw [e9]
 simp
theorem kY(zs:List Str):(O0 zs).length=min zs.length zs.tail.length:=by unfold O0;rw [List.length_zip]
theorem oQ{y:Str}(h1:zs[j]?=some x)(h2:zs.tail[j]?=some y):(O0 zs)[j]?=some (x,y):=by
 unfold O0;rw [List.getElem?_zip_eq_some];exact ⟨h1,h2⟩
theorem kZ(zss:List (List Str)):(edges zss).length<=zss.flatten.length:=by
 induction zss with
 | nil=>exact C3 _
 | cons zs zss ih=>
  unfold edges at ih ⊢
  rw [cI,D4,cH,D4,kY];lia
theorem DL.put{ad:Str->Addr}{F:Str->List Str}(x:DL H0 H ts ad F){o u:HO}(hb:H0 b=some u):DL H0 (A0 H b o) ts ad F:=
 ⟨fun t ht=>by rw [A4 (fun e=>by have:=x.new t ht;rw [e,hb] at this;cases this)];exact x.row t ht,x.inj,x.new⟩
theorem DL.congr{ad:Str->Addr}{F G:Str->List Str}(x:DL H0 H ts ad F)(h:∀ t∈ts,F t=G t):DL H0 H ts ad G:=⟨fun t ht=>by rw [<- h t ht];exact x.row t ht,x.inj,x.new⟩
theorem DL.old{H00:Hp}{ad:Str->Addr}{F:Str->List Str}(x:DL H0 H ts ad F)(s:Same H00 H0):DL H00 H ts ad F:=⟨x.row,x.inj,fun t ht=>s.free (x.new t ht)⟩
theorem sY(nd:ts.Nodup)(h:ts[i]?=some z):z∉ts.take i:=fun hm=>by
 obtain ⟨hi,e⟩:=F8.mp h;obtain ⟨j,hj,e2⟩:=p6.mp hm;rw [K6] at hj;rw [List.getElem_take] at e2
 have:=(W3.mp nd)
 rw [dX] at this;exact this j i 'b' hi 'b' (e2.trans e.symm)
theorem J9{α:Type}{ts:List α}{z:α}(h:ts[i]?=some z):ts.take (i+1)=ts.take i++[z]:=by rw [p7,h];rfl
noncomputable def SameBut (d:Addr) (H H':Hp):Prop:=∀ b o,b≠d->H b=some o->H' b=some o
theorem SameBut.put{d q:Addr}{u:HO}(s:SameBut d H0 H)(n:H0 q=none):SameBut d H0 (A0 H q u):=fun b o hb h=>by rw [A4 (O3 h n)];exact s b o hb h
theorem SameBut.thaw{d:Addr}{u:HO}(s:SameBut d H0 H)(h:H0 d=some u):Same H0 (A0 H d u):=fun b o hb=>by
 by_cases e:b=d
 .subst e;rw [A1,<- hb,h]
 .rw [A4 e];exact s b o e hb
theorem RowsAt.grow{q:Addr}{zss:List (List Str)}(R:RowsAt H0 H a rs zss)(S:Same H H')(hq:H q=none)(Y6:H' q=some (.lst (zs.map V.str))):RowsAt H0 (A0 H' a (.lst (rs.map V.ref++[V.ref q]))) a (rs++[q]) (zss++[zs]):=by
 have nq:∀ r∈a::rs,r≠q:=fun r hr z=>by
  obtain ⟨o,e⟩:=R.live hr;rw [z,hq] at e;cases e
 obtain ⟨na,_⟩:=Y0.mp R.nd;refine ⟨⟨by rw [A1,E2];rfl,?_⟩,?_,?_,?_⟩
 .refine Paired.snoc (sI R.rows.row fun r hr zs h=>?_) ?_
  .rw [A4 (fun z:r=a=>na (by rw [<- z];exact hr))];exact S _ _ h
  .rw [A4 (nq a K5).symm];exact Y6
 .show (a::(rs++[q])).Nodup;exact rZ R.nd fun h=>nq q h rfl
 .intro r hr
  rcases F9.mp hr with h | h
  .exact R.new r (by rw [h];exact K5)
  .rcases D8.mp h with h | h
   .exact R.new r (L8 _ h)
   .rw [D3.mp h];exact R.same.free hq
 .exact (R.same.trans S).put (R.new a K5)
noncomputable def spFol:Sp:=fun vs H Q _=>∃ (a:Addr) (rs:List Addr) (zss:List (List Str)),vs=[.ref a]/\IsRows H a rs zss/\zss.flatten.length<=100000/\
 ∀ (d:Addr) (ad:Str->Addr) (H':Hp),H d=none->Same H H'->H' d=some (.dK (A5 (toldL zss) fun t=>.ref (ad t)))->DL H H' (toldL zss) ad (C4 (edges zss))->Q (.ref d) H'
noncomputable def sZ:Sp:=fun vs H Q _=>∃ (d:Addr) (ts:List Str) (ad:Str->Addr) (E:List 'h'),vs=[.ref d]/\H d=some (.dK (A5 ts fun t=>.ref (ad t)))/\ts.Nodup/\ts.length<=100000/\E.length<=100000/\
 (∀ t∈ts,H (ad t)=some (.lst ((C4 E t).map V.str)))/\(∀ e∈E,e.1∈ts/\e.2∈ts)/\∀ c H',H c=none->Same H H'->H' c=some (.dK (A5 ts fun t=>.int (G6 E [] t:Nat)))->Q (.ref c) H'
theorem u4:∀ {l m:List Str},l.Nodup->(∀ x∈l,x∈m)->l.length<=m.length
 | [],_,_,_=>J0 _
 | x::l,m,nd,h=>by
  obtain ⟨n1,n2⟩:=Y0.mp nd;have hx:=h x K5
  have:=u4 (l:=l) (m:=m.erase x) n2 fun y hy=>(nN (fun e=>n1 (by rw [<- e];exact hy))).mpr (h y (L8 _ hy))
  rw [dY hx] at this;have i4:=jW hx;rw [G8];lia
theorem SameBut.free{d:Addr}(s:SameBut d H0 H)(n:H p=none)(h:p≠d):H0 p=none:=by
 cases e:H0 p with
 | none=>rfl
 | some o=>
  have:=s p o h e
  rw [n] at this;cases this
theorem SameBut.same{d:Addr}(s:SameBut d H1 H2)(S:Same H H1)(n:H d=none):Same H H2:=fun b o h=>s b o (O3 h n) (S b o h)
theorem SameBut.refl(d:Addr)(H:Hp):SameBut d H H:=fun _ _ _ h=>h
theorem SameBut.at{d:Addr}{o:HO}(s:SameBut d H H'):SameBut d H (A0 H' d o):=fun b u hb h=>by rw [A4 hb];exact s b u hb h
noncomputable def one (c:Nat):Str:=⟨#[c]⟩
theorem SG_nd:SG.Nodup:=by decide +kernel
section
variable {X:Cx}
noncomputable def rAnyB (calm:Bool):List V->Hp->VK->Prop
 | [.ref p],H,Q=>∃ bs:List Bool,calm=true/\H p=some (.lst (bs.map V.bl))/\Q (.bl (bs.any id)) H
 | _,_,_=>False
theorem p_any:CallR X (.builtin "any") (rAnyB X.calm):=by
 intro pins s Y H xs us Q I r h
 match xs,h with
 | [.ref p],⟨bs,hc,hp,q⟩=>
  obtain ⟨u,rfl,rx⟩:=vals1 r
  cases rx
  obtain ⟨z,its,n,rv,hl,e⟩:=I.lstM hp;have pl:s.heap.IsList p its.toArray:=⟨_,e,rfl,n,rfl⟩
  refine call_any_walk (wpAny_pyIter_list pl ?_);have G7:p≠s.heap.objs.size:=J4 (Heap.lt_size e);have hk:∀ b o,s.heap.get? b=some o->(s.heap.push { cls:=.type "list_iterator",data:=.fields #[.ref p,.int 0 0] }).get? b=some o:=fun b o q=>Heap.get?_push_of_some _ q
  refine ⟨_,_,_,_,_,_,fun i=>(bs[i]?).getD false,rfl,Walks.list (show X.A.in1.handled=none from I.ok.hd hc) s.heap.objs.size p G7 its.toArray,⟨⟨_,Heap.get?_push_size _ rfl,rfl,rfl⟩,pl.at fun o q=>hk p o q⟩,?_,?_⟩
  .intro i v s' Q' E' hv hq;have dJ:its[i]?=some v:=by simpa using hv
   have hb:∃ b,bs[i]?=some b/\v=.bool b:=by
    cases eb:(bs.map V.bl)[i]? with
    | none=>
     have:=rv.none_of eb
     rw [dJ] at this
     cases this
    | some y=>
     obtain ⟨u,h1,h2⟩:=rv.get eb;rw [dJ] at h1;cases h1;rw [P1] at eb;cases e3:bs[i]? with
     | none=>rw [e3] at eb;cases eb
     | some b=>
      rw [e3] at eb;cases eb;exact ⟨b,rfl,h2⟩
   obtain ⟨b,e1,rfl⟩:=hb;have hq:Q' ((bs[i]?).getD false) s':=hq;rw [e1] at hq;exact wpAny_truthy_bool hq
  .intro h' tk lY;have e1:(U0 its.toArray.size).any (fun i=>(bs[i]?).getD false)=bs.any id:=by
    have A6:its.toArray.size=bs.length:=by
     rw [K3,<- hl,A3]
    rw [A6,eG,List.any_eq_true,List.any_eq_true]
    constructor
    .rintro ⟨i,hi,hb⟩;rw [aS] at hi;rw [E9 hi,Option.getD_some] at hb;exact ⟨bs[i],gH hi,hb⟩
    .rintro ⟨b,hb,ht⟩;obtain ⟨i,hi,rfl⟩:=p6.mp hb;exact ⟨i,aS.mpr hi,by rw [E9 hi];exact ht⟩
   rw [e1];have I1:Inv X pins Y H { s with heap:=h',toks:=tk }:=I.kept fun b o q=>lY b o (by
    intro hm
    have:b=s.heap.objs.size:=by simpa using hm
    rw [this] at q;exact absurd (Heap.lt_size q) (j4 _)) (hk b o q)
   exact ⟨.bl _,H,I1,rfl,q⟩
theorem q_any(v2:X.calm=calm:=by rfl):QCall X (.builtin "any") (rAnyB calm):=by subst v2;exact ⟨p_any⟩
theorem any_r{cm:Bool} : rAnyB cm [.ref p] H Q=∃ bs:List Bool,cm=true/\H p=some (.lst (bs.map V.bl))/\Q (.bl (bs.any id)) H:=rfl
end
noncomputable def iH (l : Addr) : It :=
  ⟨fun i H => ∃ xs x, H l = some (.lst xs) /\ xs[i]? = some x,
   fun i H v H' => ∃ t xs x, H l = some (.lst xs) /\ xs[i]? = some x /\ H t = none /\ v = .ref t /\ H' = A0 H t (.tup [.int i, x]),
   fun i H => ∃ xs, H l = some (.lst xs) /\ xs.length <= i⟩
theorem ajj{P:Program}{w:World}{pos:Pos}(e it l:Addr)(G7:e≠it) :
  Turn P w K (.Tuple elts x1 pos) (iH l) [e,it] e (fun i h=>(∃ old,IsEnum h e it ((i:Nat):Int) old)/\h.IsListIter it l i) where
 mem:=by simp
 obj:=fun i h ⟨⟨old,he⟩,hi⟩ c hc=>by
  have q:c=e\/c=it:=by simpa using hc
  rcases q with rfl | rfl
  .exact ⟨_,he,fun v q=>by cases q⟩
  .obtain ⟨o,e,c,d⟩:=hi;exact ⟨o,e,fun v z=>by rw [d] at z;cases z⟩
 keep:=fun i h h' ⟨⟨old,he⟩,hi⟩ k=>⟨⟨old,k e 'c' _ he⟩,hi.at fun o q=>k it 'c' o q⟩
 item:=by
  intro X hP hw hK hc i pins s Y H E I hf ⟨⟨old,he⟩,hi⟩ hg;subst hP hw hK;obtain ⟨xs,x,e1,hx⟩:=hg;obtain ⟨its1,b9,p1,_⟩:=I.list (D6.of (K:=X.K) e1);obtain ⟨u1,C9,r1⟩:=b9.get hx;refine wpAny_pyNext_enum_item he hi p1.isList (x:=u1) (by simpa using C9) G7 fun h' b1 b2 b3 b4 b5=>⟨_,rfl,wpAny_letOwnedTupleGo_enum b1 fun h2' c1 c2=>?_⟩
  have W0:e<s.heap.objs.size:=Heap.lt_size he;have up:∀ c o,c≠e->h'.get? c=some o->h2'.get? c=some o:=fun c o hc q=>(c2.2 c hc).trans q
  have hT:=up _ _ (q9 W0) b3;have nT:∀ c∈[e,it],c≠s.heap.objs.size:=fun c hc=>by
   have q:c=e\/c=it:=by simpa using hc
   refine J4 ?_
   rcases q with rfl | rfl
   .exact W0
   .obtain ⟨o,q,_⟩:=hi;exact Heap.lt_size q
  refine ⟨.ref s.heap.objs.size,A0 H s.heap.objs.size (.tup [.int i,x]),I.turnNew (t':=s.toks+1) (ch:=[e,it]) hf (fun c u hc q=>?_) (C3 _) ⟨by show 2<=sizeLine;decide,[.int i s.toks,u1],.cons ⟨_,rfl⟩ (.cons r1 .nil),?_⟩,rfl,⟨_,xs,x,e1,hx,I.fresh,rfl,rfl⟩,
   ⟨⟨_,c1⟩,b2.at fun o q=>up _ o G7.symm q⟩,fun c hc=>by rw [A4 (nT c hc)];exact (hf c hc).1⟩
  .have q1:c≠e/\c≠it:=⟨fun q=>hc (by simp [q]),fun q=>hc (by simp [q])⟩
   exact up c u q1.1 (b5 c u q1.1 q1.2 q)
  .exact ⟨_,hT,rfl,_,rfl⟩
 done:=by
  intro X hP hw hK hc i pins s Y H E I hf ⟨⟨old,he⟩,hi⟩ hg;subst hP hw hK;obtain ⟨xs,e1,fP⟩:=hg;obtain ⟨its1,b9,p1,_⟩:=I.list (D6.of (K:=X.K) e1);have q1:=b9.length;obtain ⟨f0,f1,f2,f3,f4,f5⟩:=hf it 'c';exact wpAny_pyNext_enum_end (I.ok.hd hc) he hi p1.isList (by simp;lia) fun h' eb=>⟨rfl,I.turned (t':=s.toks) (fun b o hb q=>eb b o hb q) f0 f1 f3 f4 f5⟩
 self:=fun _ _ _ _ _ st h=>by
  obtain ⟨⟨old,he⟩,_⟩:=st;exact wpAny_pyIter_enum he h
section
variable {X:Cx}
noncomputable def iEnum (ta:TA):TI:=fun Y H R=>ta Y H fun vs H1=>∃ (l:Addr) (xs:List V),vs=[.ref l]/\H1 l=some (.lst xs)/\R (iH l) H1
theorem anM{a:Expr}{p pos:Pos}(hg:Gl X "enumerate")(hm:X.mg "enumerate"=none)(ha:PA X [a] ta)(h1:L6 a=false:=by rfl) :
  PI X (.Tuple elts x1 tpos) (.Call (.Name "enumerate" p) [a] [] pos) (iEnum ta):=by
 intro pins s Y H R I h;refine Call_ (cQ I hg hm boot_enumerate (PyProof.Rows.callWith_type1 (B3 (ha pos pins s Y H _ I h) fun us s1 ⟨vs,H1,I1,r1,q1⟩=>?_) (O7 h1) rfl));obtain ⟨l,xs,rfl,e1,q⟩:=q1;obtain ⟨u1,rfl,lW⟩:=vals1 r1
 cases lW
 obtain ⟨its1,b9,p1,_⟩:=I1.list (D6.of (K:=X.K) e1);refine call_enumerate_list p1.isList fun h' z1 z2 z3 z4=>wpAny_pyIter_enum z1 ?_
 refine ⟨s1.heap.objs.size+1,[s1.heap.objs.size+1,s1.heap.objs.size],_,_,H1,rfl,I1.kept (t':=s1.toks) z4,ajj _ s1.heap.objs.size l (n5 'b'),⟨⟨_,z1⟩,z2⟩,fun b hb=>?_,q⟩;have P0:s1.heap.objs.size<=b:=by
  have e:b=s1.heap.objs.size+1\/b=s1.heap.objs.size:=by simpa using hb
  rcases e with rfl | rfl
  .exact cM _ _
  .exact C3 _
 exact I1.fpOk P0 (I1.hok.fresh P0)
theorem oR{a:Expr}{p pos:Pos}(hm:X.mg "enumerate"=none)(ha:QA X [a] ta)(hg:Gl X "enumerate":=by rfl)(h1:L6 a=false:=by rfl) :
  QI X (.Tuple elts x1 tpos) (.Call (.Name "enumerate" p) [a] [] pos) (iEnum ta):=⟨anM hg hm ha.out h1⟩
end
theorem alg{R:It->Hp->Prop} : iEnum ta Y H R=ta Y H fun vs H1=>∃ (l:Addr) (xs:List V),vs=[.ref l]/\H1 l=some (.lst xs)/\R (iH l) H1:=rfl
theorem forE{l:Addr}(Pv:Nat->St->Hp->Prop)(h0:Pv 0 Y H)(hl:∀ i Y H,Pv i Y H->H l=some (.lst xs))(hs:∀ i x t Y H,xs[i]?=some x->Pv i Y H->H t=none->g (.ref t) Y (A0 H t (.tup [.int i,x])) fun σ2 H2=>tb { D with nx:=Pv (i+1),ct:=Pv (i+1),bk:=D.nx } σ2 H2)(hd:∀ Y H,Pv xs.length Y H->D.nx Y H):ForIt (iH l) g tb D Y H:=by
 refine ⟨fun i m Y H=>m=xs.length-i/\i<=xs.length/\Pv i Y H,⟨xs.length,by simp,J0 _,h0⟩,?_⟩;rintro i m Y H ⟨rfl,hi,p⟩;have e1:=hl i Y H p
 by_cases C7:i<xs.length
 .refine .inr ⟨⟨xs,xs[i],e1,by simp⟩,Pv (i+1),fun σ' H' p'=>⟨_,by lia,rfl,C7,p'⟩,fun v H' y=>?_⟩;obtain ⟨t,xs',x,f1,hx,ht,rfl,rfl⟩:=y;rw [e1] at f1;cases f1;exact hs i x t Y H hx p ht
 .have e:i=xs.length:=by lia
  subst e;exact .inl ⟨⟨xs,e1,by lia⟩,hd Y H p⟩
noncomputable def MO (P:Program) (w:World) (K:PySem.W.Frag) (mg:Str->Option Value) (base:Heap) (k:Nat) (C:Addr) (m:Str) (ps:List Str) (sp:Sp):Prop:=
 ∃ f fd,FnOk P w K mg base G9 k f fd ps sp/\Cls K C/\Meth K C m f/\Binds K fd ps []
section
variable {X:Cx} {k:Nat} {C:Addr} {ps:List Str} {sp:Sp} {x m:Str} {p pos apos:Pos} {e o:Expr} {es:List Expr} {ta:TE} {t:TA}
theorem ahl(ho:QE X o ta)(G:MO X.prog X.w X.K X.mg X.base k C m ps sp)(hr:Room k X.A){pl:Sem Bool}(ht:eval (.Call (.Attribute o m apos) [] [] pos) X.env=(do
   let ov <- eval o X.env
   standAt apos.atName
   let (f,first) <- holding [ov] (getMethod ov m pl)
   callWith pos f first (backTo pos (starEach [] X.env)) (backToKw pos (keywordEach [] X.env))):=by rfl) :
  QE X (.Call (.Attribute o m apos) [] [] pos) (tMeth C m sp [] E0 ta tNil):=by
 obtain ⟨f,fd,F,c,hm,hb⟩:=G;exact ⟨akx ho.out c hm F hr hb .nil pass0 ht⟩
end
section
variable {C:Addr} {m f:Str} {sp:Sp} {K:PySem.W.Frag} {ta tv:TE} {t:TA} {Y:St} {H:Hp} {Q:VK} {D:Ends}
theorem anN:tMake C sp [] E0 t Y H Q=t Y H fun vs H1=>∀ x dx,H1 x=none->H1 dx=none->dx≠x->sp (.ref x::(vs++[])) (A0 (A0 H1 dx (.own x)) x (.ins C dx [])) (fun v H2=>v=.non/\Q (.ref x) H2) E0:=rfl
theorem anO:tMeth C m sp [] E0 ta t Y H Q=ta Y H fun x H1=>∃ a dx fs,x=.ref a/\H1 a=some (.ins C dx fs)/\fs.lookup m=none/\t Y H1 fun vs H2=>sp (x::(vs++[])) H2 Q E0:=rfl
theorem aqP:tFld K ta f Y H Q=ta Y H fun x H1=>∃ a C dx fs v,x=.ref a/\H1 a=some (.ins C dx fs)/\Cls K C/\NoAttr K C f/\fs.lookup f=some v/\Q v H1:=rfl
theorem anP:sFld K ta tv f D Y H=tv Y H fun y H1=>ta Y H1 fun x H2=>∃ a C dx fs,x=.ref a/\H2 a=some (.ins C dx fs)/\Cls K C/\NoAttr K C f/\fs.length<1000/\D.nx Y (A0 H2 a (.ins C dx (putF f y fs))):=rfl
end
section
variable {X:Cx} {o e:Expr} {apos cpos:Pos} {td ty:TE}
theorem tD(hu:X.A.units+1<cLine)(ho:QE X o td)(he:QE X e ty)(h1:L6 e=false:=by rfl)(D9:attributeBase o "get" X.env (eval o X.env)=eval o X.env:=by rfl)(E7:(apos.endLine==cpos.line)=true:=by rfl):QE X (.Call (.Attribute o "get" apos) [e] [] cpos) (rX td ty):=
 ⟨akG hu ho.out he.out ⟨D9,by rw [O7 h1];rfl,E7,by rw [O7 h1];rfl⟩⟩
theorem alh : rX td ty Y H Q=td Y H fun x H1=>∃ a,x=.ref a/\bC H1 a/\ty Y H1 fun y H2=>∃ o,DGet H2 a y o/\Q (o.getD .non) H2:=rfl
end
noncomputable def rIntB:List V->Hp->VK->Prop
 | [.bl b],H,Q=>Q (.int (if b then 1 else 0)) H
 | _,_,_=>False
theorem int_b{b:Bool} : rIntB [.bl b] H Q=Q (.int (if b then 1 else 0)) H:=rfl
noncomputable abbrev Rl:=Str×List Str
noncomputable def tupR (z:Rl):HO:=.tup ((z.1::z.2).map V.str)
structure IsRules(H:Hp)(a:Addr)(rs:List Addr)(R:List Rl):Prop where
 top:H a=some (.lst (rs.map V.ref))
 row:Paired (fun r z=>H r=some (tupR z)) rs R
theorem IsRules.same{R:List Rl}(h:IsRules H a rs R)(s:Same H H'):IsRules H' a rs R:=⟨s _ _ h.top,j8 h.row fun _ _ e=>s _ _ e⟩
theorem IsRules.len{R:List Rl}(h:IsRules H a rs R):rs.length=R.length:=Paired.length h.row
noncomputable def K2 (z:Rl):List Str:=if z.1=("great" : Str) then z.2.drop 1 else if z.1=("as" : Str) then z.2.take 1 else if z.1=("row" : Str)\/z.1=("marks" : Str)\/z.1=("over" : Str) then z.2 else []
noncomputable def jobD (w:Str):Str:=if w=("row" : Str) then "letter" else if w=("marks" : Str) then "mark" else w
noncomputable def A9 (R:List Rl):List 'h':=R.flatMap fun z=>(K2 z).map fun p=>(p,jobD z.1)
noncomputable def hasW (R:List Rl) (w:Str):Bool:=R.any fun z=>decide (z.1=w)
noncomputable def figO (c:Nat):Bool:=decide (48<=c)&&decide (c<=57)
noncomputable def W8:List Str:=["letter", "mark", "over"]
noncomputable def NC (figs:Bool) (g:Str->Str) (PL:List 'h'):Prop:=∀ i p j,PL[i]?=some (p,j)->j=g p/\(p∈(PL.take i).map (·.1)->j∈W8)/\(figs=true->∀ c∈p.cps.toList,figO c=false)/\p.length<=1000
noncomputable def keysP (PL:List 'h'):List Str:=M5 [] (PL.map (·.1))
theorem tE{R:List Rl}{z:Rl}(h:R[i]?=some z):A9 (R.take (i+1))=A9 (R.take i)++(K2 z).map fun p=>(p,jobD z.1):=by
 rw [p7,h];unfold A9;rw [e9]
 simp
theorem afR(R:List Rl)(i:Nat):∃ more,A9 R=A9 (R.take i)++more:=⟨A9 (R.drop i),by
 unfold A9;rw [<- e9,X7]⟩
theorem ah8(PL:List 'h')(p j:Str):keysP (PL++[(p,j)])=dd (keysP PL) p:=by
 unfold keysP M5;rw [E2,cG];rfl
theorem eT(x:Str)(PL:List 'h'):x∈keysP PL↔x∈PL.map (·.1):=by
 unfold keysP;rw [dA]
 simp
theorem afS(PL:List 'h'):(keysP PL).length<=PL.length:=by
 have:=kM (PL.map (·.1)) []
 rw [A3] at this
 simpa [keysP] using this
noncomputable def rowsW (R:List Rl) (w:Str):List (List Str):=(R.filter fun z=>decide (z.1=w)).map (·.2)
theorem oS{R:List Rl}{z:Rl}{w:Str}(h:R[i]?=some z):rowsW (R.take (i+1)) w=if z.1=w then rowsW (R.take i) w++[z.2] else rowsW (R.take i) w:=by
 rw [p7,h];unfold rowsW;rw [f6,E2]
 by_cases e:z.1=w
 .rw [if_pos e,Option.toList_some,p0 (by simpa using e)];rfl
 .rw [if_neg e,Option.toList_some,p5 (by simpa using e)];simp
theorem u5{hi:Option Int}(hk:1<=k)(hn:1<=n):¬ (HT.sIx n 0 (some (k:Int))=0/\HT.sIx n n hi=n):=fun h=>by
 have:=h.1
 rw [HT.sIx_nat] at this;lia
noncomputable abbrev jobsL:List (A7×V):=[((Sum.inr ("row" : Str):A7),V.str "letter"),(Sum.inr ("marks" : Str),V.str "mark"),(Sum.inr ("great" : Str),V.str "great"),(Sum.inr ("as" : Str),V.str "as"),(Sum.inr ("over" : Str),V.str "over")]
noncomputable def eU (w:Str):Prop:=w=("row" : Str)\/w=("marks" : Str)\/w=("great" : Str)\/w=("as" : Str)\/w=("over" : Str)
theorem tF{w:Str}(h:eU w):valV jobsL (Sum.inr w)=some (.str (jobD w)):=by
 rcases h with rfl | rfl | rfl | rfl | rfl <;> decide +kernel
theorem ali{w:Str}(h:¬ eU w):valV jobsL (Sum.inr w)=none:=by
 unfold eU at h;have n:∀ u:Str,w≠u->¬ ((Sum.inr u:A7)=Sum.inr w):=fun u hu e=>hu (Sum.inr.inj e).symm
 rw [bB (n _ (fun e=>h (.inl e))),bB (n _ (fun e=>h (.inr (.inl e)))),bB (n _ (fun e=>h (.inr (.inr (.inl e))))),bB (n _ (fun e=>h (.inr (.inr (.inr (.inl e)))))),bB (n _ (fun e=>h (.inr (.inr (.inr (.inr e))))))];rfl
theorem lA{z:Rl}{p:Str}(h:p∈K2 z):eU z.1:=by
 unfold K2 at h;unfold eU
 split at h
 .rename_i e;exact .inr (.inr (.inl e))
 .split at h
  .rename_i e;exact .inr (.inr (.inr (.inl e)))
  .split at h
   .rename_i e
    rcases e with e | e | e
    .exact .inl e
    .exact .inr (.inl e)
    .exact .inr (.inr (.inr (.inr e)))
   .cases h
theorem aqQ{R:List Rl}{z:Rl}{p:Str}(hz:R[i]?=some z)(hp:(K2 z)[j]?=some p) :
  (A9 R)[(A9 (R.take i)).length+j]?=some (p,jobD z.1)/\(A9 R).take ((A9 (R.take i)).length+j)=A9 (R.take i)++((K2 z).take j).map fun p=>(p,jobD z.1):=by
 obtain ⟨more,e⟩:=afR R (i+1);rw [tE hz,X9] at e;have hj:j<(K2 z).length:=(F8.mp hp).1;rw [e]
 constructor
 .rw [jU (cM _ _),Nat.add_sub_cancel_left,jV (by rw [A3];exact hj),P1,hp];rfl
 .rw [List.take_append,j1 (cM _ _),Nat.add_sub_cancel_left,List.take_append_of_le_length (by rw [A3];lia),List.map_take]
theorem aqR{c d:Nat} : (([c]:List Nat)<[d])↔c<d:=by
 constructor
 .intro h;cases h with
  | rel h=>exact h
  | cons h=>cases h
 .intro h;exact List.Lex.rel h
theorem D1.same(e:Same H H')(h:D1 K H a xs):D1 K H' a xs:=by
 rcases h with (h | ⟨o,h⟩) | h
 .exact .inl (.inl (e _ _ h))
 .exact .inl (.inr ⟨o,e _ _ h⟩)
 .exact .inr h
theorem D1.dput{d:Addr}{o:HO}(hd:H d=some (.dK kvs))(h:D1 K H a xs):D1 K (A0 H d o) a xs:=by
 rcases h with (h | ⟨o,h⟩) | h
 .exact .inl (.inl (by rw [A4 (fun e=>by rw [e,hd] at h;cases h)];exact h))
 .exact .inl (.inr ⟨o,by rw [A4 (fun e=>by rw [e,hd] at h;cases h)];exact h⟩)
 .exact .inr h
noncomputable def spHas (K:PySem.W.Frag):Sp:=fun vs H Q _=>∃ (a:Addr) (ts:List Addr) (R:List Rl) (w:Str),vs=[.ref a,.str w]/\IsRules H a ts R/\R.length<=1000/\∀ H',Same H H'->Q (.bl (hasW R w)) H'
noncomputable def ajk (K:PySem.W.Frag):Sp:=fun vs H Q _=>∃ (t:Addr) (z:Rl),vs=[.ref t]/\H t=some (tupR z)/\∀ p H',Same H H'->D1 K H' p ((K2 z).map V.str)->Q (.ref p) H'
noncomputable def T0 (R:List Rl):List Str:=if hasW R "blanks"=true then [" "] else []
noncomputable def jobG (g:Str->Str):Str->V:=fun t=>if t=(" " : Str) then .str "over" else .str (g t)
noncomputable def ordF (f b:Bool) (j ll ml md:Addr):List (Str×V):=putF "made" (.ref md) (putF "mark_line" (.ref ml) (putF "letter_line" (.ref ll) (putF "jobs" (.ref j) (putF "behind" (.bl b) (putF "figures" (.bl f) [])))))
theorem afT(f b:Bool)(j ll ml md:Addr):(ordF f b j ll ml md).lookup ("letter_line" : Str)=some (V.ref ll):=by
 unfold ordF;rw [V0,if_neg 'e',V0,if_neg 'e',V0,if_pos rfl]
theorem ah9(f b:Bool)(j ll ml md:Addr):(ordF f b j ll ml md).lookup ("mark_line" : Str)=some (V.ref ml):=by
 unfold ordF;rw [V0,if_neg 'e',V0,if_pos rfl]
theorem ajl(f b:Bool)(j ll ml md:Addr){m:Str}(h:m∉(["made", "mark_line", "letter_line", "jobs", "behind", "figures"]:List Str)):(ordF f b j ll ml md).lookup m=none:=by
 unfold ordF;have n:∀ u∈(["made", "mark_line", "letter_line", "jobs", "behind", "figures"]:List Str),¬ m=u:=fun u hu e=>h (by rw [e];exact hu)
 rw [V0,if_neg (n _ 'c'),V0,if_neg (n _ 'c'),V0,if_neg (n _ 'c'),V0,if_neg (n _ 'c'),V0,if_neg (n _ 'c'),V0,if_neg (n _ 'c')];rfl
theorem IsRules.but{x:Addr}{R:List Rl}(h:IsRules H a rs R)(s:SameBut x H H'){fs:List (Str×V)}(hx:H x=some (.ins C dx fs)):IsRules H' a rs R:=
 ⟨s _ _ (fun e=>by have:=h.top;rw [e,hx] at this;cases this) h.top,j8 h.row fun t z e=>s _ _ (fun q=>by rw [q,hx] at e;cases e) e⟩
theorem SameBut.trans{x:Addr}(a:SameBut x H H1)(b:SameBut x H1 H2):SameBut x H H2:=fun c o hc h=>b c o hc (a c o hc h)
theorem Same.but{x:Addr}(a:Same H H1):SameBut x H H1:=fun c o _ h=>a c o h
noncomputable def W9 (R:List Rl) (w:Str) (L:List Str):Prop:=R1 (edges (rowsW R w)) (toldL (rowsW R w)) L/\∀ p∈toldL (rowsW R w),p∈L
structure IsOrder(C:Addr)(H:Hp)(x:Addr)(g:Str->Str)(R:List Rl)(L M:List Str):Prop where
 ob:∃ dx j ll ml md,H x=some (.ins C dx (ordF (hasW R "figures") (hasW R "behind") j ll ml md))/\H j=some (.dK (A5 (keysP (A9 R)++T0 R) (jobG g)))/\H ll=some (.lst (L.map V.str))/\H ml=some (.lst (M.map V.str))
 l1:W9 R "row" L
 l2:W9 R "marks" M
noncomputable def cellF (ns:List Int) (k:Int):Int:=if k<(ns.length:Int) then ns.getD k.toNat 0 else 0
noncomputable def oU (K:PySem.W.Frag):Sp:=fun vs H Q _=>∃ (a:Addr) (ns:List Int) (k:Int),vs=[.ref a,.int k]/\D6 K H a (ns.map V.int)/\0<=k/\Q (.int (cellF ns k)) H
noncomputable def SA:Str:=Str.ofString "!\"#$&'()*+,-./:;<=>?@ABCDEFGHIJKLMNOPQRSTUVWXYZ[\\]^_`abcdefghijklmnopqrstuvwxyz{|}~"
noncomputable def LA:List Nat:=SG.filter fun c=>!figO c
noncomputable def LB:List Nat:=LA++[48,49,50,51,52,53,54,55,56,57]
noncomputable def listF (d:Bool):List Nat:=if d=true then LB else LA
noncomputable def lenF (d:Bool):Int:=if d=true then 93 else 83
noncomputable def tG (ns:List Int):Bool:=decide (cellF ns 1 / 12 % 2=0)
noncomputable def stepO:List Int:=[1,2,4,5,7,8,10,11,13,23,44,80]
noncomputable def stO (ns:List Int):Int:=(J5 stepO (cellF ns 1 % 12)).getD 0
noncomputable def iI (ns:List Int) (k:Int):Nat:=(J5 (listF (tG ns)) ((cellF ns 0+k*stO ns) % lenF (tG ns))).getD 33
theorem aqS{l:List Nat}(nd:l.Nodup){i j:Int}(h0:0<=i)(h1:i<l.length)(h2:0<=j)(h3:j<l.length)(h:(J5 l i).getD 33=(J5 l j).getD 33):i=j:=by
 have li:i.toNat<l.length:=by lia
 have lj:j.toNat<l.length:=by lia
 have a1:J5 l i=some l[i.toNat]:=by
  have:=t5 (xs:=l) (j:=i.toNat) (v:=l[i.toNat]) (E9 li)
  rw [show ((i.toNat:Nat):Int)=i by lia] at this;exact this
 have a2:J5 l j=some l[j.toNat]:=by
  have:=t5 (xs:=l) (j:=j.toNat) (v:=l[j.toNat]) (E9 lj)
  rw [show ((j.toNat:Nat):Int)=j by lia] at this;exact this
 rw [a1,a2] at h
 have:=(W3.mp nd)
 rw [dX] at this
 rcases gJ i.toNat j.toNat with z | z | z
 .exact absurd h (this _ _ li lj z)
 .lia
 .exact absurd h.symm (this _ _ lj li z)
theorem aia{m s t b k l:Int}(ht:s*t % m=1)(e:(b+k*s) % m=(b+l*s) % m)(h0:0<=k)(h1:k<m)(h2:0<=l)(h3:l<m):k=l:=by
 have d1:m ∣ (k-l)*s:=by
  have:=Int.dvd_of_emod_eq_zero (Int.emod_eq_emod_iff_emod_sub_eq_zero.mp e)
  rwa [show (b+k*s)-(b+l*s)=(k-l)*s by rw [Int.sub_mul];lia] at this
 have d3:m ∣ (k-l)*(s*t):=by rw [<- Int.mul_assoc];exact Int.dvd_mul_of_dvd_left d1
 have d4:m ∣ s*t-1:=⟨s*t / m,by have:=Int.emod_add_mul_ediv (s*t) m;lia⟩
 have d5:m ∣ (k-l)*(s*t-1):=Int.dvd_mul_of_dvd_right d4;have d6:=Int.dvd_sub d3 d5;rw [show (k-l)*(s*t)-(k-l)*(s*t-1)=k-l by rw [Int.mul_sub,Int.mul_one];lia] at d6;have d7:=Int.emod_eq_emod_iff_emod_sub_eq_zero.mpr (Int.emod_eq_zero_of_dvd d6)
 rwa [Int.emod_eq_of_lt h0 h1,Int.emod_eq_of_lt h2 h3] at d7
end L2
namespace L2
open PySem PySem.Spec PyProof.Rows
open AutoSeq1 (wpAny_loadPart' idx_int)
noncomputable abbrev bareL (ys:Array Value) (k:Nat):Obj:=⟨.type "list",none,.seq ys k,#[]⟩
noncomputable abbrev anyT (dd:Option Addr) (ys:Array Value) (k:Nat) (ss:Array (Option Value)):Obj:=⟨.type "tuple",dd,.seq ys k,ss⟩
theorem adQ{l:Addr}{ys zs:Array Value}{k2:Nat}{dd:Option Addr}(short:¬ (!ys.isEmpty&&Builtin.List.listTooLong (ys.size+zs.size))=true)(h1:ys.size<=sizeLine)(h2:ys.size+zs.size<=sizeLine+1) :
  Meets (Builtin.«list.extend» ⟨[.ref l,.ref b],[]⟩) (fun _ R s=>s.heap.get? l=some (bareL ys k)/\s.heap.get? b=some (anyT dd zs k2 ss)/\R (.ok (.ret .none)) { s with heap:=s.heap.update l (Obj.mapSeq (·++zs)),toks:=s.toks }):=by
 refine .of_wp fun _ _ _ R s ⟨gl,gb,fin⟩=>?_
 rcases s with ⟨hp,gens,dr,tk,sys⟩
 have c1:=idx_int;have c2:=AutoSeq1.sub_tuple_tuple;have c3:=AutoSeq1.sub_list_list;have c4:=AutoSeq1.sub_tuple_list;have c5:=AutoSeq1.sub_list_tuple;have room:(ys++zs).size<=sizeLine+1:=Array.size_append ▸ h2
 wp_walk using (wpAny_updateSeq gl rfl (hz:=h1) (_hz':=room)),wpAny_loadPart' gl,wpAny_loadPart' gb
 exact ⟨_,rfl,fin⟩
section
variable {X:Cx}
noncomputable def ahm (K:PySem.W.Frag):V->List V->Hp->VK->Prop:=fun x vs H Q=>∃ l b xs zs,x=.ref l/\vs=[.ref b]/\H l=some (.lst xs)/\D1 K H b zs/\xs.length+zs.length<=sizeLine/\Q .non (A0 H l (.lst (xs++zs)))
theorem aib:gZ X "list.extend" (ahm X.K):=by
 intro pins s Y H x vs v us Q I rx rv h;obtain ⟨l,b,xs,zs,rfl,rfl,hH,hB,hz,q⟩:=h
 cases rx
 obtain ⟨u,rfl,ru⟩:=rv.one
 cases ru
 obtain ⟨z,its,n,r,hl,e⟩:=I.lstM hH;obtain ⟨its2,r2,⟨⟨c,dct,dt,sl⟩,e2,hc,n2,hd⟩,lO⟩:=I.tuple hB
 replace hc:c=.type "tuple":=hc
 replace hd:dt=.seq its2.toArray n2:=hd
 subst hc hd;have q1:=r2.length;have hsz:its.toArray.size+its2.toArray.size<=sizeLine:=by rw [K3,K3];lia
 have u8:¬ (!its.toArray.isEmpty&&Builtin.List.listTooLong (its.toArray.size+its2.toArray.size))=true:=by
  rw [zR hsz,Bool.and_false];exact K4
 refine call_meets F.slot_list_extend ⟨_,e,rfl⟩ F.entry_list_extend (F.args_list_extend_2 _ _)
  (adQ (k:=n) (k2:=n2) (dd:=dct) (ss:=sl) u8 (by rw [K3];lia) 'b') ⟨e,e2,?_⟩
 refine ⟨.non,_,I.lset (its':=its++its2) hH e 'c' (r.append r2) ?_,rfl,q⟩;rw [D4];lia
theorem ajm(hK:X.K=K:=by rfl):QMt X "list.extend" (ahm K):=by subst hK;exact ⟨fun pins s Y H x xs v us Q I rx rv h=>aib pins s Y H x xs v us Q I rx rv h⟩
end
noncomputable def Itv (l : Addr) (n : Nat) : It :=
  ⟨fun i H => ∃ xs x, H l = some (.lst xs) /\ i<n /\ xs[n-1-i]? = some x,
   fun i H v H' => H' = H /\ ∀ xs, H l = some (.lst xs) -> xs[n-1-i]? = some v,
   fun i H => ∃ xs, H l = some (.lst xs) /\ n <= i⟩
section
variable {X:Cx}
noncomputable def iRev (ta:TA):TI:=fun Y H R=>ta Y H fun vs H1=>∃ (l:Addr) (xs:List V),vs=[.ref l]/\H1 l=some (.lst xs)/\R (Itv l xs.length) H1
end
theorem anQ{R:It->Hp->Prop} : iRev ta Y H R=ta Y H fun vs H1=>∃ (l:Addr) (xs:List V),vs=[.ref l]/\H1 l=some (.lst xs)/\R (Itv l xs.length) H1:=rfl
noncomputable abbrev dC (l:Addr):Obj:={ cls:=.type "list_iterator",data:=.fields #[.ref l,.int 0 0] }
noncomputable abbrev iJ (it:Addr) (i:Int):Obj:={ cls:=.type "enumerate",data:=.fields #[.none,.bool false,.ref it,rawInt i,.none,.none] }
noncomputable abbrev anyL (dd:Option Addr) (ys:Array Value) (k:Nat) (ss:Array (Option Value)):Obj:=⟨.type "list",dd,.seq ys k,ss⟩
set_option maxHeartbeats 4000000 in
theorem aeg{l:Addr}{ys:Array Value}{dd:Option Addr}{i:Int}{t:Tok}(fits:Builtin.SmallTypes.fitsIndex i=true) :
  Meets (Builtin.«enumerate.__new__» ⟨[.type "enumerate",.ref l],[("start",.int i t)]⟩) (fun _ R s=>s.heap.get? l=some (anyL dd ys k ss)/\
   R (.ok (.ret (.ref (s.heap.push (dC l)).objs.size))) { s with heap:=(s.heap.push (dC l)).push (iJ s.heap.objs.size i) }):=by
 refine .of_wp fun _ _ _ R s ⟨gl,fin⟩=>?_
 rcases s with ⟨hp,gens,dr,tk,sys⟩
 have c1:=sub_enumerate;have isl:Heap.IsList (Shared.heap ⟨hp,gens,dr,tk,sys⟩) l ys:=⟨_,gl,rfl,k,rfl⟩
 wp_walk using wpAny_loadPart' gl
 refine wpAny_stack_any fun _=>wpAny_pure ?_
 split
 case h_1 c _ _ _ _ _=>
  generalize (c==Value.type "enumerate")=truth
  cases truth <;> (wp_walk using wpAny_loadPart' gl,wpAny_pyIter_list isl;exact ⟨_,rfl,fin⟩)
 case h_2=>(wp_walk using wpAny_loadPart' gl,wpAny_pyIter_list isl;exact ⟨_,rfl,fin⟩)
theorem aic(a b:Value):checkTypeCall "enumerate" ⟨[a],[("start",b)]⟩=pure ():=by kernel_rfl
theorem ajn(a b:Value):checkBuiltinCall "enumerate.__new__" ⟨[.type "enumerate",a],[("start",b)]⟩=pure ():=by kernel_rfl
theorem aid(a b c:Value):argsOk "object.__init__" ⟨[a,b],[("start",c)]⟩:=by
 unfold argsOk;rw [signature?_of (id:="object.__init__") (n:="__init__".toList.reverse) (o:="object".toList.reverse) (by kernel_rfl) F.owner_object]
 kernel_rfl
theorem ajo{self b c:Value} : Meets (Builtin.«object.__init__» ⟨[self,b],[("start",c)]⟩) (fun _ R s=>s.TypeIs self "enumerate"/\R (.ok (.ret .none)) s):=by
 have c1:=F.called_enumerate.init.lookup;have c2:=F.called_enumerate.made;refine .of_wp fun _ _ _ R s ⟨isT,fin⟩=>?_
 repeat (any_goals (first | assumption | wp_step))
 exact ⟨_,rfl,fin⟩
section
variable {prog:Program} {w:World} {A:Around} {E:Value->Shared->Prop} {s:Shared}
theorem adR{l:Addr}{ys:Array Value}{i:Int}{t:Tok}{Q:Value->Shared->Prop}(isl:s.heap.IsList l ys)(fits:Builtin.SmallTypes.fitsIndex i=true)(fin:∀ h',IsEnum h' 'i' s.heap.objs.size i .none->h'.IsListIter s.heap.objs.size l 0->(∀ b o,s.heap.get? b=some o->h'.get? b=some o)->Q (.ref 'i') { s with heap:=h' }) :
  wpAny 'd' A (call (.type "enumerate") [.ref l] [("start",.int i t)]) Q E s:=by
 obtain ⟨⟨c,dd,dt,ss⟩,gl,hc,k,hd⟩:=isl;obtain rfl:c=.type "list":=hc;obtain rfl:dt=.seq ys k:=hd;obtain ⟨hd0,tl,c1⟩:=F.called_enumerate.mro;have c2:=F.called_enumerate.made;have c3:=F.called_enumerate.sub;have c4:=F.called_enumerate.notType;have c5:=F.called_enumerate.canCreate;have c6:=F.called_enumerate.init.lookup;have c7:=aic (.ref l) (.int i t);refine wpAny_call (codeAny_of_tree (show wpAny _ _ (callAny (.type "enumerate") _) _ _ _ from wpAny_pure ⟨Code.quiet_builtin _ 'e',codeAny_builtin F.entry_type_call ?_⟩));rw [Around.under_plain (weight_type_call_type "enumerate" [.ref l] [("start",.int i t)]) (units_type_call_type "enumerate" [.ref l] [("start",.int i t)])]
 repeat (any_goals (first | assumption | wp_step))
 have z:(s.heap.push (dC l)).objs.size=s.heap.objs.size+1:=Heap.size_push ..;have made:IsEnum ((s.heap.push (dC l)).push (iJ s.heap.objs.size i)) 'i' s.heap.objs.size i .none:=by
  have g:=Heap.get?_push_size (s.heap.push (dC l)) (o:=iJ s.heap.objs.size i) rfl;rw [z] at g;exact g
 have done:=fin _ made ⟨_,Heap.get?_push_of_some _ (Heap.get?_push_size _ rfl),rfl,rfl⟩ fun b o g=>Heap.get?_push_of_some _ (Heap.get?_push_of_some _ g)
 refine codeAny_mono (codeAny_call_builtin F.called_enumerate.plain F.entry_enumerate_new (wpAny_of_eq (ajn _ _) (aeg (dd:=dd) (k:=k) (ss:=ss) fits prog w A.in1 (wants (fun v s2=>v=.ref 'i'/\s2={ s with heap:=(s.heap.push (dC l)).push (iJ s.heap.objs.size i) }) E) s ⟨gl,?_,?_⟩))) ?_
 .rw [z]
 .rfl
 .intro r s1 hr
  rcases r with e | fl
  .exact hr
  .cases fl with
   | ret v=>
    obtain ⟨rfl,rfl⟩:=hr;have isT:Shared.TypeIs { s with heap:=(s.heap.push (dC l)).push (iJ s.heap.objs.size i) } (.ref 'i') "enumerate":=⟨_,made,rfl⟩
    have c8:=F.called_enumerate.init.bind (.ref 'i')
    repeat (any_goals (first | assumption | wp_step))
    have ran:=ajo (self:=.ref 'i') (b:=.ref l) (c:=.int i t) prog w A.in1 (wants (fun v s2=>v=.none/\s2={ s with heap:=(s.heap.push (dC l)).push (iJ s.heap.objs.size i) }) E) _ ⟨isT,rfl,rfl⟩;refine codeAny_mono (codeAny_call_builtin F.called_enumerate.init.plain F.entry_object_init (F.called_enumerate.init.check _ _ _ _ _ _ _ _ isT (aid _ _ _) ran)) fun r s2 hr=>?_
    rcases r with e | fl
    .exact hr
    .cases fl with
     | ret v=>
      obtain ⟨rfl,rfl⟩:=hr
      repeat (any_goals (first | assumption | wp_step))
     | next=>exact hr.elim
     | brk=>exact hr.elim
     | cont=>exact hr.elim
   | next=>exact hr.elim
   | brk=>exact hr.elim
   | cont=>exact hr.elim
end
theorem aqT{w:World}(calm:A.handled=none){l:Addr}(apart:l≠it)(ys:Array Value) :
  Draws prog w A it [it,l] (ys.size+1) (fun i v=>1<=i/\ys[i-1]?=some v) (fun i h=>1<=i/\h.IsListIter it l (i-1)/\h.IsList l ys):=by
 have D:=Draws.list (prog:=prog) (w:=w) calm it l apart ys;refine ⟨fun i h st=>D.live (i-1) h st.2,fun i h h' st same=>⟨st.1,D.frame (i-1) h h' st.2 same⟩,fun i s Q E hi st fin=>?_,fun s Q E st fin=>D.done s Q E st.2 fin⟩;refine D.item (i-1) s Q E (by have:=st.1;lia) st.2 fun x h' tk px st' sb=>fin x h' tk ⟨st.1,px⟩ ⟨by lia,?_⟩ sb
 rw [show i+1-1=i-1+1 by have:=st.1;lia];exact st'
theorem aqU{w : World}(calm : A.handled = none){l: Addr}{ys : Array Value}(none : ys[i]? = none) :
    Draws prog w A it [it, l] (i+1) (fun _ _ => True) (fun k h => k = i+1 /\ h.IsListIter it l i /\ h.IsList l ys) :=
  ⟨fun _ _ st => let ⟨o, ho, _⟩ := st.2.1; ⟨o, ho⟩, fun _ _ _ st same => ⟨st.1, st.2.1.at fun o g => same it 'c' o g, st.2.2.at fun o g => same l 'c' o g⟩,
   fun k s Q E hk st => absurd st.1 'b', fun s Q E st fin => wpAny_nextOf_list_end calm st.2.1 st.2.2 none fin⟩
noncomputable def Ite1 (l : Addr) : It :=
  ⟨fun i H => ∃ xs x, H l = some (.lst xs) /\ xs[i]? = some x,
   fun i H v H' => ∃ t xs x, H l = some (.lst xs) /\ xs[i]? = some x /\ H t = none /\ v = .ref t /\ H' = A0 H t (.tup [.int (i+1 : Nat), x]),
   fun i H => ∃ xs, H l = some (.lst xs) /\ xs.length <= i⟩
theorem aie{P:Program}{w:World}{pos:Pos}(e it l:Addr)(G7:e≠it) :
  Turn P w K (.Tuple elts x1 pos) (Ite1 l) [e,it] e (fun i h=>(∃ old,IsEnum h e it ((i+1:Nat):Int) old)/\h.IsListIter it l i) where
 mem:=by simp
 obj:=fun i h ⟨⟨old,he⟩,hi⟩ c hc=>by
  have q:c=e\/c=it:=by simpa using hc
  rcases q with rfl | rfl
  .exact ⟨_,he,fun v q=>by cases q⟩
  .obtain ⟨o,e,c,d⟩:=hi;exact ⟨o,e,fun v z=>by rw [d] at z;cases z⟩
 keep:=fun i h h' ⟨⟨old,he⟩,hi⟩ k=>⟨⟨old,k e 'c' _ he⟩,hi.at fun o q=>k it 'c' o q⟩
 item:=by
  intro X hP hw hK hc i pins s Y H E I hf ⟨⟨old,he⟩,hi⟩ hg;subst hP hw hK;obtain ⟨xs,x,e1,hx⟩:=hg;obtain ⟨its1,b9,p1,_⟩:=I.list (D6.of (K:=X.K) e1);obtain ⟨u1,C9,r1⟩:=b9.get hx;have C7:i<its1.length:=(F8.mp C9).1;obtain ⟨ol,gl,cl,_⟩:=p1.isList;have nli:l≠it:=fun q=>by
   obtain ⟨oi,gi,ci,_⟩:=hi;rw [q,gi] at gl
   cases gl
   rw [ci] at cl;exact absurd cl 'g'
  have nle:e≠l:=fun q=>by
   rw [<- q,he] at gl
   cases gl
   exact absurd (show Value.type "enumerate"=Value.type "list" from cl) 'g'
  refine wpAny_pyNext_enum_itemD (i:=i+1) (aqT (A:=X.A.in1) (show X.A.in1.handled=none from I.ok.hd hc) nli its1.toArray) he ⟨by lia,by simpa using hi,p1.isList⟩ (by simp;lia) G7 (by simp [G7,nle]) fun y h' tk py b1 b2 b3 b4 b5=>?_
  obtain rfl:u1=y:=by
   have:=py.2
   simp [C9] at this;exact this
  refine ⟨_,rfl,wpAny_letOwnedTupleGo_enum b1 fun h2' c1 c2=>?_⟩;have W0:e<s.heap.objs.size:=Heap.lt_size he;have up:∀ c o,c≠e->h'.get? c=some o->h2'.get? c=some o:=fun c o hc q=>(c2.2 c hc).trans q
  have hT:=up _ _ (q9 W0) b3;have nT:∀ c∈[e,it],c≠s.heap.objs.size:=fun c hc=>by
   have q:c=e\/c=it:=by simpa using hc
   refine J4 ?_
   rcases q with rfl | rfl
   .exact W0
   .obtain ⟨o,q,_⟩:=hi;exact Heap.lt_size q
  refine ⟨.ref s.heap.objs.size,A0 H s.heap.objs.size (.tup [.int (i+1:Nat),x]),I.turnNew (t':=tk+1) (ch:=[e,it]) hf (fun c u hc q=>?_) (C3 _) ⟨by show 2<=sizeLine;decide,[.int (i+1:Nat) tk,u1],.cons ⟨_,rfl⟩ (.cons r1 .nil),?_⟩,rfl,⟨_,xs,x,e1,hx,I.fresh,rfl,rfl⟩,
   ⟨⟨_,c1⟩,(show h'.IsListIter it l (i+1) by simpa using b2.2.1).at fun o q=>up _ o G7.symm q⟩,fun c hc=>by rw [A4 (nT c hc)];exact (hf c hc).1⟩
  .have q1:c≠e/\c≠it:=⟨fun q=>hc (by simp [q]),fun q=>hc (by simp [q])⟩
   exact up c u q1.1 (b5 c u q1.1 q1.2 q)
  .exact ⟨_,hT,rfl,_,rfl⟩
 done:=by
  intro X hP hw hK hc i pins s Y H E I hf ⟨⟨old,he⟩,hi⟩ hg;subst hP hw hK;obtain ⟨xs,e1,fP⟩:=hg;obtain ⟨its1,b9,p1,_⟩:=I.list (D6.of (K:=X.K) e1);have q1:=b9.length;obtain ⟨f0,f1,f2,f3,f4,f5⟩:=hf it 'c';exact wpAny_pyNext_enum_endD (aqU (A:=X.A.in1) (show X.A.in1.handled=none from I.ok.hd hc) (ys:=its1.toArray) (i:=i) (by simp;lia)) he ⟨rfl,hi,p1.isList⟩ fun h' eb=>⟨rfl,I.turned (t':=s.toks) (fun b o hb q=>eb b o hb q) f0 f1 f3 f4 f5⟩
 self:=fun _ _ _ _ _ st h=>by
  obtain ⟨⟨old,he⟩,_⟩:=st;exact wpAny_pyIter_enum he h
theorem ajp:bootBuiltins "enumerate"=some (.type "enumerate"):=by decide +kernel
section
variable {X:Cx}
noncomputable def tH (ta:TA):TI:=fun Y H R=>ta Y H fun vs H1=>∃ (l:Addr) (xs:List V),vs=[.ref l]/\H1 l=some (.lst xs)/\R (Ite1 l) H1
theorem alj{a:Expr}{p pos:Pos}(hg:Gl X "enumerate")(hm:X.mg "enumerate"=none)(ha:PA X [a] ta)(h1:L6 a=false:=by rfl) :
  PI X (.Tuple elts x1 tpos) (.Call (.Name "enumerate" p) [a] [⟨some "start",.Constant (.int 1) ck cpos,kpos⟩] pos) (tH ta):=by
 intro pins s Y H R I h;refine wpAny_Call_Name_kw (cQ I hg hm ajp (PySem.W.callWith_of (P:=fun _=>True) ?_ (fun _ _=>⟨_,.inr (.inl rfl),PySem.W.Looks.of_pure rfl⟩) (PyProof.Rows.evalArgs_kw2 rfl (B3 (ha pos pins s Y H _ I h) fun us s1 ⟨vs,H1,I1,r1,q1⟩=>?_) (O7 h1))))
 .rw [O7 h1];rfl
 have kw:PK X [⟨some "start",.Constant (.int 1) ck cpos,kpos⟩] (tCons (tC (.int 1)) tNil):=amP yO ao1;refine B3 (kw pos pins s1 Y H1 (fun zs H2=>zs=[.int 1]/\H2=H1) I1 ⟨rfl,rfl⟩) fun ws s2 ⟨zs,H2,I2,rz,e1,e2⟩=>⟨trivial,?_⟩
 subst e1 e2;obtain ⟨l,xs,rfl,e1,q⟩:=q1;obtain ⟨u1,rfl,lW⟩:=vals1 r1
 cases lW
 obtain ⟨u2,rfl,wJ⟩:=vals1 rz;obtain ⟨t,rfl⟩:=wJ;obtain ⟨its1,b9,p1,_⟩:=I2.list (D6.of (K:=X.K) e1);refine adR p1.isList 'g' fun h' z1 z2 z4=>wpAny_pyIter_enum z1 ?_
 refine ⟨s2.heap.objs.size+1,[s2.heap.objs.size+1,s2.heap.objs.size],_,_,H2,rfl,I2.kept (t':=s2.toks) z4,aie _ s2.heap.objs.size l (n5 'b'),⟨⟨_,z1⟩,z2⟩,fun b hb=>?_,q⟩;have P0:s2.heap.objs.size<=b:=by
  have e:b=s2.heap.objs.size+1\/b=s2.heap.objs.size:=by simpa using hb
  rcases e with rfl | rfl
  .exact cM _ _
  .exact C3 _
 exact I2.fpOk P0 (I2.hok.fresh P0)
theorem alk{a:Expr}{p pos:Pos}(hm:X.mg "enumerate"=none)(ha:QA X [a] ta)(hg:Gl X "enumerate":=by rfl)(h1:L6 a=false:=by rfl) :
  QI X (.Tuple elts x1 tpos) (.Call (.Name "enumerate" p) [a] [⟨some "start",.Constant (.int 1) ck cpos,kpos⟩] pos) (tH ta):=⟨alj hg hm ha.out h1⟩
end
theorem ajr{R:It->Hp->Prop} : tH ta Y H R=ta Y H fun vs H1=>∃ (l:Addr) (xs:List V),vs=[.ref l]/\H1 l=some (.lst xs)/\R (Ite1 l) H1:=rfl
theorem forE1{l:Addr}(Pv:Nat->St->Hp->Prop)(h0:Pv 0 Y H)(hl:∀ i Y H,Pv i Y H->H l=some (.lst xs))(hs:∀ i x t Y H,xs[i]?=some x->Pv i Y H->H t=none->g (.ref t) Y (A0 H t (.tup [.int (i+1:Nat),x])) fun σ2 H2=>tb { D with nx:=Pv (i+1),ct:=Pv (i+1),bk:=D.nx } σ2 H2)(hd:∀ Y H,Pv xs.length Y H->D.nx Y H):ForIt (Ite1 l) g tb D Y H:=by
 refine ⟨fun i m Y H=>m=xs.length-i/\i<=xs.length/\Pv i Y H,⟨xs.length,by simp,J0 _,h0⟩,?_⟩;rintro i m Y H ⟨rfl,hi,p⟩;have e1:=hl i Y H p
 by_cases C7:i<xs.length
 .refine .inr ⟨⟨xs,xs[i],e1,by simp⟩,Pv (i+1),fun σ' H' p'=>⟨_,by lia,rfl,C7,p'⟩,fun v H' y=>?_⟩;obtain ⟨t,xs',x,f1,hx,ht,rfl,rfl⟩:=y;rw [e1] at f1;cases f1;exact hs i x t Y H hx p ht
 .have e:i=xs.length:=by lia
  subst e;exact .inl ⟨⟨xs,e1,by lia⟩,hd Y H p⟩
end L2
namespace L2
open PySem PySem.Spec PyProof.Rows
noncomputable def tI:V->List V->Hp->VK->Prop:=fun x vs H Q=>∃ (l:Addr) (zs:List Str) (z:Str),x=.ref l/\vs=[.str z]/\H l=some (.lst (zs.map V.str))/\z∈zs/\Q (.int (zs.idxOf z:Nat)) H
theorem ajs : gZ X "list.index" tI:=by
 intro pins s Y H x vs v us Q I rx rv h;obtain ⟨l,zs,zz,rfl,rfl,hH,hm,q⟩:=h
 cases rx
 obtain ⟨u,rfl,ru⟩:=rv.one;obtain ⟨t,rfl⟩:=ru;obtain ⟨z,its,n,r,hl,e⟩:=I.lstM hH;have sa:=oM r;have hj:zs.idxOf zz<zs.length:=dZ.mpr hm;rw [A3] at hl z;have N0:∀ (j:Nat) (hj:j<its.toArray.size),∃ y t',zs[j]?=some y/\its.toArray[j]=.str y t':=fun j jH=>by
  have i5:j<zs.length:=by rw [hl];simpa using jH
  obtain ⟨t',ht⟩:=aex sa (j:=j) (z:=zs[j]) 'c';refine ⟨zs[j],t',by simp,?_⟩
  have:=(F8.mp ht).2
  simpa using this
 have hsz:zs.idxOf zz<its.toArray.size:=by rw [K3,<- hl];exact hj
 rw [sizeLine_eq] at z;refine call_meets F.slot_list_index ⟨_,e,rfl⟩ F.entry_list_index (F.args_list_index_2 _ _)
  (MeetsSeq.list_index l its.toArray n (.str zz t) (isStrOf zz) (fun y hy=>eq_isStrOf zz t sa y (by simpa using hy)) (zs.idxOf zz) hsz 'b' ?_ (fun m wK C7=>?_)) ⟨e,?_⟩
 .obtain ⟨y,t',h1,h2⟩:=N0 _ hsz;rw [h2]
  have:y=zz:=by
   have:=kA hj
   rw [E9 hj,this] at h1;exact (Option.some.inj h1).symm
  subst this;simp [isStrOf]
 .obtain ⟨y,t',h1,h2⟩:=N0 _ wK;rw [h2]
  have:y≠zz:=fun q=>by
   obtain ⟨h3,h4⟩:=F8.mp h1
   have:=List.not_of_lt_findIdx (show m<zs.findIdx (· == zz) from C7)
   rw [h4] at this;simp [q] at this
  simp [isStrOf,this]
 .exact ⟨.int (zs.idxOf zz:Nat),H,I.tok _,⟨_,rfl⟩,q⟩
theorem ahn : QMt X "list.index" tI:=⟨fun pins s Y H x xs v us Q I rx rv h=>ajs pins s Y H x xs v us Q I rx rv h⟩
theorem idxOk{l:Addr}(h:H l=some (.lst (zs.map V.str)))(hm:z∈zs)(q:Q (.int (zs.idxOf z:Nat)) H):tI (.ref l) [.str z] H Q:=⟨l,zs,z,rfl,rfl,h,hm,q⟩
noncomputable def tJ:V->List V->Hp->VK->Prop:=fun x vs H Q=>∃ (l:Addr) (zs:List Int) (z:Int),x=.ref l/\vs=[.int z]/\H l=some (.lst (zs.map V.int))/\z∈zs/\Q .non (A0 H l (.lst ((zs.erase z).map V.int)))
theorem aeA:∀ {vs:List Value} {zs:List Int},IntsAre vs zs->∀ {j:Nat} {z:Int},zs[j]?=some z->∃ t,vs[j]?=some (.int z t)
 | _,_,.nil,_,_,h=>by simp at h
 | _,_,.cons _ _ _,0,_,h=>by simp at h;subst h;exact ⟨_,rfl⟩
 | _,_,.cons _ _ r,j+1,z,h=>by
  obtain ⟨t,q⟩:=aeA r (j:=j) (z:=z) (by simpa using h);exact ⟨t,by simpa using q⟩
theorem aif : gZ X "list.remove" tJ:=by
 intro pins s Y H x vs v us Q I rx rv h;obtain ⟨l,zs,zz,rfl,rfl,hH,hm,q⟩:=h
 cases rx
 obtain ⟨u,rfl,ru⟩:=rv.one;obtain ⟨t,rfl⟩:=ru;obtain ⟨z,its,n,r,hl,e⟩:=I.lstM hH;have sa:=rM r;have hj:zs.idxOf zz<zs.length:=dZ.mpr hm;rw [A3] at hl;have N0:∀ (j:Nat) (hj:j<its.toArray.size),∃ y t',zs[j]?=some y/\its.toArray[j]=.int y t':=fun j jH=>by
  have i5:j<zs.length:=by rw [hl];simpa using jH
  obtain ⟨t',ht⟩:=aeA sa (j:=j) (z:=zs[j]) 'c';refine ⟨zs[j],t',by simp,?_⟩
  have:=(F8.mp ht).2
  simpa using this
 have hsz:zs.idxOf zz<its.toArray.size:=by rw [K3,<- hl];exact hj
 refine call_meets F.slot_list_remove ⟨_,e,rfl⟩ F.entry_list_remove (F.args_list_remove_2 _ _)
  (MeetsSeq.list_remove l its.toArray n (.int zz t) (isInt zz) (fun y hy=>eq_isInt zz t sa y (by simpa using hy)) (zs.idxOf zz) hsz ?_ (fun m wK C7=>?_) (by rw [K3,<- hl];rw [A3] at z;exact z)) ⟨e,?_⟩
 .obtain ⟨y,t',h1,h2⟩:=N0 _ hsz;rw [h2]
  have:y=zz:=by
   have:=kA hj
   rw [E9 hj,this] at h1;exact (Option.some.inj h1).symm
  subst this;simp [isInt]
 .obtain ⟨y,t',h1,h2⟩:=N0 _ wK;rw [h2]
  have:y≠zz:=fun q=>by
   obtain ⟨h3,h4⟩:=F8.mp h1
   have:=List.not_of_lt_findIdx (show m<zs.findIdx (· == zz) from C7)
   rw [h4] at this;simp [q] at this
  simp [isInt,this]
 .refine ⟨.non,_,I.lset (its':=its.eraseIdx (zs.idxOf zz)) hH e ?_ ?_ ?_,rfl,q⟩
  .show its.toArray.eraseIdxIfInBounds (zs.idxOf zz)=_;rw [List.eraseIdxIfInBounds_toArray]
  .rw [List.erase_eq_eraseIdx_of_idxOf (l:=zs) (a:=zz) (w:=rfl),afO];exact r.eraseIdx _
  .rw [A3,dY hm];rw [A3] at z;lia
theorem ajt : QMt X "list.remove" tJ:=⟨fun pins s Y H x xs v us Q I rx rv h=>aif pins s Y H x xs v us Q I rx rv h⟩
theorem aqV{l:Addr}{zs:List Int}{z:Int}(h:H l=some (.lst (zs.map V.int)))(hm:z∈zs)(q:Q .non (A0 H l (.lst ((zs.erase z).map V.int)))):tJ (.ref l) [.int z] H Q:=⟨l,zs,z,rfl,rfl,h,hm,q⟩
theorem tK:bootBuiltins "sorted"=some (.builtin "sorted"):=by decide +kernel
noncomputable def rMinL:List V->Hp->VK->Prop:=fun xs H Q=>∃ (p:Addr) (ns:List Int),xs=[.ref p]/\H p=some (.lst (ns.map V.int))/\ns≠[]/\∀ M:Int,M∈ns->(∀ a∈ns,M<=a)->Q (.int M) H
theorem aju(hc:X.calm=true):CallR X (.builtin "min") rMinL:=by
 intro pins s Y H xs us Q I r h;obtain ⟨p,ns,rfl,hH,G7,q⟩:=h;obtain ⟨u,rfl,ru⟩:=vals1 r
 cases ru
 obtain ⟨z,its,n,rr,hl,e⟩:=I.lstM hH;have hi:=rM rr;have hL:s.heap.IsList p its.toArray:=⟨_,e,rfl,n,rfl⟩
 obtain ⟨ys,e2⟩:=hi.allInts.items;have dM:ns=ys.toList.map (·.1):=by rw [<- hi.numsOf,<- nums_intItems,<- e2]
 have hsz:0<ys.size:=by
  have h3:=List.length_pos_iff.mpr G7;rw [dM,A3,P3] at h3;exact h3
 rw [e2] at hL;refine min_intList (I.ok.hd hc) hL hsz fun v h' tk hv hk=>?_
 obtain ⟨t,rfl⟩:=intItems_at hv;obtain ⟨h1,h2⟩:=argBest_lt (numAt ys) (ys.size-1);refine ⟨.int _,H,I.kept hk,⟨t,rfl⟩,q _ ?_ fun a ha=>?_⟩
 .rw [dM,numAt_eq];exact getD_mem (by rw [A3,P3];lia)
 .rw [dM] at ha;obtain ⟨j,hj,rfl⟩:=mem_getD ha;rw [A3,P3] at hj;rw [<- numAt_eq];exact h2 j 'b'
theorem aqW(hc:X.calm=calm:=by rfl):QCall X (.builtin "min") (rCalm calm rMinL):=⟨fun pins s Y H xs us Q I r h=>aju (hc.trans h.1) pins s Y H xs us Q I r h.2⟩
theorem aqX : rMinL [.ref p] H Q=∃ ns:List Int,H p=some (.lst (ns.map V.int))/\ns≠[]/\∀ M:Int,M∈ns->(∀ a∈ns,M<=a)->Q (.int M) H:=
 propext ⟨fun ⟨_,ns,e,h⟩=>(by cases e;exact ⟨ns,h⟩),fun ⟨ns,h⟩=>⟨p,ns,rfl,h⟩⟩
noncomputable def iK (n:Nat) (fr:St) (Pv:Nat->List V->Hp->Prop) (i:Nat) (ys:List V) (σ2:St) (H2:Hp):Prop:=i<=n/\ys.length<=i/\(∃ v w,σ2=v::w::fr)/\Pv i ys H2
theorem iK.put{fr:St}{Pv:Nat->List V->Hp->Prop}{o o2:Option V}(hi:i<n)(hy:ys.length<=i)(p:Pv (i+1) (ys++[y]) H):iK n fr Pv (i+1) (ys++[y]) (o::o2::fr) H:=
 ⟨hi,by rw [D4,eA];lia,⟨_,_,rfl⟩,p⟩
theorem compE{l:Addr}(fr:St)(Q1:compStart 2 ixs Y=none::none::fr)(Pv:Addr->Nat->List V->Hp->Prop)(h0:∀ D,H1 D=none->Pv D 0 [] (A0 H1 D (.lst [])))(hl:∀ D i ys H,H1 D=none->i<=xs.length->Pv D i ys H->H l=some (.lst xs))(hs:∀ D i x t ys H,H1 D=none->i<xs.length->xs[i]?=some x->Pv D i ys H->H D=some (.lst ys)->ys.length<=i->H t=none->c (some (.int i)::some x::fr) (A0 H t (.tup [.int i,x])) fun b H4=>
   if b=true then te (some (.int i)::some x::fr) H4 fun y H5=>H5 D=some (.lst ys)/\ys.length<sizeLine/\iK xs.length fr (Pv D) (i+1) (ys++[y]) (some (.int i)::some x::fr) (A0 H5 D (.lst (ys++[y])))
   else H4 D=some (.lst ys)/\iK xs.length fr (Pv D) (i+1) ys (some (.int i)::some x::fr) H4)(hd:∀ D ys H,H1 D=none->Pv D xs.length ys H->H D=some (.lst ys)->ys.length<=xs.length->Q (.ref D) H):iD (iH l) 2 ixs (gTup K 2 (gCons (gName 0) (gCons (gName 1) gNil))) c te Y Q H1:=by
 intro D hD;refine ⟨xs.length,iK xs.length fr (Pv D),⟨J0 _,J0 _,⟨none,none,Q1⟩,h0 D hD⟩,?_⟩;rintro i ys σ2 H2 ⟨hi,hy,⟨v,w,rfl⟩,p⟩ hDy;have q:=hl D i ys H2 hD hi p
 by_cases C7:i<xs.length
 .refine .inr ⟨C7,⟨xs,xs[i],q,by simp [C7]⟩,fun x H' y=>?_⟩;obtain ⟨t,xs',x',f1,hx,ht,rfl,rfl⟩:=y;rw [q] at f1;cases f1;exact ⟨t,_,rfl,D1.of A1,rfl,_,_,rfl,_,_,rfl,rfl,hs D i x' t ys H2 hD C7 hx p hDy hy ht⟩
 .have e:i=xs.length:=by lia
  subst e;exact .inl ⟨⟨xs,q,C3 _⟩,hd D ys H2 hD p hDy hy⟩
section
variable {X:Cx} {o e:Expr} {apos cpos:Pos} {td ty:TE}
theorem alm(ho:QE X o td)(he:QE X e ty)(h1:L6 e=false:=by rfl)(D9:attributeBase o "pop" X.env (eval o X.env)=eval o X.env:=by rfl)(E7:(apos.endLine==cpos.line)=true:=by rfl):QE X (.Call (.Attribute o "pop" apos) [e] [] cpos) (rY td ty):=
 ⟨akH ho.out he.out ⟨D9,by rw [O7 h1];rfl,E7,by rw [O7 h1];rfl⟩⟩
theorem aln : rY td ty Y H Q=td Y H fun x H1=>∃ a,x=.ref a/\bC H1 a/\ty Y H1 fun y H2=>∃ kvs k v,H2 a=some (.dK kvs)/\y=kV k/\valV kvs k=some v/\Q v (A0 H2 a (.dK (dropK kvs k))):=rfl
end
noncomputable def FS (ts bad:List Str) (z:Str->Prop) (fr:List Int):Prop:=fr.Nodup/\∀ n:Int,n∈fr↔∃ (m:Nat) (q:Str),n=(m:Int)/\ts[m]?=some q/\q∉bad/\z q
theorem FS.nil(z:Str->Prop):FS [] [] z []:=⟨by simp,fun n=>by simp⟩
theorem FS.snoc{z:Str->Prop}(h:FS ts bad z fr)(hi:i=ts.length)(hb:q∉bad):(z q->FS (ts++[q]) bad z (fr++[(i:Int)]))/\(¬ z q->FS (ts++[q]) bad z fr):=by
 have L5:∀ (m:Nat) (x:Str),(ts++[q])[m]?=some x↔(ts[m]?=some x\/(m=i/\x=q)):=fun m x=>by
  rcases gJ m ts.length with hm | hm | hm
  .rw [jV hm]
   constructor
   .exact .inl
   .rintro (h | ⟨h,_⟩)
    .exact h
    .lia
  .subst hm;rw [jU (C3 _),Nat.sub_self]
   have:ts[ts.length]?=none:=by simp
   rw [this];simp [hi,eq_comm]
  .have h1:ts[m]?=none:=by simp;lia
   have h2:(ts++[q])[m]?=none:=by simp;lia
   rw [h1,h2]
   simp
   lia
 have u7:(i:Int)∉fr:=fun hm=>by
  obtain ⟨m,x,e,h1,_⟩:=(h.2 _).mp hm
  have:=(F8.mp h1).1
  lia
 refine ⟨fun hz=>⟨?_,fun n=>?_⟩,fun hz=>⟨h.1,fun n=>?_⟩⟩
 .rw [X8];refine ⟨h.1,by simp,fun x hx y hy e=>u7 ?_⟩;rw [<- D3.mp hy,<- e];exact hx
 .rw [D8,h.2,D3]
  constructor
  .rintro (⟨m,x,e,h1,h2,h3⟩ | rfl)
   .exact ⟨m,x,e,(L5 m x).mpr (.inl h1),h2,h3⟩
   .exact ⟨i,q,rfl,(L5 i q).mpr (.inr ⟨rfl,rfl⟩),hb,hz⟩
  .rintro ⟨m,x,e,h1,h2,h3⟩
   rcases (L5 m x).mp h1 with h1 | ⟨rfl,rfl⟩
   .exact .inl ⟨m,x,e,h1,h2,h3⟩
   .exact .inr e
 .rw [h.2]
  constructor
  .rintro ⟨m,x,e,h1,h2,h3⟩;exact ⟨m,x,e,(L5 m x).mpr (.inl h1),h2,h3⟩
  .rintro ⟨m,x,e,h1,h2,h3⟩
   rcases (L5 m x).mp h1 with h1 | ⟨rfl,rfl⟩
   .exact ⟨m,x,e,h1,h2,h3⟩
   .exact absurd h3 hz
theorem aho(nd:ts.Nodup)(h1:ts[i]?=some q)(h2:ts[j]?=some q):i=j:=by
 obtain ⟨a1,b1⟩:=F8.mp h1;obtain ⟨a2,b2⟩:=F8.mp h2
 have:=W3.mp nd
 rw [dX] at this
 rcases gJ i j with hl | hl | hl
 .exact absurd (b1.trans b2.symm) (this i j a1 a2 hl)
 .exact hl
 .exact absurd (b2.trans b1.symm) (this j i a2 a1 hl)
theorem FS.take{z:Str->Prop}(nd:ts.Nodup)(h:FS ts bad z fr){M:Nat}{p:Str}(hp:ts[M]?=some p):FS ts (bad++[p]) z (fr.erase (M:Int)):=by
 refine ⟨h.1.erase _,fun n=>?_⟩;rw [h.1.mem_erase_iff,h.2]
 constructor
 .rintro ⟨G7,m,x,e,h1,h2,h3⟩;refine ⟨m,x,e,h1,fun hm=>?_,h3⟩
  rcases D8.mp hm with hm | hm
  .exact h2 hm
  .rw [D3.mp hm] at h1;exact G7 (by rw [e,aho nd h1 hp])
 .rintro ⟨m,x,e,h1,h2,h3⟩;refine ⟨fun e2=>h2 ?_,m,x,e,h1,fun hm=>h2 (O6 _ hm),h3⟩
  have:m=M:=by lia
  subst this;rw [hp] at h1;cases h1
  simp
theorem FS.turn{z z':Str->Prop}(nd:ts.Nodup)(h:FS ts bad z fr){y:Str}(G7:∀ q,q≠y->(z' q↔z q))(hy:¬ z y)(hm:ts[m]?=some y)(hb:y∉bad):(z' y->FS ts bad z' (fr++[(m:Int)]))/\(¬ z' y->FS ts bad z' fr):=by
 have u7:(m:Int)∉fr:=fun h1=>by
  obtain ⟨k,x,e,h2,_,h3⟩:=(h.2 _).mp h1
  have:k=m:=by lia
  subst this;rw [hm] at h2;cases h2;exact hy h3
 have N6:∀ (k:Nat) (x:Str),ts[k]?=some x->x≠y\/(k=m/\x=y):=fun k x hk=>by
  by_cases e:x=y
  .subst e;exact .inr ⟨aho nd hk hm,rfl⟩
  .exact .inl e
 refine ⟨fun hz=>⟨?_,fun n=>?_⟩,fun hz=>⟨h.1,fun n=>?_⟩⟩
 .rw [X8];refine ⟨h.1,by simp,fun x hx w hw e=>u7 ?_⟩;rw [<- D3.mp hw,<- e];exact hx
 .rw [D8,h.2,D3]
  constructor
  .rintro (⟨k,x,e,h1,h2,h3⟩ | rfl)
   .rcases N6 k x h1 with c | ⟨_,rfl⟩
    .exact ⟨k,x,e,h1,h2,(G7 x c).mpr h3⟩
    .exact absurd h3 hy
   .exact ⟨m,y,rfl,hm,hb,hz⟩
  .rintro ⟨k,x,e,h1,h2,h3⟩
   rcases N6 k x h1 with c | ⟨rfl,rfl⟩
   .exact .inl ⟨k,x,e,h1,h2,(G7 x c).mp h3⟩
   .exact .inr e
 .rw [h.2]
  constructor
  .rintro ⟨k,x,e,h1,h2,h3⟩
   rcases N6 k x h1 with c | ⟨_,rfl⟩
   .exact ⟨k,x,e,h1,h2,(G7 x c).mpr h3⟩
   .exact absurd h3 hy
  .rintro ⟨k,x,e,h1,h2,h3⟩
   rcases N6 k x h1 with c | ⟨_,rfl⟩
   .exact ⟨k,x,e,h1,h2,(G7 x c).mp h3⟩
   .exact absurd h3 hz
theorem FS.congr{z z':Str->Prop}(h:FS ts bad z fr)(e:∀ q,z' q↔z q):FS ts bad z' fr:=⟨h.1,fun n=>by rw [h.2];exact ⟨fun ⟨m,x,a,b,c,d⟩=>⟨m,x,a,b,c,(e x).mpr d⟩,fun ⟨m,x,a,b,c,d⟩=>⟨m,x,a,b,c,(e x).mp d⟩⟩⟩
theorem agB{E:List 'h'}{line:List Str}(h:FS ts line (fun q=>G6 E line q=0) fr){M:Int}(hM:M∈fr)(v7:∀ a∈fr,M<=a):∃ (m:Nat) (p:Str),M=(m:Int)/\ts[m]?=some p/\nextP E ts line=some p:=by
 obtain ⟨m,p,e,h1,h2,h3⟩:=(h.2 M).mp hM;refine ⟨m,p,e,h1,?_⟩;rw [aey];obtain ⟨hm,rfl⟩:=F8.mp h1;have e1:ts=ts.take m++ts[m]::ts.drop (m+1):=by rw [<- nI hm,X7]
 generalize hP:(fun p=>!decide (p∈line)&&decide (∀ e∈E,e.2=p->e.1∈line))=P;have hp:P ts[m]=true:=by
  rw [<- hP];simp only [W4,cN,decide_eq_false_iff_not,decide_eq_true_eq];exact ⟨h2,cnt_zero.mp h3⟩
 have lZ:(ts.take m).find? P=none:=by
  rw [List.find?_eq_none];intro x hx hxP;obtain ⟨k,hk,rfl⟩:=p6.mp hx;rw [K6] at hk;rw [List.getElem_take,<- hP] at hxP;simp only [W4,cN,decide_eq_false_iff_not,decide_eq_true_eq] at hxP
  have:=v7 (k:Int) ((h.2 _).mpr ⟨k,ts[k],rfl,by simp,hxP.1,cnt_zero.mpr hxP.2⟩)
  lia
 conv=>lhs;rw [e1]
 rw [List.find?_append,lZ,x9,hp];rfl
theorem alo{E:List 'h'}{line:List Str}(r:R1 E ts line)(h:q∈line):G6 E line q=0:=by
 obtain ⟨pre,post,rfl⟩:=List.append_of_mem h
 have:=(kU (r pre q post rfl)).2.2
 rw [cnt_zero] at this ⊢
 intro e he h2;exact O6 _ (this e he h2)
theorem afU{f:Str->V} : ∀ {ts pre:List Str},(pre++ts).Nodup->g6 (A5 pre f) (A5 ts f)=A5 (pre++ts) f
 | [],pre,_=>by rw [K7];rfl
 | t::ts,pre,h=>by
  have ht:t∉pre:=fun hm=>(X8.mp h).2.2 t hm t K5 rfl
  show g6 (putK (A5 pre f) (Sum.inr t) (f t)) (A5 ts f)=_;rw [cZ _ ht,show A5 (pre++[t]) (fun x=>if x=t then f t else f x)=A5 (pre++[t]) f from P6 fun x _=>by
   by_cases e:x=t
   .rw [if_pos e,e]
   .rw [if_neg e]]
  rw [afU (pre:=pre++[t]) (by simpa using h)]
  simp
theorem aeB:∀ {l m:List Int},l.Nodup->(∀ x∈l,x∈m)->l.length<=m.length
 | [],_,_,_=>J0 _
 | x::l,m,nd,h=>by
  obtain ⟨n1,n2⟩:=Y0.mp nd;have hx:=h x K5
  have:=aeB (l:=l) (m:=m.erase x) n2 fun y hy=>(nN (fun e=>n1 (by rw [<- e];exact hy))).mpr (h y (L8 _ hy))
  rw [dY hx] at this;have i4:=jW hx;rw [G8];lia
theorem ahp{f:Str->V} : ∀ {qs:List Addr} {ts:List Str},Paired (fun q t=>H q=some (.tup [.str t,f t])) qs ts->Paired (fun q (kx:A7×V)=>D1 K H q [kV kx.1,kx.2]) qs (A5 ts f)
 | _,_,.nil=>.nil
 | _,_,.cons h t=>.cons (.of h) (ahp t)
theorem forRs{lo:Int}(Pv:Nat->St->Hp->Prop)(h0:Pv 0 Y H)(hs:∀ (P':Nat->St->Hp->Prop) (B':St->Hp->Prop),(∀ i Y H,Pv i Y H->P' i Y H)->∀ i Y H,i<n->Pv i Y H->g (.int (lo+i)) Y H fun σ2 H2=>tb { D with nx:=P' (i+1),ct:=P' (i+1),bk:=B' } σ2 H2)(hd:∀ Y H,Pv n Y H->D.nx Y H):ForIt (r8 lo n) g tb D Y H:=forR Pv h0 (hs Pv _ fun _ _ _ h=>h) hd
theorem forLs(Pv:Nat->St->Hp->Prop)(h0:Pv 0 Y H)(hl:∀ i Y H,i<=xs.length->Pv i Y H->D6 K H a xs)(hs:∀ (P':Nat->St->Hp->Prop) (B':St->Hp->Prop),(∀ i Y H,Pv i Y H->P' i Y H)->∀ i x Y H,xs[i]?=some x->Pv i Y H->g x Y H fun σ2 H2=>tb { D with nx:=P' (i+1),ct:=P' (i+1),bk:=B' } σ2 H2)(hd:∀ Y H,Pv xs.length Y H->D.nx Y H):ForIt (aY K a) g tb D Y H:=forL Pv h0 hl (hs Pv _ fun _ _ _ h=>h) hd
theorem midS{t u:TS}(M:St->Hp->Prop)(h:∀ M':St->Hp->Prop,(∀ Y H,M Y H->M' Y H)->t { D with nx:=M' } Y H)(h2:∀ σ' H',M σ' H'->u D σ' H'):tSeqM t u D Y H:=⟨M,h M fun _ _ h=>h,h2⟩
noncomputable def tL:Sp:=fun vs H Q _=>∃ (a:Addr) (rs:List Addr) (zss:List (List Str)),vs=[.ref a]/\IsRows H a rs zss/\zss.flatten.length<=100000/\
 ∀ l H',H l=none->Same H H'->H' l=some (.lst ((toldL zss).map V.str))->Q (.ref l) H'
noncomputable def tM:Sp:=fun vs H Q _=>∃ c,vs=[.str ⟨#[c]⟩]/\Q (.bl (figO c)) H
noncomputable def M7 (R:List Rl):List (Str×List Str):=R.filterMap fun z=>if z.1=("great" : Str) then z.2.head?.map fun y=>(y,z.2.drop 1) else none
noncomputable def D7 (R:List Rl):List Str:=M5 [] ((M7 R).map (·.1))
noncomputable def F6 (R:List Rl) (y:Str):List Str:=((M7 R).filter fun e=>decide (e.1=y)).flatMap (·.2)
theorem oV(A B:List Rl):M7 (A++B)=M7 A++M7 B:=by
 unfold M7;rw [List.filterMap_append]
theorem tN{R:List Rl}{z:Rl}(h:R[i]?=some z):M7 (R.take (i+1))=M7 (R.take i)++M7 [z]:=by
 rw [J9 h,oV]
theorem oW{z:Rl}(h:z.1≠("great" : Str)):M7 [z]=[]:=by
 unfold M7;rw [aR,if_neg h];rfl
theorem tO{y:Str}{fs:List Str} : M7 [(("great" : Str),y::fs)]=[(y,fs)]:=by
 unfold M7;rw [aR,if_pos rfl];rfl
theorem tP{A:List Rl}{y:Str}{fs:List Str}(x:Str):F6 (A++[(("great" : Str),y::fs)]) x=if x=y then F6 A x++fs else F6 A x:=by
 unfold F6;rw [oV,tO,f6,e9]
 by_cases h:x=y
 .subst h;simp
 .have:¬ (y=x):=fun e=>h e.symm
  simp [this,h]
theorem oX{A:List Rl}{y:Str}{fs:List Str} : D7 (A++[(("great" : Str),y::fs)])=dd (D7 A) y:=by
 unfold D7 M5;rw [oV,tO,E2,cG];rfl
noncomputable def ahq (K:PySem.W.Frag):Sp:=fun vs H Q _=>∃ (a:Addr) (ts:List Addr) (R:List Rl),vs=[.ref a]/\IsRules H a ts R/\(∀ z∈R,z.1=("great" : Str)->z.2≠[])/\R.length<=1000/\(∀ i y,(F6 (R.take i) y).length<=10000)/\
 ∀ d ad H',H d=none->Same H H'->H' d=some (.dK (A5 (D7 R) fun y=>.ref (ad y)))->DL H H' (D7 R) ad (F6 R)->Q (.ref d) H'
theorem tQ(xs:List V)(h:i<=j):cutV xs (some (i:Int)) (some (j:Int))=(xs.drop i).take (j-i):=by
 unfold cutV;rw [HT.sIx_nat,HT.sIx_nat]
 by_cases hi:i<=xs.length
 .rw [gK hi]
  by_cases hj:j<=xs.length
  .rw [gK hj]
  .rw [Nat.min_eq_right 'b',j1 (by rw [f7];exact C3 _),j1 (by rw [f7];lia)]
 .rw [Nat.min_eq_right (by lia:xs.length<=i),nK (C3 _),nK 'b',List.take_nil,List.take_nil]
noncomputable abbrev Tr:=Int×Int×Int
noncomputable def tupT (s:Tr):HO:=.tup [.int s.1,.int s.2.1,.int s.2.2]
structure StepAt(H:Hp)(r:Addr)(ss:List Tr):Prop where
 ex:∃ ts:List Addr,H r=some (.tup (ts.map V.ref))/\Paired (fun t s=>H t=some (tupT s)) ts ss
theorem StepAt.same{ss:List Tr}(h:StepAt H r ss)(S:Same H H'):StepAt H' r ss:=
 let ⟨ts,h1,h2⟩:=h.ex
 ⟨ts,S _ _ h1,j8 h2 fun _ _ e=>S _ _ e⟩
theorem StepAt.put{d:Addr}{ss:List Tr}{o o':HO}(h:StepAt H r ss)(hd:H d=some o')(hn:∀ xs,o'≠.tup xs):StepAt (A0 H d o) r ss:=by
 obtain ⟨ts,h1,h2⟩:=h.ex;refine ⟨ts,?_,j8 h2 fun t s e=>?_⟩
 .rw [A4 (fun e=>by rw [e,hd] at h1;exact hn _ (Option.some.inj h1))];exact h1
 .rw [A4 (fun q=>by rw [q,hd] at e;exact hn _ (Option.some.inj e))];exact e
theorem StepAt.one{t:Addr}{s:Tr}(h1:H r=some (.tup [.ref t]))(h2:H t=some (tupT s)):StepAt H r [s]:=⟨[t],h1,.cons h2 .nil⟩
noncomputable def IsMade (H:Hp) (d:Addr) (ks:List Str) (F:Str->List Tr):Prop:=∃ ad:Str->Addr,H d=some (.dK (A5 ks fun y=>.ref (ad y)))/\∀ y∈ks,StepAt H (ad y) (F y)
theorem IsMade.same{d:Addr}{F:Str->List Tr}(h:IsMade H d ks F)(S:Same H H'):IsMade H' d ks F:=
 let ⟨ad,h1,h2⟩:=h
 ⟨ad,S _ _ h1,fun y hy=>(h2 y hy).same S⟩
theorem IsMade.put{d:Addr}{F:Str->List Tr}{ad:Str->Addr}(h1:H d=some (.dK (A5 ks fun y=>.ref (ad y))))(h2:∀ y∈ks,StepAt H (ad y) (F y)){l:Str}(hp:StepAt H p (F l)) :
  IsMade (A0 H d (.dK (putK (A5 ks fun y=>.ref (ad y)) (Sum.inr l) (.ref p)))) d (dd ks l) F:=by
 refine ⟨fun y=>if y=l then p else ad y,?_,fun y hy=>?_⟩
 .rw [A1];have e:∀ t,(if t=l then V.ref p else V.ref (ad t))=V.ref (if t=l then p else ad t):=fun t=>by
   by_cases h:t=l
   .rw [if_pos h,if_pos h]
   .rw [if_neg h,if_neg h]
  unfold dd
  by_cases hl:l∈ks
  .rw [if_pos hl,kW _ hl];exact congrArg (fun x=>some (HO.dK x)) (P6 fun t _=>e t)
  .rw [if_neg hl,cZ _ hl];exact congrArg (fun x=>some (HO.dK x)) (P6 fun t _=>e t)
 .by_cases h:y=l
  .subst h;show StepAt _ (if y=y then p else ad y) _;rw [if_pos rfl];exact hp.put h1 (by intro xs e;cases e)
  .show StepAt _ (if y=l then p else ad y) _;rw [if_neg h];refine (h2 y ?_).put h1 (by intro xs e;cases e);unfold dd at hy
   by_cases hl:l∈ks
   .rw [if_pos hl] at hy;exact hy
   .rw [if_neg hl] at hy
    rcases D8.mp hy with q | q
    .exact q
    .exact absurd (D3.mp q) h
structure StI(H H2:Hp)(d:Addr)(P:List Str)(F:Str->List Tr):Prop where
 same:Same H H2
 made:IsMade H2 d (M5 [] P) F
theorem alp(P:List Str)(x:Str):M5 [] (P++[x])=dd (M5 [] P) x:=by
 unfold M5;rw [cG];rfl
theorem StI.putX{d:Addr}{P:List Str}{F:Str->List Tr}(nd:H d=none)(h:StI H H2 d P F)(hP:P.length<100000){l:Str}(hp:StepAt H2 p (F l)) :
  ∃ kvs o,H2 d=some (.dK kvs)/\DPut H2 d (V.str l) (V.ref p) (A0 H2 d o)/\StI H (A0 H2 d o) d (P++[l]) F:=by
 obtain ⟨ad,h1,h2⟩:=h.made;have hl:=kM P [];rw [T8,Nat.zero_add] at hl;refine ⟨_,_,h1,y8 (k:=Sum.inr l) h1 (by rw [Z3];exact K8 'b'),h.same.put nd,?_⟩;rw [alp];exact IsMade.put h1 h2 hp
theorem StI.put{d:Addr}{P:List Str}{F:Str->List Tr}(nd:H d=none)(h:StI H H2 d P F)(hP:P.length<100000){l:Str}(hp:StepAt H2 p (F l)) :
  ∃ x,DPut H2 d (V.str l) (V.ref p) x/\StI H x d (P++[l]) F:=
 let ⟨_,_,_,h1,h2⟩:=h.putX nd hP hp
 ⟨_,h1,h2⟩
theorem StI.more{d:Addr}{P:List Str}{F:Str->List Tr}(h:StI H H2 d P F)(S:Same H2 H3):StI H H3 d P F:=⟨h.same.trans S,h.made.same S⟩
theorem StI.frz{d:Addr}{P:List Str}{F:Str->List Tr}{o:HO}(h:StI H H2 d P F)(hf:H2 f=some (.dK kvs))(n:H f=none)(nf:f≠d):StI H (A0 H2 f o) d P F:=
 let ⟨ad,h1,h2⟩:=h.made
 ⟨h.same.put n,ad,by rw [A4 nf.symm];exact h1,fun y hy=>(h2 y hy).put hf (by intro xs e;cases e)⟩
theorem StI.thaw{d:Addr}{P:List Str}{F:Str->List Tr}{q:Obj}{o o':HO}(h:StI H H2 d P F)(hf:H2 f=some (.frz q o'))(n:H f=none)(nf:f≠d):StI H (A0 H2 f o) d P F:=
 let ⟨ad,h1,h2⟩:=h.made
 ⟨h.same.put n,ad,by rw [A4 nf.symm];exact h1,fun y hy=>(h2 y hy).put hf (by intro xs e;cases e)⟩
structure FoI(H H2:Hp)(d f:Addr)(o:Obj)(ts:List Str)(af:Str->Addr)(G:Str->List Str)(P:List Str)(F:Str->List Tr):Prop where
 frz:H2 f=some (.frz o (.dK (A5 ts fun y=>.ref (af y))))
 rows:∀ y∈ts,H2 (af y)=some (.lst ((G y).map V.str))
 st:StI H H2 d P F
theorem FoI.more{d:Addr}{o:Obj}{af:Str->Addr}{G:Str->List Str}{P:List Str}{F:Str->List Tr}(h:FoI H H2 d f o ts af G P F)(S:Same H2 H3):FoI H H3 d f o ts af G P F:=⟨S _ _ h.frz,fun y hy=>S _ _ (h.rows y hy),h.st.more S⟩
theorem FoI.put{d:Addr}{o:Obj}{af:Str->Addr}{G:Str->List Str}{P:List Str}{F:Str->List Tr}(nd:H d=none)(h:FoI H H2 d f o ts af G P F)(hP:P.length<100000){l:Str}(hp:StepAt H2 p (F l)) :
  ∃ x,DPut H2 d (V.str l) (V.ref p) x/\FoI H x d f o ts af G (P++[l]) F:=by
 obtain ⟨kvs,o',h0,h1,h2⟩:=h.st.putX nd hP hp;refine ⟨_,h1,?_,fun y hy=>?_,h2⟩
 .rw [A4 (fun e=>by have:=h.frz;rw [e,h0] at this;cases this)];exact h.frz
 .rw [A4 (fun e=>by have:=h.rows y hy;rw [e,h0] at this;cases this)];exact h.rows y hy
theorem StI.putL{d:Addr}{P:List Str}{F:Str->List Tr}{o:HO}(h:StI H H2 d P F)(hf:H2 f=some (.lst xs))(n:H f=none):StI H (A0 H2 f o) d P F:=
 let ⟨ad,h1,h2⟩:=h.made
 ⟨h.same.put n,ad,by rw [A4 (fun e=>by rw [e,hf] at h1;cases h1)];exact h1,fun y hy=>(h2 y hy).put hf (by intro xs e;cases e)⟩
structure AsI(H H7 H2:Hp)(d:Addr)(P:List Str)(F:Str->List Tr)(ts:List Addr)(ss:List Tr):Prop where
 st:StI H H2 d P F
 pr:Paired (fun t s=>H2 t=some (tupT s)) ts ss
 sm:Same H7 H2
theorem AsI.putL{H7:Hp}{d:Addr}{P:List Str}{F:Str->List Tr}{ts:List Addr}{ss:List Tr}{o:HO}(h:AsI H H7 H2 d P F ts ss)(hf:H2 f=some (.lst xs))(n:H f=none)(n7:H7 f=none):AsI H H7 (A0 H2 f o) d P F ts ss:=
 ⟨h.st.putL hf n,j8 h.pr fun t s e=>by rw [A4 (fun q=>by rw [q,hf] at e;cases e)];exact e,h.sm.put n7⟩
noncomputable def asKs (R:List Rl):List Str:=R.filterMap fun z=>if z.1=("as" : Str) then z.2.head? else none
theorem afV{R:List Rl}{z:Rl}(h:R[i]?=some z):asKs (R.take (i+1))=asKs (R.take i)++asKs [z]:=by
 rw [J9 h];unfold asKs;rw [List.filterMap_append]
theorem ajx{z:Rl}(h:z.1≠("as" : Str)):asKs [z]=[]:=by
 unfold asKs;rw [aR,if_neg h];rfl
theorem ahr{y:Str}{fs:List Str} : asKs [(("as" : Str),y::fs)]=[y]:=by
 unfold asKs;rw [aR,if_pos rfl];rfl
theorem alq(R:List Rl):(asKs R).length<=R.length:=List.length_filterMap_le _ _
structure Made(R:List Rl)(L M:List Str)(F:Str->List Tr):Prop where
 lt:∀ (i:Nat) y,L[i]?=some y->F y=[(2,(i:Int),0)]
 mr:∀ (i:Nat) y,M[i]?=some y->F y=[(0,(i:Int),0)]
 gl:∀ y∈D7 R,y∈L
 gr:∀ y∈D7 R,∀ (c:Nat) f,(F6 R y)[c]?=some f->F f=[(2,(L.idxOf y:Int),((c+1:Nat):Int))]
 ne:∀ z∈R,z.1=("as" : Str)\/z.1=("great" : Str)->z.2≠[]
 pt:∀ z∈R,z.1=("as" : Str)->∀ q∈z.2.drop 1,q∈L\/q∈M
 as:∀ z∈R,z.1=("as" : Str)->∀ p qs,z.2=p::qs->F p=qs.map fun q=>(F q).headD (0,0,0)
noncomputable def allKs (R:List Rl) (L M:List Str):List Str:=L++M++(D7 R).flatMap (F6 R)++asKs R
theorem Made.base{R:List Rl}{F:Str->List Tr}(m:Made R L M F)(h:q∈L\/q∈M):∃ s,F q=[s]:=by
 rcases h with h | h
 .obtain ⟨i,hi,e⟩:=p6.mp h;exact ⟨_,m.lt i q (by rw [E9 hi,e])⟩
 .obtain ⟨i,hi,e⟩:=p6.mp h;exact ⟨_,m.mr i q (by rw [E9 hi,e])⟩
theorem Made.letter{R:List Rl}{F:Str->List Tr}(m:Made R L M F)(h:q∈L):F q=[(2,(L.idxOf q:Int),0)]:=by
 have hi:=dZ.mpr h;exact m.lt (L.idxOf q) q (by rw [E9 hi,kA])
noncomputable def ahs (K:PySem.W.Frag):Sp:=fun vs H Q _=>∃ (a b c:Addr) (ts:List Addr) (R:List Rl) (L M:List Str) (F:Str->List Tr),vs=[.ref a,.ref b,.ref c]/\IsRules H a ts R/\Made R L M F/\H b=some (.lst (L.map V.str))/\H c=some (.lst (M.map V.str))/\(∀ z∈R,z.2.length<=1000)/\R.length<=1000/\(∀ i y,(F6 (R.take i) y).length<=10000)/\(allKs R L M).length<=50000/\
 ∀ d H',H d=none->Same H H'->IsMade H' d (M5 [] (allKs R L M)) F->Q (.ref d) H'
noncomputable def baseT (L M:List Str) (q:Str):Tr:=if q∈L then (2,(L.idxOf q:Int),0) else (0,(M.idxOf q:Int),0)
noncomputable def tR (L M:List Str) (R:List Rl):List (Str×List Tr):=R.filterMap fun z=>if z.1=("as" : Str) then z.2.head?.map fun p=>(p,(z.2.drop 1).map (baseT L M)) else none
noncomputable def putsL (R:List Rl) (L M:List Str):List (Str×List Tr):=
 (L.zipIdx.map fun e=>(e.1,[((2:Int),(e.2:Int),(0:Int))]))++(M.zipIdx.map fun e=>(e.1,[((0:Int),(e.2:Int),(0:Int))]))++((D7 R).flatMap fun y=>(F6 R y).zipIdx.map fun e=>(e.1,[((2:Int),(L.idxOf y:Int),((e.2+1:Nat):Int))]))++tR L M R
noncomputable def stepF (R:List Rl) (L M:List Str) (p:Str):List Tr:=((putsL R L M).lookup p).getD []
theorem ajz{p:Str}{s:List Tr} : ∀ {l:List (Str×List Tr)},(l.map (·.1)).Nodup->(p,s)∈l->l.lookup p=some s
 | [],_,h=>by cases h
 | (y,t)::l,nd,h=>by
  rw [J3,Y0] at nd;rw [List.lookup_cons]
  rcases F9.mp h with h | h
  .obtain ⟨rfl,rfl⟩:=Prod.mk.inj h
   simp
  .have:p≠y:=fun e=>nd.1 (D0.mpr ⟨_,h,e⟩)
   have e:(p==y)=false:=by simpa using this
   rw [e];exact ajz nd.2 h
theorem ajA(R:List Rl)(L M:List Str):(putsL R L M).map (·.1)=allKs R L M:=by
 have z:∀ (l:List Str) (f:Nat->List Tr),(l.zipIdx.map fun e=>(e.1,f e.2)).map (·.1)=l:=fun l f=>by
  rw [Q5];exact List.zipIdx_map_fst 0 l
 have a:(tR L M R).map (·.1)=asKs R:=by
  unfold tR asKs;rw [List.map_filterMap]
  congr 1
  funext z
  by_cases h:z.1=("as" : Str)
  .rw [if_pos h,if_pos h]
   cases z.2 <;> rfl
  .rw [if_neg h,if_neg h];rfl
 unfold putsL allKs;rw [E2,E2,E2,z L fun i=>[(2,(i:Int),0)],z M fun i=>[(0,(i:Int),0)],a,List.map_flatMap]
 congr 2
 congr 1
 funext y
 exact z (F6 R y) fun i=>[(2,(L.idxOf y:Int),((i+1:Nat):Int))]
theorem iL{R:List Rl}(nd:(allKs R L M).Nodup){p:Str}{s:List Tr}(h:(p,s)∈putsL R L M):stepF R L M p=s:=by
 unfold stepF;rw [ajz (by rw [ajA];exact nd) h];rfl
theorem anR{R:List Rl}(nd:(allKs R L M).Nodup)(gl:∀ y∈D7 R,y∈L)(ne:∀ z∈R,z.1=("as" : Str)\/z.1=("great" : Str)->z.2≠[])(pt:∀ z∈R,z.1=("as" : Str)->∀ q∈z.2.drop 1,q∈L\/q∈M):Made R L M (stepF R L M):=by
 have m1:∀ (i:Nat) y,L[i]?=some y->(y,[((2:Int),(i:Int),(0:Int))])∈putsL R L M:=fun i y h=>by
  refine O6 _ (O6 _ (O6 _ (D0.mpr ⟨(y,i),?_,rfl⟩)));rw [List.mem_zipIdx_iff_getElem?];exact h
 have m2:∀ (i:Nat) y,M[i]?=some y->(y,[((0:Int),(i:Int),(0:Int))])∈putsL R L M:=fun i y h=>by
  refine O6 _ (O6 _ (O5 _ (D0.mpr ⟨(y,i),?_,rfl⟩)));rw [List.mem_zipIdx_iff_getElem?];exact h
 have hb:∀ q,q∈L\/q∈M->stepF R L M q=[baseT L M q]:=fun q hq=>by
  unfold baseT
  by_cases h:q∈L
  .rw [if_pos h];have hi:=dZ.mpr h;exact iL nd (m1 (L.idxOf q) q (by rw [E9 hi,kA]))
  .rw [if_neg h];have hm:=hq.resolve_left h;have hi:=dZ.mpr hm;exact iL nd (m2 (M.idxOf q) q (by rw [E9 hi,kA]))
 refine ⟨fun i y h=>iL nd (m1 i y h),fun i y h=>iL nd (m2 i y h),gl,fun y hy c f h=>iL nd ?_,ne,pt,fun z hz e p qs ez=>?_⟩
 .refine O6 _ (O5 _ (U7.mpr ⟨y,hy,D0.mpr ⟨(f,c),?_,rfl⟩⟩));rw [List.mem_zipIdx_iff_getElem?];exact h
 .have:(p,qs.map (baseT L M))∈putsL R L M:=O5 _ (List.mem_filterMap.mpr ⟨z,hz,by rw [if_pos e,ez];rfl⟩)
  rw [iL nd this];refine aQ fun q hq=>?_
  rw [hb q (pt z hz e q (by rw [ez];exact hq))];rfl
theorem anS{fg:Bool}{g:Str->Str}{PL:List 'h'}(nc:NC fg g PL):PL.Pairwise fun a b=>a.1=b.1->b.2∈W8:=by
 rw [dX];intro i j hi hj fS e;refine (nc j PL[j].1 PL[j].2 (by rw [E9 hj])).2.1 ?_;rw [<- e];refine D0.mpr ⟨PL[i],?_,rfl⟩;rw [List.mem_take_iff_getElem];exact ⟨i,by lia,rfl⟩
theorem eV{fg:Bool}{g:Str->Str}{PL:List 'h'}(nc:NC fg g PL){p j:Str}(h:(p,j)∈PL):g p=j:=by
 obtain ⟨i,hi,e⟩:=p6.mp h;exact (nc i p j (by rw [E9 hi,e])).1.symm
theorem ajB{fg:Bool}{g:Str->Str}{PL:List 'h'}(nc:NC fg g PL){j:Str}(hj:j∉W8):((PL.filter fun e=>decide (e.2=j)).map (·.1)).Nodup:=by
 rw [W3,gE];refine List.Pairwise.imp_of_mem ?_ ((anS nc).filter _);intro a b _ hb h e
 have:=h e
 have jI:b.2=j:=by simpa using (N1.mp hb).2
 rw [jI] at this;exact hj this
theorem oY{w:Str}(h:eU w):(jobD w=("great" : Str)↔w="great")/\(jobD w=("as" : Str)↔w="as")/\(jobD w=("letter" : Str)↔w="row")/\(jobD w=("mark" : Str)↔w="marks")/\(jobD w=("over" : Str)↔w="over"):=by
 rcases h with rfl | rfl | rfl | rfl | rfl <;> decide +kernel
theorem afW{R:List Rl}{p j:Str} : (p,j)∈A9 R↔∃ z∈R,p∈K2 z/\jobD z.1=j:=by
 unfold A9;rw [U7]
 constructor
 .rintro ⟨z,hz,h⟩;obtain ⟨q,hq,e⟩:=D0.mp h;obtain ⟨rfl,rfl⟩:=Prod.mk.inj e;exact ⟨z,hz,hq,rfl⟩
 .rintro ⟨z,hz,hp,rfl⟩;exact ⟨z,hz,D0.mpr ⟨p,hp,rfl⟩⟩
theorem aeC(z:Rl)(R:List Rl):A9 (z::R)=((K2 z).map fun p=>(p,jobD z.1))++A9 R:=by
 unfold A9;rw [cI]
theorem eW{z:Rl} : (z.1=("great" : Str)->K2 z=z.2.drop 1)/\(z.1=("as" : Str)->K2 z=z.2.take 1)/\(z.1=("row" : Str)\/z.1=("marks" : Str)\/z.1=("over" : Str)->K2 z=z.2):=by
 unfold K2;refine ⟨fun h=>by rw [if_pos h],fun h=>?_,fun h=>?_⟩
 .rw [if_neg (by rw [h];decide +kernel),if_pos h]
 .rw [if_neg,if_neg,if_pos h]
  .rcases h with h | h | h <;> rw [h] <;> decide +kernel
  .rcases h with h | h | h <;> rw [h] <;> decide +kernel
theorem lB:∀ R:List Rl,((A9 R).filter fun e=>decide (e.2=("great" : Str))).map (·.1)=(M7 R).flatMap (·.2)
 | []=>rfl
 | z::R=>by
  rw [aeC,f6,E2,lB R];have e:M7 (z::R)=M7 [z]++M7 R:=oV [z] R;rw [e,e9]
  congr 1
  by_cases h:z.1=("great" : Str)
  .obtain ⟨w,ps⟩:=z;obtain rfl:w=("great" : Str):=h;rw [eW.1 rfl,List.filter_eq_self.mpr,Q5]
   .cases ps with
    | nil=>simp [M7]
    | cons y fs=>
     rw [tO];show List.map _ fs=_;simp [Function.comp_def]
   .intro a ha;obtain ⟨q,_,rfl⟩:=D0.mp ha;exact decide_eq_true (show jobD "great"=("great" : Str) by decide +kernel)
  .rw [oW h,cF.mpr]
   .rfl
   .intro a ha;obtain ⟨q,hq,rfl⟩:=D0.mp ha
    have:=(oY (lA hq)).1
    simp only [decide_eq_true_eq];exact fun e=>h (this.mp e)
theorem oZ:∀ R:List Rl,((A9 R).filter fun e=>decide (e.2=("as" : Str))).map (·.1)=asKs R
 | []=>rfl
 | z::R=>by
  rw [aeC,f6,E2,oZ R];have e:asKs (z::R)=asKs [z]++asKs R:=by unfold asKs;rw [<- List.filterMap_append];rfl
  rw [e]
  congr 1
  by_cases h:z.1=("as" : Str)
  .obtain ⟨w,ps⟩:=z;obtain rfl:w=("as" : Str):=h;rw [eW.2.1 rfl,List.filter_eq_self.mpr,Q5]
   .cases ps with
    | nil=>simp [asKs]
    | cons y fs=>
     rw [ahr];rfl
   .intro a ha;obtain ⟨q,_,rfl⟩:=D0.mp ha;exact decide_eq_true (show jobD "as"=("as" : Str) by decide +kernel)
  .rw [ajx h,cF.mpr]
   .rfl
   .intro a ha;obtain ⟨q,hq,rfl⟩:=D0.mp ha
    have:=(oY (lA hq)).2.1
    simp only [decide_eq_true_eq];exact fun e=>h (this.mp e)
theorem afX{R:List Rl}{w p:Str} : p∈(rowsW R w).flatten↔∃ z∈R,z.1=w/\p∈z.2:=by
 unfold rowsW;rw [cJ]
 constructor
 .rintro ⟨l,hl,hp⟩;obtain ⟨z,hz,rfl⟩:=D0.mp hl;obtain ⟨h1,h2⟩:=N1.mp hz;exact ⟨z,h1,by simpa using h2,hp⟩
 .rintro ⟨z,hz,e,hp⟩;exact ⟨z.2,D0.mpr ⟨z,N1.mpr ⟨hz,by simpa using e⟩,rfl⟩,hp⟩
theorem mem_letter{R:List Rl}{p:Str} : (p,("letter" : Str))∈A9 R↔p∈(rowsW R "row").flatten:=by
 rw [afW,afX]
 constructor
 .rintro ⟨z,hz,hp,e⟩
  have:=(oY (lA hp)).2.2.1.mp e
  exact ⟨z,hz,this,by rw [eW.2.2 (.inl this)] at hp;exact hp⟩
 .rintro ⟨z,hz,e,hp⟩;exact ⟨z,hz,by rw [eW.2.2 (.inl e)];exact hp,by rw [e];decide +kernel⟩
theorem mem_mark{R:List Rl}{p:Str} : (p,("mark" : Str))∈A9 R↔p∈(rowsW R "marks").flatten:=by
 rw [afW,afX]
 constructor
 .rintro ⟨z,hz,hp,e⟩
  have:=(oY (lA hp)).2.2.2.1.mp e
  exact ⟨z,hz,this,by rw [eW.2.2 (.inr (.inl this))] at hp;exact hp⟩
 .rintro ⟨z,hz,e,hp⟩;exact ⟨z,hz,by rw [eW.2.2 (.inr (.inl e))];exact hp,by rw [e];decide +kernel⟩
theorem ajC{zss:List (List Str)}{p:Str} : p∈toldL zss↔p∈zss.flatten:=by
 unfold toldL;rw [oG,dA]
 simp
theorem dD{R:List Rl}{w:Str}(h:W9 R w L){p:Str} : p∈L↔p∈(rowsW R w).flatten:=by
 rw [<- ajC];exact ⟨h.1.sub,h.2 p⟩
structure GoodR(g:Str->Str)(r1 r2:Str->Nat)(R:List Rl):Prop where
 len:R.length<=1000
 plen:(A9 R).length<=10000
 nc:NC (hasW R "figures") g (A9 R)
 nb:(" " : Str)∉(A9 R).map (·.1)
 zl:∀ z∈R,z.2.length<=1000
 ne:∀ z∈R,z.1=("as" : Str)\/z.1=("great" : Str)->z.2≠[]
 gl:∀ z∈R,z.1=("great" : Str)->∀ p∈z.2.take 1,(p,("letter" : Str))∈A9 R
 al:∀ z∈R,z.1=("as" : Str)->∀ p∈(z.2.drop 1).take 1,(p,("letter" : Str))∈A9 R
 am:∀ z∈R,z.1=("as" : Str)->∀ p∈z.2.drop 2,(p,("letter" : Str))∈A9 R\/(p,("mark" : Str))∈A9 R
 f1:(rowsW R "row").flatten.length<=10000
 f2:(rowsW R "marks").flatten.length<=10000
 a1:∀ e∈edges (rowsW R "row"),r1 e.1<r1 e.2
 a2:∀ e∈edges (rowsW R "marks"),r2 e.1<r2 e.2
theorem forms_mem{R:List Rl}{y f:Str} : f∈F6 R y↔∃ e∈M7 R,e.1=y/\f∈e.2:=by
 unfold F6;rw [U7]
 constructor
 .rintro ⟨e,he,hf⟩;obtain ⟨h1,h2⟩:=N1.mp he;exact ⟨e,h1,by simpa using h2,hf⟩
 .rintro ⟨e,he,h,hf⟩;exact ⟨e,N1.mpr ⟨he,by simpa using h⟩,hf⟩
theorem mem_formKs{R:List Rl}{y:Str} : y∈D7 R↔∃ e∈M7 R,e.1=y:=by
 unfold D7;rw [dA,D0]
 simp
theorem amp{g:Str->Str}{r1 r2:Str->Nat}{R:List Rl}(h:GoodR g r1 r2 R)(hL:W9 R "row" L)(hM:W9 R "marks" M):(allKs R L M).Nodup:=by
 have Z:((M7 R).flatMap (·.2)).Nodup:=by rw [<- lB];exact ajB h.nc 'e'
 have jl:∀ p∈L,g p="letter":=fun p hp=>eV h.nc (mem_letter.mpr ((dD hL).mp hp))
 have jm:∀ p∈M,g p="mark":=fun p hp=>eV h.nc (mem_mark.mpr ((dD hM).mp hp))
 have jf:∀ p∈(D7 R).flatMap (F6 R),g p="great":=fun p hp=>by
  obtain ⟨y,_,hp⟩:=U7.mp hp;obtain ⟨e,he,_,hf⟩:=forms_mem.mp hp
  have:p∈(M7 R).flatMap (·.2):=U7.mpr ⟨e,he,hf⟩
  rw [<- lB] at this;obtain ⟨⟨q,j⟩,hq,rfl⟩:=D0.mp this;obtain ⟨h1,h2⟩:=N1.mp hq;have h2:j=("great" : Str):=by simpa using h2
  subst h2;exact eV h.nc h1
 have ja:∀ p∈asKs R,g p="as":=fun p hp=>by
  rw [<- oZ] at hp;obtain ⟨⟨q,j⟩,hq,rfl⟩:=D0.mp hp;obtain ⟨h1,h2⟩:=N1.mp hq;have h2:j=("as" : Str):=by simpa using h2
  subst h2;exact eV h.nc h1
 have nf:((D7 R).flatMap (F6 R)).Nodup:=by
  rw [W3,List.pairwise_flatMap] at Z ⊢
  obtain ⟨z1,z2⟩:=Z;refine ⟨fun y _=>?_,?_⟩
  .unfold F6;rw [List.pairwise_flatMap];exact ⟨fun e he=>z1 e (N1.mp he).1,z2.filter _⟩
  .have nk:(D7 R).Nodup:=by unfold D7;exact sX 'c'
   refine List.Pairwise.imp ?_ (W3.mp nk);intro y y' hyy f hf f' wL e;subst e;obtain ⟨e1,h1,r1,f1⟩:=forms_mem.mp hf;obtain ⟨e2,h2,r2,f2⟩:=forms_mem.mp wL;obtain ⟨i,hi,q1⟩:=p6.mp h1;obtain ⟨j,hj,q2⟩:=p6.mp h2;rw [dX] at z2
   rcases gJ i j with c | c | c
   .exact z2 i j hi hj c f (by rw [q1];exact f1) f (by rw [q2];exact f2) rfl
   .subst c;exact hyy (by rw [<- r1,<- r2,<- q1,<- q2])
   .exact z2 j i hj hi c f (by rw [q2];exact f2) f (by rw [q1];exact f1) rfl
 have na:(asKs R).Nodup:=by rw [<- oZ];exact ajB h.nc 'e'
 have n1:("letter" : Str)≠"mark"/\("letter" : Str)≠"great"/\("letter" : Str)≠"as"/\("mark" : Str)≠"great"/\("mark" : Str)≠"as"/\("great" : Str)≠"as":=by decide +kernel
 unfold allKs;rw [X8,X8,X8];refine ⟨⟨⟨hL.1.nodup,hM.1.nodup,fun a ha b hb e=>?_⟩,nf,fun a ha b hb e=>?_⟩,na,fun a ha b hb e=>?_⟩
 .subst e;exact n1.1 ((jl a ha).symm.trans (jm a hb))
 .subst e
  rcases D8.mp ha with ha | ha
  .exact n1.2.1 ((jl a ha).symm.trans (jf a hb))
  .exact n1.2.2.2.1 ((jm a ha).symm.trans (jf a hb))
 .subst e
  rcases D8.mp ha with ha | ha
  .rcases D8.mp ha with ha | ha
   .exact n1.2.2.1 ((jl a ha).symm.trans (ja a hb))
   .exact n1.2.2.2.2.1 ((jm a ha).symm.trans (ja a hb))
  .exact n1.2.2.2.2.2 ((jf a ha).symm.trans (ja a hb))
theorem anT{g:Str->Str}{r1 r2:Str->Nat}{R:List Rl}(h:GoodR g r1 r2 R)(hL:W9 R "row" L)(hM:W9 R "marks" M):Made R L M (stepF R L M):=by
 refine anR (amp h hL hM) (fun y hy=>?_) h.ne fun z hz e q hq=>?_
 .obtain ⟨e,he,rfl⟩:=mem_formKs.mp hy;unfold M7 at he;obtain ⟨z,hz,hh⟩:=List.mem_filterMap.mp he
  by_cases hg:z.1=("great" : Str)
  .rw [if_pos hg] at hh;obtain ⟨w,ps⟩:=z
   cases ps with
   | nil=>cases hh
   | cons y fs=>
    have hh:=Option.some.inj hh;rw [<- hh];exact (dD hL).mpr (mem_letter.mp (h.gl _ hz hg y 'c'))
  .rw [if_neg hg] at hh;cases hh
 .rw [<- X7 1 (z.2.drop 1)] at hq
  rcases D8.mp hq with hq | hq
  .exact .inl ((dD hL).mpr (mem_letter.mp (h.al z hz e q hq)))
  .rw [List.drop_drop] at hq
   rcases h.am z hz e q hq with h1 | h1
   .exact .inl ((dD hL).mpr (mem_letter.mp h1))
   .exact .inr ((dD hM).mpr (mem_mark.mp h1))
theorem anU{g:Str->Str}{r1 r2:Str->Nat}{R:List Rl}(h:GoodR g r1 r2 R)(hL:W9 R "row" L)(hM:W9 R "marks" M):(allKs R L M).length<=10000:=by
 refine D5 ?_ h.plen
 have:=List.Nodup.length_le_of_subset (l₂:=(A9 R).map (·.1)) (amp h hL hM) fun p hp=>by
  unfold allKs at hp
  rcases D8.mp hp with hp | hp
  .rcases D8.mp hp with hp | hp
   .rcases D8.mp hp with hp | hp
    .exact D0.mpr ⟨_,mem_letter.mpr ((dD hL).mp hp),rfl⟩
    .exact D0.mpr ⟨_,mem_mark.mpr ((dD hM).mp hp),rfl⟩
   .obtain ⟨y,_,hp⟩:=U7.mp hp;obtain ⟨e,he,_,hf⟩:=forms_mem.mp hp
    have:p∈(M7 R).flatMap (·.2):=U7.mpr ⟨e,he,hf⟩
    rw [<- lB] at this;obtain ⟨q,hq,rfl⟩:=D0.mp this;exact D0.mpr ⟨q,(N1.mp hq).1,rfl⟩
  .rw [<- oZ] at hp;obtain ⟨q,hq,rfl⟩:=D0.mp hp;exact D0.mpr ⟨q,(N1.mp hq).1,rfl⟩
 rw [A3] at this;exact this
theorem ajD{g:Str->Str}{r1 r2:Str->Nat}{R:List Rl}(h:GoodR g r1 r2 R)(i:Nat)(y:Str):(F6 (R.take i) y).length<=10000:=by
 refine D5 ?_ h.plen;have h1:(F6 (R.take i) y).length<=((M7 (R.take i)).flatMap (·.2)).length:=by
  unfold F6;generalize M7 (R.take i)=E
  induction E with
  | nil=>exact C3 _
  | cons e E ih=>
   rw [List.filter_cons]
   split
   .rw [cI,cI,D4,D4];lia
   .rw [cI,D4];lia
 have h2:((M7 (R.take i)).flatMap (·.2)).length<=(A9 (R.take i)).length:=by
  rw [<- lB,A3];exact eB _ _
 obtain ⟨more,e⟩:=afR R i;rw [e,D4];lia
theorem IsMade.mod{d:Addr}{F:Str->List Tr}{o o':HO}(h:IsMade H d ks F)(ha:H a=some o')(hn:∀ xs,o'≠.tup xs)(nd:d≠a):IsMade (A0 H a o) d ks F:=
 let ⟨ad,h1,h2⟩:=h
 ⟨ad,by rw [A4 nd];exact h1,fun y hy=>(h2 y hy).put ha hn⟩
structure IsOrd(C:Addr)(H:Hp)(x j ll ml md:Addr)(g:Str->Str)(R:List Rl)(L M:List Str):Prop where
 ob:∃ dx,H x=some (.ins C dx (ordF (hasW R "figures") (hasW R "behind") j ll ml md))
 jobs:H j=some (.dK (A5 (keysP (A9 R)++T0 R) (jobG g)))
 lets:H ll=some (.lst (L.map V.str))
 mrks:H ml=some (.lst (M.map V.str))
 made:IsMade H md (M5 [] (allKs R L M)) (stepF R L M)
 l1:W9 R "row" L
 l2:W9 R "marks" M
theorem IsOrd.same{x j ll ml md:Addr}{g:Str->Str}{R:List Rl}(h:IsOrd C H x j ll ml md g R L M)(s:Same H H'):IsOrd C H' x j ll ml md g R L M:=
 ⟨let ⟨dx,e⟩:=h.ob;⟨dx,s _ _ e⟩,s _ _ h.jobs,s _ _ h.lets,s _ _ h.mrks,h.made.same s,h.l1,h.l2⟩
noncomputable def tS (C:Addr):Sp:=fun vs H Q _=>∃ (x j ll ml md:Addr) (g:Str->Str) (R:List Rl) (L M:List Str),vs=[.ref x]/\IsOrd C H x j ll ml md g R L M/\∀ l,H l=none->Q (.ref l) (A0 H l (.lst (L.map V.str)))
noncomputable def tT (C:Addr):Sp:=fun vs H Q _=>∃ (x j ll ml md:Addr) (g:Str->Str) (R:List Rl) (L M:List Str),vs=[.ref x]/\IsOrd C H x j ll ml md g R L M/\∀ l,H l=none->Q (.ref l) (A0 H l (.lst (M.map V.str)))
structure RulesAt(H0 H:Hp)(a:Addr)(ts:List Addr)(R:List Rl):Prop where
 rows:IsRules H a ts R
 nd:(a::ts).Nodup
 new:∀ r∈a::ts,H0 r=none
 same:Same H0 H
theorem RulesAt.live{R:List Rl}(h:RulesAt H0 H a rs R)(hr:r∈a::rs):∃ o,H r=some o:=by
 rcases F9.mp hr with h' | h'
 .subst h';exact ⟨_,h.rows.top⟩
 .obtain ⟨i,hi,rfl⟩:=p6.mp h';obtain ⟨zs,_,h2⟩:=Paired.at h.rows.row (i:=i) (a:=rs[i]) (by simp [hi]);exact ⟨_,h2⟩
theorem RulesAt.grow{q:Addr}{R:List Rl}(h:RulesAt H0 H a rs R)(S:Same H H')(hq:H q=none){z:Rl}(Y6:H' q=some (tupR z)):RulesAt H0 (A0 H' a (.lst (rs.map V.ref++[V.ref q]))) a (rs++[q]) (R++[z]):=by
 have nq:∀ r∈a::rs,r≠q:=fun r hr e=>by
  obtain ⟨o,e'⟩:=h.live hr;rw [e,hq] at e';cases e'
 obtain ⟨na,_⟩:=Y0.mp h.nd;refine ⟨⟨by rw [A1,E2];rfl,?_⟩,?_,?_,?_⟩
 .refine Paired.snoc (sI h.rows.row fun r hr zs h=>?_) ?_
  .rw [A4 (fun e:r=a=>na (by rw [<- e];exact hr))];exact S _ _ h
  .rw [A4 (nq a K5).symm];exact Y6
 .show (a::(rs++[q])).Nodup;exact rZ h.nd fun e=>nq q e rfl
 .intro r hr
  rcases F9.mp hr with e | e
  .exact h.new r (by rw [e];exact K5)
  .rcases D8.mp e with e | e
   .exact h.new r (L8 _ e)
   .rw [D3.mp e];exact h.same.free hq
 .exact (h.same.trans S).put (h.new a K5)
theorem n6(A B:List Rl):A9 (A++B)=A9 A++A9 B:=by
 unfold A9;rw [e9]
theorem tU{F:Addr->Rl->Prop}{l₂:List Rl}(h:Paired F zx l₂):∀ k,Paired F (zx.take k) (l₂.take k):=by
 induction h with
 | nil=>intro k;rw [List.take_nil,List.take_nil];exact .nil
 | cons h t ih=>intro k;cases k with
  | zero=>exact .nil
  | succ k=>exact .cons h (ih k)
theorem tV{F:Addr->Rl->Prop}{l₂:List Rl}(h:Paired F zx l₂):∀ k,Paired F (zx.drop k) (l₂.drop k):=by
 induction h with
 | nil=>intro k;rw [List.drop_nil,List.drop_nil];exact .nil
 | cons h t ih=>intro k;cases k with
  | zero=>exact .cons h t
  | succ k=>exact ih k
noncomputable def ruleD (z:Rl):PyData:=.tuple ((z.1::z.2).map .str)
theorem alr(z:Rl):Q7 (ruleD z) (ruleD z)=true:=by
 unfold ruleD;rw [Q7,oB]
 simp
theorem aig(z:Rl):(ruleD z).depth<=1:=by
 unfold ruleD;rw [PyData.depth,sH];decide
theorem adU:∀ R:List Rl,r0 (R.map ruleD)<=1
 | []=>J0 _
 | z::R=>by
  rw [J3,r0];have h1:=aig z;have h2:=adU R;lia
theorem adV : ∀ {rs:List Addr} {R:List Rl},Paired (fun r z=>H r=some (tupR z)) rs R->(∀ z∈R,∀ y∈z.1::z.2,P8 y=true)->DnAll K H (rs.map V.ref) (R.map ruleD)
 | _,_,.nil,_=>.nil
 | _,_,.cons h t,hz=>.cons (.tup (.of h) (eK (hz _ K5))) (adV t fun z wM=>hz z (L8 _ wM))
theorem aht{R:List Rl}(h:IsRules H a rs R)(hz:∀ z∈R,∀ y∈z.1::z.2,P8 y=true):Dn K H 'f' (.list (R.map ruleD)):=.lst (.of h.top) (adV h.row hz)
noncomputable def tW (ns:List Int) (k:Int) (p:Str):Prop:=∃ rest:List Nat,p.cps.toList=iI ns k::rest/\rest.length<=1/\∀ c∈rest,∃ m:Int,c=iI ns m
noncomputable def PcS (ns:List Int) (S:Int->Prop) (p:Str):Prop:=∃ k,S k/\tW ns k p
structure Dis(ns:List Int)(S:Int->Prop)(ps:List Str):Prop where
 nd:ps.Nodup
 pc:∀ p∈ps,PcS ns S p
 uq:∀ p∈ps,∀ q∈ps,∀ k:Int,20<=k->k<83->tW ns k p->tW ns k q->p=q
noncomputable def LetS (k:Int):Prop:=0<=k/\k<16
structure LetW(ns:List Int)(n:Int)(ps:List Str):Prop where
 n0:2<=n
 n1:n<=16
 all:∀ k:Int,0<=k->k<n->one (iI ns k)∈ps
 each:∀ p∈ps,∃ k:Int,0<=k/\k<n/\(p=one (iI ns k)\/∃ m:Int,0<=m/\m<n/\p=one (iI ns k)++one (iI ns m))
noncomputable def OthZ (ls ms:List Str) (z:Rl):Prop:=(z.1=("great" : Str)/\∃ l fs,z.2=l::fs/\l∈ls/\1<=fs.length/\fs.length<=2)\/(z.1=("as" : Str)/\∃ p q qs,z.2=p::q::qs/\q∈ls/\(∀ r∈qs,r∈ls\/r∈ms)/\qs.length<=2)\/(z.1=("over" : Str)/\z.2.length<=2)
noncomputable def GS (i:Nat) (k:Int):Prop:=(30<=k/\k<30+(i:Int))\/(34<=k/\k<34+(i:Int))
noncomputable def AS (i:Nat) (k:Int):Prop:=GS 3 k\/(40<=k/\k<40+(i:Int))
noncomputable def OS (k:Int):Prop:=AS 3 k\/(50<=k/\k<52)
structure AsR(ls ms:List Str)(H0 H:Hp)(t:Addr)(p:Str)(qs:List Str)(j:Nat):Prop where
 same:Same H0 H
 tup:H t=some (tupR ("as",p::qs))
 new:H0 t=none
 len:qs.length=j
 ok:∀ i q,qs[i]?=some q->q∈ls\/(0<i/\q∈ms)
noncomputable def MarkS (k:Int):Prop:=20<=k/\k<25
noncomputable def flagW (w:Str):Prop:=w=("figures" : Str)\/w=("behind" : Str)\/w=("blanks" : Str)
structure RulP(ns:List Int)(ls ms:List Str)(b:Bool)(n:Nat)(R:List Rl):Prop where
 dis:Dis ns (fun k=>LetS k\/OS k\/(b=true/\MarkS k)) ((A9 R).map (·.1))
 row:rowsW R "row"=[ls]
 mrk:rowsW R "marks"=if b=true then [ms] else []
 each:∀ z∈R,z=(("row" : Str),ls)\/(z=(("marks" : Str),ms)/\b=true)\/OthZ ls ms z\/(z.2=[]/\flagW z.1)
 len:R.length<=n
 fig:hasW R "figures"=true->tG ns=false
 oi:∀ z∈R,OthZ ls ms z->∀ p∈K2 z,PcS ns OS p
theorem afY(z:Rl):(K2 z).length<=z.2.length:=by
 unfold K2
 split
 .rw [f7];lia
 .split
  .rw [K6];lia
  .split
   .exact C3 _
   .exact J0 _
structure RulG(ns:List Int)(ls ms:List Str)(R:List Rl):Prop where
 p:∃ b,RulP ns ls ms b 12 R/\(b=false->ms=[])
 l0:2<=ls.length
 l1:ls.length<=19
 ld:Dis ns LetS ls
 lw:∃ n,LetW ns n ls
 m1:ms.length<=4
 md:Dis ns MarkS ms
noncomputable def spLaw (K:PySem.W.Frag):Sp:=fun vs H Q _=>∃ (a:Addr) (ns:List Int),vs=[.ref a]/\D6 K H a (ns.map V.int)/\ns.length<=63/\∀ H',Q (.bl true) H'
noncomputable def rInD (K:PySem.W.Frag) (x y:V) (H:Hp) (Q:VK):Prop:=∃ (d:PyData) (ds:List PyData),Dn K H x d/\Dn K H y (.list ds)/\min (r0 ds) d.depth<=60/\Q (.bl (ds.any fun e=>Q7 e d)) H
theorem aqY{x:V} : rInD K x y H Q=∃ (d:PyData) (ds:List PyData),Dn K H x d/\Dn K H y (.list ds)/\min (r0 ds) d.depth<=60/\Q (.bl (ds.any fun e=>Q7 e d)) H:=rfl
end L2
namespace L2
open PySem PySem.Spec PyProof.Rows
open PySem.Builtin PySem.Builtin.Str PySem.StrLaws
end L2
namespace L2
open PySem PySem.Spec PyProof.Rows
noncomputable abbrev pA:=Int×Int×List Int×Int
noncomputable def UnAt (H:Hp) (e:Addr×Addr) (u:pA):Prop:=H e.1=some (.tup [.int u.1,.int u.2.1,.ref e.2,.int u.2.2.2])/\H e.2=some (.lst (u.2.2.1.map V.int))
structure UnI(H0 H:Hp)(l:Addr)(es:List (Addr×Addr))(U:List pA):Prop where
 top:H l=some (.lst (es.map fun e=>V.ref e.1))
 row:Paired (UnAt H) es U
 nd:(l::es.map (·.2)).Nodup
 new:∀ a∈l::es.map (·.2),H0 a=none
 same:Same H0 H
end L2
variable {E PL pre:List (PySem.Str×PySem.Str)}{B R:List L2.Rl}{zss:List (List PySem.Str)}
namespace L2
open PySem PySem.Spec PyProof.Rows
structure StepL(H:Hp)(r:Addr)(ss:List Tr):Prop where
 ex:∃ ts:List Addr,H r=some (.lst (ts.map V.ref))/\Paired (fun t s=>H t=some (tupT s)) ts ss
noncomputable def IsMk (H:Hp) (d:Addr) (ks:List Str) (F:Str->List Tr):Prop:=∃ ad:Str->Addr,H d=some (.dK (A5 ks fun y=>.ref (ad y)))/\∀ y∈ks,StepL H (ad y) (F y)
structure MkI(H H2:Hp)(d:Addr)(P:List Str)(F:Str->List Tr):Prop where
 same:Same H H2
 made:IsMk H2 d (M5 [] P) F
theorem kH{t:Addr}(hT:D1 K H t xs)(q:∀ p H',Same H H'->D1 K H' p (xs.take 2)->Q (.ref p) H'):rSlR K t none (some 2) H Q:=by
 by_cases h:xs.length<=2
 .refine rSlR.w hT ⟨rfl,?_⟩ (q t H (Same.refl H) (by rw [j1 h];exact hT));rw [show ((2:Int))=((2:Nat):Int) from rfl,HT.sIx_nat];lia
 .refine rSlR.t hT (fun e=>?_) fun p np=>q p _ (Same.new np) (.of ?_)
  .have:=e.2
   rw [show ((2:Int))=((2:Nat):Int) from rfl,HT.sIx_nat] at this;lia
  .rw [A1,show cutV xs none (some 2)=_ from sR xs 2]
theorem als(xs ys:List Str):Q7 (.tuple (xs.map .str)) (.tuple (ys.map .str))=decide (xs=ys):=by rw [Q7,oB]
noncomputable def UnT (H:Hp) (e:Addr×Addr) (u:pA):Prop:=H e.1=some (.tup [.int u.1,.int u.2.1,.ref e.2,.int u.2.2.2])/\H e.2=some (.tup (u.2.2.1.map V.int))
structure UnJ(H0 H:Hp)(l:Addr)(es:List (Addr×Addr))(U:List pA):Prop where
 same:Same H0 H
 new:H0 l=none
 top:H l=some (.lst (es.map fun e=>V.ref e.1))
 row:Paired (UnT H) es U
theorem q_pow : QOp X (binaryOp .Pow) (rI CPow fun i j=>.int (i ^ j.toNat)):=⟨aoR⟩
section
variable {prog:Program} {w:World} {K:Type} [DecidableEq K] {knd:KeyKind prog w K}
noncomputable def addK (Y:List K) (k:K):List K:=if k∈Y then Y else Y++[k]
noncomputable def metN (f:Nat->K):Nat->List K
 | 0=>[]
 | i+1=>addK (metN f i) (f i)
theorem alt(Y:List K)(k:K):(addK Y k).length=if decide (k∈Y)=true then Y.length else Y.length+1:=by
 unfold addK;by_cases h:k∈Y <;> simp [h]
theorem pB(f:Nat->K):∀ i,(metN f i).length<=i
 | 0=>C3 _
 | i+1=>by
  have:=pB f i
  show (addK (metN f i) (f i)).length<=i+1;rw [alt];split <;> lia
end
noncomputable def metK (ks:List A7):List A7:=metN (fun i=>ks.getD i (Sum.inl 0)) ks.length
section
variable {X:Cx} {P:Program} {w:World} {K:PySem.W.Frag} {calm:Bool}
theorem alu{k:A7}(h:keyIs k v=true):v.scannable=true:=by
 rcases f9 h with ⟨i,t,rfl,rfl⟩ | ⟨x,t,rfl,rfl⟩ <;> rfl
end
noncomputable def RisA (xs:Array Nat):Prop:=xs.toList.Pairwise (· < ·)
theorem lC{xs:Array Nat}(h:RisA xs)(hik:i<k)(hk:k<xs.size):xs.getD i j<xs.getD k j:=by
 have:=(dX.mp h) i k (by simp;lia) (by simp;lia) hik
 simpa [Array.getD,show i<xs.size by lia,hk] using this
theorem alv{xs:Array Nat}(h:RisA xs)(j:Nat):∀ fuel lo hi,lo<=hi->hi<=xs.size->hi<=lo+fuel->(∀ i,i<lo->xs.getD i j<j)->(∀ i,hi<=i->i<xs.size->j<=xs.getD i j)->
  SetTable.below.go xs j fuel lo hi<=xs.size/\(∀ i,i<SetTable.below.go xs j fuel lo hi->xs.getD i j<j)/\∀ i,SetTable.below.go xs j fuel lo hi<=i->i<xs.size->j<=xs.getD i j:=by
 intro fuel
 induction fuel with
 | zero=>
  intro lo hi h1 h2 h3 ha hb;obtain rfl:lo=hi:=by lia
  exact ⟨h2,ha,hb⟩
 | succ f ih=>
  intro lo hi h1 h2 h3 ha hb;unfold SetTable.below.go
  by_cases hl:lo<hi
  .rw [if_pos hl]
   dsimp only
   have hm:lo<=(lo+hi) / 2/\(lo+hi) / 2<hi:=by lia
   generalize (lo+hi) / 2=mid at hm
   by_cases hx:xs.getD mid j<j
   .rw [if_pos hx];refine ih _ _ 'b' h2 'b' (fun i bO=>?_) hb
    by_cases e:i=mid
    .rw [e];exact hx
    .exact y3 (lC h 'b' 'b') hx
   .rw [if_neg hx];refine ih _ _ 'b' 'b' 'b' ha fun i h4 h5=>?_
    by_cases e:i=mid
    .rw [e];lia
    .have:=lC (j:=j) h (show mid<i by lia) h5
     lia
  .rw [if_neg hl];obtain rfl:lo=hi:=by lia
   exact ⟨h2,ha,hb⟩
theorem ahu{xs:Array Nat}(h:RisA xs)(j:Nat):SetTable.below xs j<=xs.size/\(∀ i,i<SetTable.below xs j->xs.getD i j<j)/\∀ i,SetTable.below xs j<=i->i<xs.size->j<=xs.getD i j:=
 alv h j _ _ _ (J0 _) (C3 _) 'b' (fun i hi=>absurd hi 'b') fun i h1 h2=>absurd h1 'b'
theorem alw{xs:Array Nat}(h:RisA xs)(hk:k<=xs.size)(h1:∀ i,i<k->xs.getD i j<j)(h2:∀ i,k<=i->i<xs.size->j<=xs.getD i j):SetTable.below xs j=k:=by
 obtain ⟨a,b,c⟩:=ahu h j
 rcases gJ (SetTable.below xs j) k with z | z | z
 .have:=h1 _ z;have:=c _ (C3 _) 'b';lia
 .exact z
 .have:=b _ z;have:=h2 k (C3 _) 'b';lia
theorem aih{xs:Array Nat}(h:RisA xs)(hn:xs[SetTable.below xs j]?≠some j):RisA (SetTable.insertAt xs (SetTable.below xs j) j):=by
 obtain ⟨a,b,c⟩:=ahu h j;generalize SetTable.below xs j=p at a b c hn;unfold RisA at h ⊢
 rw [SetTable.toList_insertAt];have gd:∀ i (hi:i<xs.size),xs.getD i j=xs[i]:=fun i hi=>by simp [Array.getD,hi]
 have hd:∀ y∈xs.toList.drop p,j<y:=fun y hy=>by
  obtain ⟨i,hi,e⟩:=List.getElem_of_mem hy;rw [List.getElem_drop] at e;simp only [f7,P3] at hi;have h1:=c (p+i) 'b' 'b';rw [gd _ 'b'] at h1;have e:xs[p+i]'(by lia)=y:=by simpa using e
  rw [e] at h1
  rcases Nat.lt_or_ge j y with z | z
  .exact z
  .exfalso
   have hjy:y=j:=by lia
   have ep:xs[p]?=some xs[p]:=cO 'b'
   by_cases e0:i=0
   .subst e0;exact hn (by rw [ep,<- hjy,<- e];simp)
   .have:=lC (j:=j) h (show p<p+i by lia) 'b'
    rw [gd p 'b',gd (p+i) 'b'] at this;have q:=c p (C3 _) 'b';rw [gd p 'b'] at q;lia
 rw [List.pairwise_append];refine ⟨h.sublist (List.take_sublist _ _),jZ.mpr ⟨hd,h.sublist (List.drop_sublist _ _)⟩,fun x hx y hy=>?_⟩;have bQ:x<j:=by
  obtain ⟨i,hi,e⟩:=List.getElem_of_mem hx;rw [List.getElem_take] at e;simp only [K6,P3] at hi;have h1:=b i 'b';rw [gd _ 'b'] at h1;have e:xs[i]'(by lia)=x:=by simpa using e
  lia
 rcases F9.mp hy with rfl | hy
 .exact bQ
 .exact y3 bQ (hd y hy)
theorem ajE{t:SetTable}(h:∀ i,t.slot j≠.live i):t.place[SetTable.below t.place j]?≠some j:=fun e=>by
 refine h (SetTable.below t.place j) ?_;unfold SetTable.slot;simp [e]
theorem afZ(t:SetTable)(p:SetTable.Probe):(t.advance p).dummy=p.dummy:=by
 unfold SetTable.advance;split <;> rfl
theorem aii{t:SetTable}{f:Nat->Int}{h:Int} : ∀ fuel p,(∀ d,p.dummy=some d->t.slot d=.dummy)->∀ j dm,SetTable.probe.go t f h fuel p=some (.empty j dm)->t.slot j=.empty/\∀ d,dm=some d->t.slot d=.dummy:=by
 intro fuel
 induction fuel with
 | zero=>intro p _ j dm e;simp [SetTable.probe.go] at e
 | succ n ih=>
  intro p hp j dm e;unfold SetTable.probe.go at e;cases hs:t.slot p.j with
  | empty=>simp only [hs,Option.some.injEq,SetTable.Met.empty.injEq] at e;obtain ⟨rfl,rfl⟩:=e;exact ⟨hs,hp⟩
  | dummy=>simp only [hs] at e;exact ih _ (fun d hd=>by rw [afZ] at hd;simp at hd;rw [<- hd];exact hs) j dm e
  | live i=>
   simp only [hs] at e
   split at e
   .simp at e
   .exact ih _ (fun d hd=>by rw [afZ] at hd;exact hp d hd) j dm e
theorem ae4{t:SetTable}{h:Int}{b:Bool}(e:t.freeSlot h=some (j,b)):∀ i,t.slot j≠.live i:=by
 unfold SetTable.freeSlot at e
 split at e
 .rename_i j' dm q
  obtain ⟨h1,h2⟩:=aii _ _ (fun d hd=>by simp [SetTable.probeStart] at hd) _ _ (show SetTable.probe.go t _ h _ _=_ from q);simp only [Option.some.injEq,Prod.mk.injEq] at e
  cases dm with
  | none=>obtain ⟨rfl,_⟩:=e;intro i z;simp only [Option.getD_none] at z;rw [h1] at z;cases z
  | some d=>obtain ⟨rfl,_⟩:=e;intro i z;simp only [Option.getD_some] at z;rw [h2 d rfl] at z;cases z
 .cases e
theorem pC(n:Nat):RisA (Array.range n):=by unfold RisA;rw [Array.toList_range];exact List.pairwise_lt_range
theorem agD{t:SetTable}(h:RisA t.place):RisA (t.orStandIn n).place/\(t.orStandIn n).led=t.led:=by
 unfold SetTable.orStandIn
 split
 .exact ⟨h,rfl⟩
 .exact ⟨pC n,rfl⟩
theorem aij{t:SetTable}(h:RisA t.place)(es:Array (Int×Value))(hh:Int)(x:Value):RisA (layNew t es hh x).2.1.place/\(layNew t es hh x).2.1.led=t.led:=by
 unfold layNew
 split
 .rename_i slot wd e
  exact agD (t:=(t.put slot).1) (aih h (ajE (ae4 e)))
 .exact ⟨pC _,rfl⟩
theorem tX(f:Nat->Option Nat):∀ l:List Nat,((l.filterMap fun j=>(f j).map fun o=>(j,o)).map (·.1)).Sublist l
 | []=>.slnil
 | x::l=>by
  rw [aR]
  cases f x with
  | none=>exact (tX f l).cons x
  | some o=>exact (tX f l).cons_cons x
theorem alx{fi mo:Nat}{le pl:Bool}{hs:Array Int}{t:SetTable}{o:Array Nat}(e:SetTable.laid m fi mo le pl hs=some (t,o)):RisA t.place/\t.led=le:=by
 unfold SetTable.laid at e;simp only [bind,Option.bind] at e
 split at e
 .cases e
 .simp only [pure,Option.some.injEq,Prod.mk.injEq] at e;obtain ⟨rfl,_⟩:=e;refine ⟨?_,rfl⟩;unfold RisA;simp only [List.toList_toArray];exact List.pairwise_lt_range.sublist (tX _ _)
theorem af0{t:SetTable}(h:RisA t.place)(es:Array (Int×Value))(n:Nat):RisA (relayAll t es n).2.1.place/\(relayAll t es n).2.1.led=t.led:=by
 unfold relayAll
 split
 .rename_i t' o e
  dsimp only
  split
  .exact alx e
  .exact ⟨pC _,rfl⟩
 .exact ⟨pC _,rfl⟩
theorem tY{α:Type} : ∀ (l:List α) (i:Nat) (hi:i<l.length),(l[i]::l.eraseIdx i).Perm l
 | x::l,0,_=>.rfl
 | x::l,i+1,hi=>by
  have bO:i<l.length:=by simpa using hi
  show (l[i]::x::l.eraseIdx i).Perm (x::l);exact (List.Perm.swap ..).trans ((tY l i bO).cons x)
theorem ajF{α:Type}(f:Nat->Nat):∀ (n k:Nat) (l:List α) (out:Array α),l.length=n->(pickOrder.go f n k l out).toList.Perm (out.toList++l)
 | 0,k,l,out,h=>by rw [nJ.mp h];simp [pickOrder.go]
 | n+1,k,l,out,h=>by
  have hi:f k % l.length<l.length:=Nat.mod_lt _ 'b';unfold pickOrder.go;rw [E9 hi]
  dsimp only
  refine (ajF f n (k+1) _ _ (by rw [List.length_eraseIdx_of_lt hi];lia)).trans ?_;rw [Array.toList_push,X9];refine List.Perm.append_left _ ?_;exact tY l _ hi
theorem tZ{α:Type}(f:Nat->Nat)(xs:Array α):(pickOrder f xs).toList.Perm xs.toList:=by
 have:=ajF f xs.size 0 xs.toList #[] 'c'
 simpa [pickOrder] using this
section
variable {prog:Program} {w:World} {K:Type} [DecidableEq K] {knd:KeyKind prog w K} {A:Around} {E:Value->Shared->Prop} {s:Shared}
noncomputable def SetW (knd:KeyKind prog w K) (h:Heap) (a:Addr) (Y:List K) (le:Bool):Prop:=
 ∃ o es ep t,h.get? a=some o/\o.ExactSet/\o.data=.set es ep t/\ElemsOf knd es.toList/\(∀ k,k∈Y↔∃ e∈es.toList,knd.is k e.2=true)/\es.size<scanBound/\t.fits es.size=true/\es.size=Y.length/\t.led=le/\RisA t.place
theorem SetW.at{Y:List K}{le:Bool}(x:SetW knd h a Y le)(k:∀ o,h.get? a=some o->h'.get? a=some o):SetW knd h' a Y le:=by
 obtain ⟨o,es,ep,t,ho,r⟩:=x;exact ⟨o,es,ep,t,k o ho,r⟩
theorem amq{o:Obj}{es:Array (Int×Value)}{t:SetTable}(ho:h.get? a=some o)(hd:o.data=.set es ep t)(es':Array (Int×Value))(t':SetTable) :
  (h.update a (Obj.putSet es' t')).get? a=some { o with data:=.set es' (ep+1) t' }:=by
 have e:=putSet_of es' t' hd
 have:=Heap.get?_update_self (Obj.putSet es' t') ho (by rw [e];rfl)
 rw [this,e]
theorem addW{Y:List K}{le:Bool}{k:K}{x:Value}{Q:Bool->Shared->Prop}(P5:knd.is k x=true)(mB:x.scannable=true)(hS:SetW knd s.heap a Y le)(mC:Y.length+1<scanBound)(h:∀ b h',Heap.SameBut a s.heap h'->SetW knd h' a (addK Y k) le->Q b { s with heap:=h' }):wpAny 'd' A (setAddHashed a x (knd.hash k)) Q E s:=by
 obtain ⟨o,es,ep,t,ho,bR,hd,W0,O1,hb,hf,hn,dO,qC⟩:=hS;have fin:∀ (o':Obj) (es':Array (Int×Value)) (t':SetTable) (ep':Nat) (h':Heap),k∉Y->es'.toList.Perm (es.toList++[(knd.hash k,x)])->h'.get? a=some o'->o'.ExactSet->o'.data=.set es' ep' t'->t'.fits es'.size=true->t'.led=le->RisA t'.place->SetW knd h' a (addK Y k) le:=by
  intro o' es' t' ep' h' hk hp g8 wN lJ wL wO wP;have hsz:es'.size=Y.length+1:=by rw [<- P3,hp.length_eq,D4,P3,hn];rfl
  refine ⟨o',es',ep',t',g8,wN,lJ,(W0.push P5 mB).perm hp,fun k'=>?_,by lia,wL,?_,wO,wP⟩
  .have e1:k'∈addK Y k↔k'∈Y\/k'=k:=by unfold addK;rw [if_neg hk];simp
   rw [e1,O1 k']
   constructor
   .rintro (⟨e,he,q⟩ | rfl)
    .exact ⟨e,hp.mem_iff.mpr (O6 _ he),q⟩
    .exact ⟨_,hp.mem_iff.mpr (O5 _ (D3.mpr rfl)),P5⟩
   .rintro ⟨e,he,q⟩
    rcases D8.mp (hp.mem_iff.mp he) with z | z
    .exact .inl ⟨e,z,q⟩
    .rw [D3.mp z] at q;exact .inr (knd.inj x k' k q P5)
  .rw [hsz];unfold addK;rw [if_neg hk];simp
 unfold setAddHashed setAddHashedIn;refine wpAny_holding (wpAny_bind (wpAny_setState_of ho hd hf ?_))
 dsimp only
 rw [byScan_of mB hb W0,if_pos rfl];unfold setAddByScan;refine wpAny_bind (wpAny_bind (wpAny_rule (wpAny_bind (wpAny_setScan_of P5 ho hd hf W0 ?_))));cases hr:List.findIdx? (fun e=>knd.is k e.2) es.toList with
 | some j=>
  obtain ⟨hj,hpj,_⟩:=List.findIdx?_eq_some_iff_getElem.mp hr;have hk:k∈Y:=(O1 k).mpr ⟨es.toList[j],gH hj,hpj⟩;refine wpAny_pure (wpAny_pure ?_)
  have:=h false s.heap (Heap.SameBut.refl a s.heap) ⟨o,es,ep,t,ho,bR,hd,W0,fun k'=>by unfold addK;rw [if_pos hk];exact O1 k',hb,hf,by unfold addK;rw [if_pos hk];exact hn,dO,qC⟩
  cases s;exact this
 | none=>
  have hk:k∉Y:=fun z=>by
   obtain ⟨e,he,q⟩:=(O1 k).mp z
   have:=List.findIdx?_eq_none_iff.mp hr e he
   rw [q] at this;cases this
  dsimp only
  obtain ⟨bS,bU⟩:=aij qC es (knd.hash k) x;have U6:=layNew_perm t es (knd.hash k) x;have qD:=layNew_fits t es (knd.hash k) x;rw [Array.toList_push] at U6;generalize layNew t es (knd.hash k) x=L at bS bU U6 qD;obtain ⟨O2,t1,wd,gv⟩:=L
  dsimp only at bS bU U6 qD ⊢
  have mD:O2.size<scanBound:=by
   rw [<- P3,U6.length_eq,D4,P3,hn];exact mC
  have go:∀ t2:SetTable,t2.fits O2.size=true->t2.led=le->RisA t2.place->wpAny 'd' A (do
    storeSet a O2 t2
    if (!wd&&t2.tooFull)=true then do
     (match (relayAll t2 O2 (SetTable.grown O2.size)).2.2 with | true=>rule "set.scan.the-table-gave-way" | false=>pure ())
     storeSet a (relayAll t2 O2 (SetTable.grown O2.size)).1 (relayAll t2 O2 (SetTable.grown O2.size)).2.1
     pure (some true)
    else pure (some true)) (fun r s'=>wpAny 'd' A (match r with | some added=>pure added | none=>setAddHashedIn a x (knd.hash k) 99999) Q E s') E s:=by
   intro t2 hf2 mE mF;refine wpAny_bind (wpAny_storeSet_of ho hd ?_ (fits_of_scanBound mD));have g1:=amq ho hd O2 t2;have b1:=Heap.SameBut.update s.heap a (Obj.putSet O2 t2);generalize s.heap.update a (Obj.putSet O2 t2)=h1 at g1 b1
   split
   .have v1:=relayAll_perm t2 O2 (SetTable.grown O2.size);have jA:=relayAll_fits t2 O2 (SetTable.grown O2.size);obtain ⟨fT,fU⟩:=af0 mF O2 (SetTable.grown O2.size);generalize relayAll t2 O2 (SetTable.grown O2.size)=R3 at v1 jA fT fU;obtain ⟨wQ,t3,gv3⟩:=R3
    dsimp only at v1 jA fT fU ⊢
    have wR:wQ.size<scanBound:=by rw [<- P3,v1.length_eq,P3];exact mD
    have last:wpAny 'd' A (do storeSet a wQ t3;pure (some true)) (fun r s'=>wpAny 'd' A (match r with | some added=>pure added | none=>setAddHashedIn a x (knd.hash k) 99999) Q E s') E { s with heap:=h1 }:=by
     refine wpAny_bind (wpAny_storeSet_of (s:={ s with heap:=h1 }) g1 rfl ?_ (fits_of_scanBound wR));have g3:=amq g1 rfl wQ t3;exact wpAny_pure (wpAny_pure (h true _ (b1.trans (Heap.SameBut.update _ a _)) (fin _ _ _ _ _ hk (v1.trans U6) g3 bR rfl jA (fU.trans mE) fT)))
    cases gv3
    .exact wpAny_bind (wpAny_pure last)
    .exact wpAny_bind (wpAny_rule last)
   .exact wpAny_pure (wpAny_pure (h true _ b1 (fin _ _ _ _ _ hk U6 g1 bR rfl hf2 mE mF)))
  have step:∀ (m:Sem Bool),(∀ (Q':Bool->Shared->Prop),(∀ b,Q' b s)->wpAny 'd' A m Q' E s)->wpAny 'd' A (do
    let byValue <- m
    storeSet a O2 (if byValue=true then t1 else { t1 with plain:=false })
    if (!wd&&(if byValue=true then t1 else { t1 with plain:=false }).tooFull)=true then do
     (match (relayAll (if byValue=true then t1 else { t1 with plain:=false }) O2 (SetTable.grown O2.size)).2.2 with | true=>rule "set.scan.the-table-gave-way" | false=>pure ())
     storeSet a (relayAll (if byValue=true then t1 else { t1 with plain:=false }) O2 (SetTable.grown O2.size)).1 (relayAll (if byValue=true then t1 else { t1 with plain:=false }) O2 (SetTable.grown O2.size)).2.1
     pure (some true)
    else pure (some true)) (fun r s'=>wpAny 'd' A (match r with | some added=>pure added | none=>setAddHashedIn a x (knd.hash k) 99999) Q E s') E s:=fun m hm=>by
   refine wpAny_bind (hm _ fun b=>?_)
   cases b
   .exact go _ (SetTable.fits_plain_off qD) (bU.trans dO) bS
   .exact go _ qD (bU.trans dO) bS
  have all:∀ (Q':Bool->Shared->Prop),(∀ b,Q' b s)->wpAny 'd' A (hashByValue 8 x) Q' E s:=fun Q' hQ=>by
   rw [hashByValue_scannable 8 mB];exact wpAny_pure (hQ _)
  cases gv
  .refine wpAny_bind (wpAny_pure ?_)
   split
   .exact step _ all
   .exact step (pure true) fun Q' hQ=>wpAny_pure (hQ _)
  .refine wpAny_bind (wpAny_rule ?_)
   split
   .exact step _ all
   .exact step (pure true) fun Q' hQ=>wpAny_pure (hQ _)
end
noncomputable def O9 (w:World):Bool:=w.params.followText "set-order"
section
variable {prog:Program} {w:World} {A:Around} {E:Value->Shared->Prop} {s:Shared}
theorem aly(a:Value){Q₁:Value->Shared->Prop}(h:Q₁ (.ref s.heap.objs.size) { s with heap:=s.heap.push { cls:=.type "set",dict:=none,data:=.set #[] 0 (.fresh 0 0 (!O9 w)) } }) :
  codeAny 'd' A (.call (.builtin "set.__new__") ⟨[.type "set",a],[]⟩) (wants Q₁ E) s:=by
 refine codeAny_of_tree (show wpAny _ A.in1 (do checkBuiltinCall "set.__new__" ⟨[.type "set",a],[]⟩;again (.builtin "set.__new__" ⟨[.type "set",a],[]⟩)) _ _ s from ?_);refine wpAny_bind (wpAny_of_eq (PySem.F.newCall_set_1 a) (wpAny_pure ⟨plainId_quiet PySem.F.plain_set_new _,codeAny_builtin PySem.F.entry_set_new ?_⟩));have z:=sub_set_self;rw [Around.under_plainId PySem.F.plain_set_new _];unfold Builtin.«set.__new__» Builtin.Frozenset.newClass;obtain ⟨hp,g,d,tk,os⟩:=s
 dsimp only;wp_walk
 refine wpAny_askSetting (wpAny_pure ?_);dsimp only;simp only [newObj];refine wpAny_bind (wpAny_alloc (wpAny_pure (wpAny_pure h)))
end
section
variable {prog:Program} {w:World} {A:Around} {R:Result->Shared->Prop} {I:Addr} {fp wr:List Addr} {G:Array GenState->Array GenState->Prop} {n:Nat} {P:Nat->Value->Prop} {St:Nat->Shared->Prop}
variable {K:Type} [DecidableEq K] {knd:KeyKind prog w K} {le:Bool}
theorem ajG(W:WalksS prog w A.in1 I fp wr G n P St)(a:Addr)(qE:a∉fp)(f:Nat->K)(hP:∀ i v,P i v->knd.is (f i) v=true/\v.scannable=true)(hb:n+1<scanBound) :
  ∀ (k i:Nat) (s:Shared),n-i=k->i<=n->St i s->SetW knd s.heap a (metN f i) le->(∀ s',Moved (a::wr) G s s'->SetW knd s'.heap a (metN f n) le->R (.ok (.ret .none)) s')->
   codeAny 'd' A (.builtin "set.update.loop" ⟨[.ref a,.ref I],[]⟩) R s:=by
 have haw:a∉wr:=fun h=>qE (W.sub _ h)
 have v3:∀ b∈wr,b∈a::wr:=fun b hb=>L8 _ hb
 intro k
 induction k with
 | zero=>
  intro i s lT hi Z7 hD hR;obtain rfl:i=n:=by lia
  refine codeAny_builtin PyProof.Rows.F.entry_set_update_loop ?_;rw [Around.under_plainId PyProof.Rows.F.plain_set_update_loop _];show wpAny _ A.in1 (pyNext (.ref I) >>= _) _ _ s;refine wpAny_bind (W.done s _ _ Z7 fun s' hm=>?_);exact wpAny_pure (hR s' (hm.mono v3) (hD.at fun o ho=>hm.heap a o haw ho))
 | succ k ih=>
  intro i s lT hi Z7 hD hR;have C7:i<n:=by lia
  refine codeAny_builtin PyProof.Rows.F.entry_set_update_loop ?_;rw [Around.under_plainId PyProof.Rows.F.plain_set_update_loop _];show wpAny _ A.in1 (pyNext (.ref I) >>= _) _ _ s;refine wpAny_bind (W.item i s _ _ C7 Z7 fun v s' hv fK hm=>?_);obtain ⟨hk,mB⟩:=hP i v hv;have hD':SetW knd s'.heap a (metN f i) le:=hD.at fun o ho=>hm.heap a o haw ho
  show wpAny _ A.in1 (holding [v] (setAdd a v) >>= _) _ _ s';refine wpAny_bind (wpAny_holding ?_);unfold setAdd;refine wpAny_holding (wpAny_bind (knd.pyHash (k:=f i) hk ?_));have hl:=pB f i;refine addW (s:={ s' with toks:=s'.toks+1 }) hk mB hD' 'b' fun b' h' jF hD2=>?_
  refine wpAny_pure ⟨plainId_quiet PyProof.Rows.F.plain_set_update_loop _,ih (i+1) _ 'b' C7 (W.frame _ s' _ _ fK (y4 _) fun b hb o e=>?_) hD2 fun s'' hm'' hD''=>?_⟩
  .rw [jF.2 b (fun h:b=a=>qE (by rw [<- h];exact hb))];exact e
  .refine hR s'' (Moved.trans W.gtrans ((hm.mono v3).then_heap (y4 _) fun b o hb e=>?_) hm'') hD'';rw [jF.2 b (fun h:b=a=>hb (by rw [h];exact K5))];exact e
end
section
variable {prog:Program} {w:World} {A:Around} {E:Value->Shared->Prop} {s:Shared} {K:Type} [DecidableEq K] {knd:KeyKind prog w K}
set_option maxHeartbeats 3200000 in
theorem ajH{l:Addr}{Q:Value->Shared->Prop}(hA:A.handled=none)(hl:s.heap.IsList l items)(f:Nat->K)(hv:∀ (i:Nat) (v:Value),items[i]?=some v->knd.is (f i) v=true/\v.scannable=true)(hb:items.size+1<scanBound)(h:∀ h' tk,SetW knd h' s.heap.objs.size (metN f items.size) (!O9 w)->(∀ b o,s.heap.get? b=some o->h'.get? b=some o)->Q (.ref s.heap.objs.size) { s with heap:=h',toks:=tk }) :
  wpAny 'd' A (call (.type "set") [.ref l]) Q E s:=by
 obtain ⟨c,tl,m0⟩:=cP.mro;have m1:=cP.made;have m2:=cP.sub;have m3:=cP.notType;have m4:=cP.canCreate;have m5:=PySem.F.typeCall_set_1 (.ref l);refine wpAny_call (codeAny_of_tree ?_);show wpAny _ _ (callAny (.type "set") _) _ _ _;refine wpAny_pure ⟨Code.quiet_builtin _ 'e',codeAny_builtin PySem.F.entry_type_call ?_⟩;rw [Around.under_plain (weight_type_call_type "set" [.ref l] []) rfl]
 repeat (any_goals (first | assumption | wp_step))
 generalize jJ:({ cls:=.type "set",dict:=none,data:=.set #[] 0 (.fresh 0 0 (!O9 w)) } : Obj)=ob;refine codeAny_mono (aly (.ref l) (E:=E) (Q₁:=fun v zt=>v=.ref s.heap.objs.size/\zt={ s with heap:=s.heap.push ob }) ⟨rfl,by rw [jJ]⟩) fun r zt z=>?_
 match r,z with
 | .error e,z=>exact z
 | .ok (.ret v),⟨e1,e2⟩=>
  subst e1 e2;have hS:(s.heap.push ob).get? s.heap.objs.size=some ob:=by rw [<- jJ];exact Heap.get?_push_size _ rfl
  have hT:Shared.TypeIs { s with heap:=s.heap.push ob } (.ref s.heap.objs.size) "set":=⟨_,hS,by rw [<- jJ]⟩
  have m6:=cP.init.lookup;have m7:=cP.init.bind (.ref s.heap.objs.size)
  repeat (any_goals (first | assumption | wp_step))
  refine codeAny_mono (codeAny_call_builtin (R:=wants (fun r zw=>r=.none/\∃ h' tk,zw={ s with heap:=h',toks:=tk }/\SetW knd h' s.heap.objs.size (metN f items.size) (!O9 w)/\∀ b o,s.heap.get? b=some o->h'.get? b=some o) E) cP.init.plain PySem.F.entry_set_init (check_set_init_1 hT ?_)) fun zg zw zf=>?_
  .obtain ⟨⟨oc,od,oda,osl⟩,fL,N7,nl,v8⟩:=hl;simp only at N7 v8;subst N7 v8;have C7:l<s.heap.objs.size:=Heap.lt_size fL;have wS:(s.heap.push ob).get? l=some { cls:=.type "list",dict:=od,data:=.seq items nl,slots:=osl }:=Heap.get?_push_of_some _ fL;have g1:=PySem.F.sub_list_set;have g2:=PySem.F.sub_list_frozenset;have g3:(Value.type "list" == Value.type "dict")=false:=by decide
   have jG:(s.heap.push ob).IsList l items:=⟨_,wS,rfl,nl,rfl⟩
   unfold Builtin.«set.__init__» noKeywords Builtin.Frozenset.updateFrom;generalize hPI:pyIter=PI;subst jJ
   wp_walk
   subst hPI;refine wpAny_pyIter_list jG ?_;refine wpAny_bind (wpAny_runValue ?_);have v8:s.heap.objs.size<(s.heap.push { cls:=.type "set",dict:=none,data:=.set #[] 0 (.fresh 0 0 (!O9 w)) }).objs.size:=by rw [Heap.size_push];exact Nat.lt_succ_self _
   have G7:l≠(s.heap.push { cls:=.type "set",dict:=none,data:=.set #[] 0 (.fresh 0 0 (!O9 w)) }).objs.size:=J4 (y3 C7 v8);have qE:s.heap.objs.size∉[(s.heap.push { cls:=.type "set",dict:=none,data:=.set #[] 0 (.fresh 0 0 (!O9 w)) }).objs.size,l]:=by
    simp only [F9,eD,or_false,not_or];exact ⟨J4 v8,q9 C7⟩
   refine ajG (knd:=knd) (le:=!O9 w) ((Walks.list (by simp [hA]) _ l G7 items).toS) s.heap.objs.size qE f hv hb (items.size-0) 0 _ 'b' (J0 _) ⟨⟨_,Heap.get?_push_size _ rfl,rfl,rfl⟩,jG.push _⟩ ?_ fun s' hm hD=>?_
   .exact ⟨{ cls:=.type "set",dict:=none,data:=.set #[] 0 (.fresh 0 0 (!O9 w)) },#[],0,_,Heap.get?_push_of_some _ hS,⟨rfl,rfl,rfl⟩,rfl,fun e he=>by simp at he,fun k=>by simp [metN],by decide,rfl,rfl,rfl,.nil⟩
   .obtain ⟨h',g',d',tk',os'⟩:=s';have eg:g'=s.gens:=hm.gens;have ed:d'=s.drawn:=hm.drawn;have eo:os'=s.os:=hm.os;subst eg ed eo;show wpAny _ _ _ _ _ _;refine wpAny_pure ?_;show wpAny _ _ (ret Value.none) _ _ _;refine wpAny_pure ⟨rfl,h',tk',rfl,hD,fun b o hb=>hm.heap b o ?_ (Heap.get?_push_of_some _ (Heap.get?_push_of_some _ hb))⟩;have v6:b<s.heap.objs.size:=Heap.lt_size hb;simp only [F9,eD,or_false,not_or];exact ⟨J4 v6,J4 (y3 v6 v8)⟩
  .match zg,zf with
   | .error e,z=>exact z
   | .ok (.ret v),⟨e1,h',tk,e2,hD,keep⟩=>
    subst e1 e2
    repeat (any_goals (first | assumption | wp_step))
    exact h _ _ hD keep
end
theorem ahv:Manifest.owners.lookup (String.ofList [.ofNat 114,.ofNat 111,.ofNat 116,.ofNat 97,.ofNat 114,.ofNat 101,.ofNat 116,.ofNat 105,.ofNat 95,.ofNat 116,.ofNat 101,.ofNat 115].reverse)=some Manifest.sig_set_iterator:=by kernel_rfl
theorem slot_si_next:Slot "set_iterator" "__next__" "set_iterator.__next__" :=
 .of (owner:="set_iterator") (n:="__next__") (by rw [typeLookup_type,builtinLookup_eq_fast];kernel_rfl) 'e' 'e' 'e'
  (by first | exact .inl 'e' | exact .inr 'e') (by rw [isSubtype_type];kernel_rfl)
theorem pD:entryFor table "set_iterator.__next__"=some Builtin.«set_iterator.__next__»:=entryFor_of_tree (by kernel_rfl)
theorem pE(a:Value):argsOk "set_iterator.__next__" ⟨[a],[]⟩:=by
 unfold argsOk;rw [signature?_of (id:="set_iterator.__next__") (n:=[.ofNat 95,.ofNat 95,.ofNat 116,.ofNat 120,.ofNat 101,.ofNat 110,.ofNat 95,.ofNat 95]) (o:=[.ofNat 114,.ofNat 111,.ofNat 116,.ofNat 97,.ofNat 114,.ofNat 101,.ofNat 116,.ofNat 105,.ofNat 95,.ofNat 116,.ofNat 101,.ofNat 115]) (by kernel_rfl) ahv];kernel_rfl
theorem adm:Slot "set_iterator" "__iter__" "set_iterator.__iter__" :=
 .of (owner:="set_iterator") (n:="__iter__") (by rw [typeLookup_type,builtinLookup_eq_fast];kernel_rfl) 'e' 'e' 'e'
  (by first | exact .inl 'e' | exact .inr 'e') (by rw [isSubtype_type];kernel_rfl)
theorem af1(a:Value):argsOk "set_iterator.__iter__" ⟨[a],[]⟩:=by
 unfold argsOk;rw [signature?_of (id:="set_iterator.__iter__") (n:=[.ofNat 95,.ofNat 95,.ofNat 114,.ofNat 101,.ofNat 116,.ofNat 105,.ofNat 95,.ofNat 95]) (o:=[.ofNat 114,.ofNat 111,.ofNat 116,.ofNat 97,.ofNat 114,.ofNat 101,.ofNat 116,.ofNat 105,.ofNat 95,.ofNat 116,.ofNat 101,.ofNat 115]) (by kernel_rfl) ahv];kernel_rfl
theorem ae6:entryFor table "set_iterator.__iter__"=some Builtin.«dict_keyiterator.__iter__»:=
 entryFor_alias (id':="dict_keyiterator.__iter__") (by kernel_rfl) (by first | rfl | decide +kernel | (unfold String.splitOn;simp +decide [String.splitOnAux])) 'e' (by kernel_rfl)
theorem aeh:entryFor table "set.__iter__"=some Builtin.«frozenset.__iter__»:=
 entryFor_alias (id':="frozenset.__iter__") (by kernel_rfl) (by first | rfl | decide +kernel | (unfold String.splitOn;simp +decide [String.splitOnAux])) 'e' (by kernel_rfl)
noncomputable def IsSI (h:Heap) (I a:Addr) (f:Value) (i n ep:Nat):Prop:=∃ o,h.get? I=some o/\o.cls=.type "set_iterator"/\o.data=.fields #[f,rawInt i,.ref a,rawInt n,rawInt ep]
section
variable {prog:Program} {w:World} {A:Around} {E:Value->Shared->Prop} {s:Shared} {I a:Addr} {f:Value} {i n ep:Nat}
theorem IsSI.ty(x:IsSI s.heap I a f i n ep):s.TypeIs (.ref I) "set_iterator":=let ⟨o,ho,hc,_⟩:=x;⟨o,ho,hc⟩
theorem IsSI.at(x:IsSI h I a f i n ep)(e:∀ o,h.get? I=some o->h'.get? I=some o):IsSI h' I a f i n ep:=let ⟨o,ho,r⟩:=x;⟨o,e _ ho,r⟩
theorem uA{Q:Value->Shared->Prop}(T5:IsSI s.heap I a f i n ep)(h:Q (.ref I) s):wpAny 'd' A (pyIter (.ref I)) Q E s:=by
 refine wpAny_pyIter_slot T5.ty adm (wpAny_call_entry adm T5.ty ae6 ?_ (af1 _));show wpAny _ _ (ret (.ref I)) _ _ s;exact wpAny_pure ⟨_,rfl, "set_iterator",_,T5.ty,slot_si_next.lookup,h⟩
theorem ahw{Q:Option Value->Shared->Prop}(hh:A.handled=none)(B:Heap.ExtBut I s.heap h2)(hQ:∀ h',Heap.ExtBut I s.heap h'->Q none { s with heap:=h' }) :
  wpAny 'd' A.in1 (newExc (.type "StopIteration") [] >>= fun e=>(raiseNew e:Sem Fin)) (fun _ _=>False) (fun e s'=>wpAny 'd' A (do if <- isInstance e (.type "StopIteration") then pure none else throw e) Q E s') { s with heap:=h2 }:=by
 refine wpAny_bind ?_;simp only [newExc,newTuple];refine wpAny_bind (wpAny_newObj_type ?_ (by size_fits));refine wpAny_bind (m:=firstArgMember _ _) (wpAny_of_eq (a:=Value.none) (by first | rfl | (simp only [firstArgMember];rfl)) ?_);refine wpAny_newObj_type ?_ (by size_fits);simp only [raiseNew];refine wpAny_bind (wpAny_handled ?_)
 first | rw [show A.in1.handled=none from hh] | rw [hh]
 refine wpAny_bind (wpAny_pure (wpAny_throw ?_));refine wpAny_bind (wpAny_isInstance (T:="StopIteration") (b:=true) ⟨_,Heap.get?_push_size _ rfl,rfl⟩ isSubtype_stop ?_);exact wpAny_pure (hQ _ ((B.push _).push _))
theorem pF{o:Obj}{vs:Array Value}(ho:h.get? I=some o)(hc:o.cls=.type "set_iterator")(hd:o.data=.fields vs)(j:Nat)(x:Value) :
  ∃ o',(h.update I (Obj.mapFields (·.setIfInBounds j x))).get? I=some o'/\o'.cls=.type "set_iterator"/\o'.data=.fields (vs.setIfInBounds j x):=
 ⟨_,Heap.get?_update_self _ ho (Obj.isFreed_of_fields (Obj.data_mapFields hd _)),(Obj.cls_mapFields ..).trans hc,by rw [Obj.data_mapFields hd]⟩
variable {o:Obj} {es:Array (Int×Value)} {t:SetTable}
theorem ajI{nx:Nat}{x:Value}{Q:Option Value->Shared->Prop}(T5:IsSI s.heap I a (rawInt sl) i es.size ep)(ho:s.heap.get? a=some o)(hd:o.data=.set es ep t)(hf:t.fits es.size=true)(hs:∀ Q':Option (Value×Nat)->Shared->Prop,Q' (some (x,nx)) s->wpAny 'd' A.in1 (setNext a sl i ep) Q' (fun e s'=>wpAny 'd' A (do if <- isInstance e (.type "StopIteration") then pure none else throw e) Q E s') s)(hQ:∀ h',IsSI h' I a (rawInt nx) (i+1) es.size ep->Heap.SameBut I s.heap h'->Q (some x) { s with heap:=h' }):wpAny 'd' A (pyNext (.ref I)) Q E s:=by
 obtain ⟨oI,hoI,hcI,hdI⟩:=id T5;unfold pyNext;refine wpAny_bind (wpAny_attempt (wpAny_callSpecial?_slot (name:=Str.ofString "__next__") T5.ty slot_si_next (wpAny_call_entry slot_si_next T5.ty pD ?_ (pE _))));unfold Builtin.«set_iterator.__next__»;refine wpAny_bind (wpAny_of_eq (a:=(Value.ref I,[])) rfl ?_)
 dsimp only
 refine wpAny_bind (wpAny_fieldsOf hoI hdI ?_);simp only [rawInt];refine wpAny_bind (wpAny_setEntries_of ho hd hf ?_);rw [if_neg 'c'];simp only [gL];refine wpAny_bind (hs _ ?_)
 dsimp only
 refine wpAny_bind (wpAny_setField hoI hdI 'c' ?_);obtain ⟨o1,g1,c1,d1⟩:=pF hoI hcI hdI 0 (rawInt nx);have b1:=Heap.SameBut.update s.heap I (Obj.mapFields (·.setIfInBounds 0 (rawInt nx)));simp only [rawInt] at g1 b1 d1;generalize s.heap.update I (Obj.mapFields (·.setIfInBounds 0 (Value.int nx 0)))=h1 at g1 b1;refine wpAny_bind (wpAny_setField (s:={ s with heap:=h1 }) g1 d1 'c' ?_);obtain ⟨o2,g2,c2,d2⟩:=pF g1 c1 d1 1 (rawInt ((i:Int)+1));refine wpAny_pure ⟨x,rfl,wpAny_pure (hQ _ ⟨o2,g2,c2,?_⟩ (b1.trans (Heap.SameBut.update ..)))⟩;rw [d2];simp [rawInt]
theorem ajJ{Q:Option Value->Shared->Prop}(hh:A.handled=none)(T5:IsSI s.heap I a (rawInt sl) i es.size ep)(ho:s.heap.get? a=some o)(hd:o.data=.set es ep t)(hf:t.fits es.size=true)(hs:∀ Q':Option (Value×Nat)->Shared->Prop,Q' none s->wpAny 'd' A.in1 (setNext a sl i ep) Q' (fun e s'=>wpAny 'd' A (do if <- isInstance e (.type "StopIteration") then pure none else throw e) Q E s') s)(hQ:∀ h',Heap.ExtBut I s.heap h'->Q none { s with heap:=h' }):wpAny 'd' A (pyNext (.ref I)) Q E s:=by
 obtain ⟨oI,hoI,hcI,hdI⟩:=id T5;unfold pyNext;refine wpAny_bind (wpAny_attempt (wpAny_callSpecial?_slot (name:=Str.ofString "__next__") T5.ty slot_si_next (wpAny_call_entry slot_si_next T5.ty pD ?_ (pE _))));unfold Builtin.«set_iterator.__next__»;refine wpAny_bind (wpAny_of_eq (a:=(Value.ref I,[])) rfl ?_)
 dsimp only
 refine wpAny_bind (wpAny_fieldsOf hoI hdI ?_);simp only [rawInt];refine wpAny_bind (wpAny_setEntries_of ho hd hf ?_);rw [if_neg 'c'];simp only [gL];refine wpAny_bind (hs _ ?_)
 dsimp only
 refine wpAny_bind (wpAny_setField hoI hdI 'c' ?_);have B1:Heap.ExtBut I s.heap (s.heap.update I (Obj.mapFields fun x=>x.setIfInBounds 2 Value.none)):=(Heap.SameBut.update ..).extBut;generalize s.heap.update I (Obj.mapFields fun x=>x.setIfInBounds 2 Value.none)=h1 at B1;exact wpAny_mono (ahw hh B1 hQ) (fun _ _ z=>z.elim) fun _ _ z=>z
end
section
variable {prog:Program} {w:World} {A:Around} {E:Value->Shared->Prop} {s:Shared} {I a T:Addr} {f:Value} {i n ep:Nat} {o oT:Obj} {es:Array (Int×Value)} {t:SetTable} {tt:Nat}
theorem alz{ps:List Nat}{y:Int}{x:Value}{Q:Option Value->Shared->Prop}(T5:IsSI s.heap I a (.ref T) i es.size ep)(ho:s.heap.get? a=some o)(hd:o.data=.set es ep t)(hf:t.fits es.size=true)(hT:s.heap.get? T=some oT)(hdT:oT.data=.seq (ps.map fun (k:Nat)=>rawInt (k:Int)).toArray tt)(hj:ps[i]?=some j)(hx:es[j]?=some (y,x))(hQ:∀ h',IsSI h' I a (.ref T) (i+1) es.size ep->Heap.SameBut I s.heap h'->Q (some x) { s with heap:=h' }):wpAny 'd' A (pyNext (.ref I)) Q E s:=by
 obtain ⟨oI,hoI,hcI,hdI⟩:=id T5;unfold pyNext;refine wpAny_bind (wpAny_attempt (wpAny_callSpecial?_slot (name:=Str.ofString "__next__") T5.ty slot_si_next (wpAny_call_entry slot_si_next T5.ty pD ?_ (pE _))));unfold Builtin.«set_iterator.__next__»;refine wpAny_bind (wpAny_of_eq (a:=(Value.ref I,[])) rfl ?_)
 dsimp only
 refine wpAny_bind (wpAny_fieldsOf hoI hdI ?_);simp only [rawInt];refine wpAny_bind (wpAny_setEntries_of ho hd hf ?_);rw [if_neg 'c'];simp only [gL];unfold seqItems?;refine wpAny_bind (wpAny_bind (wpAny_load hT ?_));rw [hdT];refine wpAny_pure ?_
 dsimp only
 have e1:(ps.map fun (k:Nat)=>rawInt (k:Int)).toArray[i]?=some (rawInt (j:Int)):=by
  rw [List.getElem?_toArray,P1,hj];rfl
 rw [e1];simp only [rawInt,gL];unfold setNextDrawn;refine wpAny_bind (wpAny_bind (wpAny_setState_of ho hd hf ?_))
 dsimp only
 rw [if_neg 'c',hx];refine wpAny_pure ?_;refine wpAny_bind (wpAny_setField hoI hdI 'c' ?_);obtain ⟨o2,g2,c2,d2⟩:=pF hoI hcI hdI 1 (rawInt ((i:Int)+1));refine wpAny_pure ⟨x,rfl,wpAny_pure (hQ _ ⟨o2,g2,c2,?_⟩ (Heap.SameBut.update ..))⟩;rw [d2];simp [rawInt]
theorem alA{ps:List Nat}{Q:Option Value->Shared->Prop}(hh:A.handled=none)(T5:IsSI s.heap I a (.ref T) i es.size ep)(ho:s.heap.get? a=some o)(hd:o.data=.set es ep t)(hf:t.fits es.size=true)(hT:s.heap.get? T=some oT)(hdT:oT.data=.seq (ps.map fun (k:Nat)=>rawInt (k:Int)).toArray tt)(hj:ps.length<=i)(hQ:∀ h',Heap.ExtBut I s.heap h'->Q none { s with heap:=h' }):wpAny 'd' A (pyNext (.ref I)) Q E s:=by
 obtain ⟨oI,hoI,hcI,hdI⟩:=id T5;unfold pyNext;refine wpAny_bind (wpAny_attempt (wpAny_callSpecial?_slot (name:=Str.ofString "__next__") T5.ty slot_si_next (wpAny_call_entry slot_si_next T5.ty pD ?_ (pE _))));unfold Builtin.«set_iterator.__next__»;refine wpAny_bind (wpAny_of_eq (a:=(Value.ref I,[])) rfl ?_)
 dsimp only
 refine wpAny_bind (wpAny_fieldsOf hoI hdI ?_);simp only [rawInt];refine wpAny_bind (wpAny_setEntries_of ho hd hf ?_);rw [if_neg 'c'];simp only [gL];unfold seqItems?;refine wpAny_bind (wpAny_bind (wpAny_load hT ?_));rw [hdT];refine wpAny_pure ?_
 dsimp only
 have e1:(ps.map fun (k:Nat)=>rawInt (k:Int)).toArray[i]?=none:=by
  rw [List.getElem?_toArray,P1,List.getElem?_eq_none hj];rfl
 rw [e1]
 dsimp only
 refine wpAny_bind (wpAny_setField hoI hdI 'c' ?_);obtain ⟨o1,g1,c1,d1⟩:=pF hoI hcI hdI 0 (rawInt 0);have b1:=Heap.SameBut.update s.heap I (Obj.mapFields (·.setIfInBounds 0 (rawInt 0)));simp only [rawInt] at g1 b1 d1 ⊢
 generalize s.heap.update I (Obj.mapFields (·.setIfInBounds 0 (Value.int 0 0)))=h1 at g1 b1;refine wpAny_bind (wpAny_setField (s:={ s with heap:=h1 }) g1 d1 'c' ?_);have B1:Heap.ExtBut I s.heap (h1.update I (Obj.mapFields fun x=>x.setIfInBounds 2 Value.none)):=(b1.trans (Heap.SameBut.update ..)).extBut;show wpAny _ _ _ _ _ { s with heap:=h1.update I (Obj.mapFields fun x=>x.setIfInBounds 2 Value.none) };generalize h1.update I (Obj.mapFields fun x=>x.setIfInBounds 2 Value.none)=h2 at B1;exact wpAny_mono (ahw hh B1 hQ) (fun _ _ z=>z.elim) fun _ _ z=>z
theorem af2{Q:Option (Value×Nat)->Shared->Prop}(hb:O9 w=true)(ho:s.heap.get? a=some o)(hd:o.data=.set es ep t)(hf:t.fits es.size=true)(h:Q (((pickOrder (w.params.setOrder a ep) es)[i]?).map fun e=>(e.2,sl)) s):wpAny 'd' A (setNext a sl i ep) Q E s:=by
 unfold setNext;refine wpAny_bind (wpAny_setState_of ho hd hf ?_)
 dsimp only
 unfold setsByText;refine wpAny_bind (wpAny_bind (wpAny_askSetting (wpAny_pure ?_)));refine wpAny_ite_split (fun _=>?_) fun z=>absurd hb z
 rw [if_neg 'c'];unfold setWalk setsByText;refine wpAny_bind (wpAny_bind (wpAny_setState_of ho hd hf ?_))
 dsimp only
 refine wpAny_bind (wpAny_bind (wpAny_askSetting (wpAny_pure ?_)));refine wpAny_ite_split (fun _=>?_) fun z=>absurd hb z
 refine wpAny_bind (wpAny_askSetting (wpAny_pure ?_));exact wpAny_pure h
theorem aeD{Q:Option (Value×Nat)->Shared->Prop}(hb:O9 w=false)(hp:t.plain=true\/es.size<=1)(hl:t.led=true)(ho:s.heap.get? a=some o)(hd:o.data=.set es ep t)(hf:t.fits es.size=true)(h:Q (match es[SetTable.below t.place sl]?,t.place[SetTable.below t.place sl]? with | some (_,x),some j=>some (x,j+1) | _,_=>none) s):wpAny 'd' A (setNext a sl i ep) Q E s:=by
 unfold setNext;refine wpAny_bind (wpAny_setState_of ho hd hf ?_)
 dsimp only
 unfold setsByText;refine wpAny_bind (wpAny_bind (wpAny_askSetting (wpAny_pure ?_)));refine wpAny_ite_split (fun z=>absurd (show O9 w=true from z) (by rw [hb];simp)) fun _=>?_
 have hdr:(!t.plain&&decide (es.size > 1))=false:=by
  rcases hp with z | z
  .simp [z]
  .simp;lia
 refine wpAny_ite_split (fun z=>?_) fun _=>?_
 .exact absurd (show (!t.plain&&decide (es.size > 1))=true from z) (by rw [hdr];simp)
 refine wpAny_bind (wpAny_ite_split (fun z=>?_) fun _=>wpAny_pure ?_)
 .exact absurd (show (!t.led && !es.isEmpty)=true from z) (by rw [hl];simp)
 exact wpAny_pure h
end
structure SetAt(w:World)(h:Heap)(a:Addr)(o:Obj)(es:Array (Int×Value))(ep:Nat)(t:SetTable):Prop where
 at_:h.get? a=some o
 ex:o.ExactSet
 data:o.data=.set es ep t
 fits:t.fits es.size=true
 led:t.led=!O9 w
 ris:RisA t.place
section
variable {prog:Program} {w:World} {A:Around} {E:Value->Shared->Prop} {s:Shared} {I a T:Addr} {n ep:Nat} {o oT:Obj} {es:Array (Int×Value)} {t:SetTable}
theorem aik(hh:A.handled=none)(hb:O9 w=true)(G7:a≠I)(hd:o.data=.set es ep t)(hf:t.fits es.size=true) :
  Walks prog w A I [I,a] [I] es.size (fun i v=>((pickOrder (w.params.setOrder a ep) es).toList.map (·.2))[i]?=some v) (fun i h=>i<=es.size/\IsSI h I a (rawInt 0) i es.size ep/\h.get? a=some o) where
 sub:=fun b hb=>by simp at hb;simp [hb]
 frame:=fun _ _ _ x hk=>⟨x.1,x.2.1.at fun o e=>hk I 'c' o e,hk a 'c' _ x.2.2⟩
 item:=fun i s Q E hi x hQ=>by
  have hl:(pickOrder (w.params.setOrder a ep) es).size=es.size:=by rw [<- P3,(tZ _ _).length_eq,P3]
  have hx:(pickOrder (w.params.setOrder a ep) es)[i]?=some ((pickOrder (w.params.setOrder a ep) es)[i]'(by lia)):=cO 'b';refine ajI (sl:=0) (nx:=0) (x:=((pickOrder (w.params.setOrder a ep) es)[i]'(by lia)).2) x.2.1 x.2.2 hd hf (fun Q' hq=>af2 hb x.2.2 hd hf ?_) fun h' V9 c9=>?_
  .rw [hx];exact hq
  .have:=hQ ((pickOrder (w.params.setOrder a ep) es)[i]'(by lia)).2 h' s.toks (by rw [P1,eI,hx];rfl) ⟨hi,V9,(c9.2 a G7).trans x.2.2⟩ fun b o hb eo=>c9.extBut b o (fun h=>hb (by simp [h])) eo
   exact this
 done:=fun s Q E x hQ=>by
  have hl:(pickOrder (w.params.setOrder a ep) es).size=es.size:=by rw [<- P3,(tZ _ _).length_eq,P3]
  refine ajJ (sl:=0) hh x.2.1 x.2.2 hd hf (fun Q' hq=>af2 hb x.2.2 hd hf ?_) fun h' mG=>hQ h' s.toks fun b o hb eo=>mG b o (fun h=>hb (by simp [h])) eo
  rw [Array.getElem?_eq_none 'b'];exact hq
 self:=fun _ _ _ _ x hQ=>uA x.2.1 hQ
noncomputable def slotN (t:SetTable) (i:Nat):Nat:=if i=0 then 0 else t.place.getD (i-1) 0+1
theorem aeE{t:SetTable}(h:RisA t.place)(hi:i<=t.place.size):SetTable.below t.place (slotN t i)=i:=by
 refine alw h hi (fun k hk=>?_) fun k h1 h2=>?_
 .unfold slotN;rw [if_neg 'b'];have e:t.place.getD k (t.place.getD (i-1) 0+1)=t.place.getD k 0:=by simp [Array.getD,show k<t.place.size by lia]
  rw [e]
  by_cases z:k=i-1
  .rw [z];lia
  .have:=lC (j:=0) h (show k<i-1 by lia) 'b';lia
 .by_cases hz:i=0
  .rw [show slotN t i=0 by unfold slotN;rw [if_pos hz]];exact J0 _
  .rw [show slotN t i=t.place.getD (i-1) 0+1 by unfold slotN;rw [if_neg hz]];have e:t.place.getD k (t.place.getD (i-1) 0+1)=t.place.getD k 0:=by simp [Array.getD,h2]
   rw [e]
   have:=lC (j:=0) h (show i-1<k by lia) h2;lia
theorem agF(hh:A.handled=none)(hb:O9 w=false)(hp:t.plain=true\/es.size<=1)(hl:t.led=true)(hr:RisA t.place)(G7:a≠I)(hd:o.data=.set es ep t)(hf:t.fits es.size=true) :
  Walks prog w A I [I,a] [I] es.size (fun i v=>(es.toList.map (·.2))[i]?=some v) (fun i h=>i<=es.size/\IsSI h I a (rawInt (slotN t i)) i es.size ep/\h.get? a=some o) where
 sub:=fun b hb=>by simp at hb;simp [hb]
 frame:=fun _ _ _ x hk=>⟨x.1,x.2.1.at fun o e=>hk I 'c' o e,hk a 'c' _ x.2.2⟩
 item:=fun i s Q E hi x hQ=>by
  have hz:t.place.size=es.size:=by simp only [SetTable.fits,W4,beq_iff_eq] at hf;exact hf.1
  have hx:es[i]?=some es[i]:=cO hi;have hy:t.place[i]?=some (t.place[i]'(by lia)):=cO 'b';have e2:(t.place[i]'(by lia))+1=slotN t (i+1):=by unfold slotN;rw [if_neg 'b'];simp [Array.getD,show i<t.place.size by lia]
  refine ajI (sl:=slotN t i) (nx:=slotN t (i+1)) (x:=es[i].2) x.2.1 x.2.2 hd hf (fun Q' hq=>aeD hb hp hl x.2.2 hd hf ?_) fun h' V9 c9=>?_
  .rw [aeE hr 'b',hx,hy]
   dsimp only
   rw [e2];exact hq
  .exact hQ es[i].2 h' s.toks (by rw [P1,eI,hx];rfl) ⟨hi,V9,(c9.2 a G7).trans x.2.2⟩ fun b o hb eo=>c9.extBut b o (fun h=>hb (by simp [h])) eo
 done:=fun s Q E x hQ=>by
  have hz:t.place.size=es.size:=by simp only [SetTable.fits,W4,beq_iff_eq] at hf;exact hf.1
  refine ajJ (sl:=slotN t es.size) hh x.2.1 x.2.2 hd hf (fun Q' hq=>aeD hb hp hl x.2.2 hd hf ?_) fun h' mG=>hQ h' s.toks fun b o hb eo=>mG b o (fun h=>hb (by simp [h])) eo
  rw [aeE hr 'b',Array.getElem?_eq_none 'b'];exact hq
 self:=fun _ _ _ _ x hQ=>uA x.2.1 hQ
theorem agG(hh:A.handled=none)(G7:a≠I)(hneT:T≠I)(hd:o.data=.set es ep t)(hf:t.fits es.size=true){ps:List Nat}(qF:ps.Perm (U0 es.size)){tt:Nat}(hdT:oT.data=.seq (ps.map fun (k:Nat)=>rawInt (k:Int)).toArray tt) :
  Walks prog w A I [I,a,T] [I] es.size (fun i v=>(ps.filterMap fun k=>(es[k]?).map (·.2))[i]?=some v) (fun i h=>i<=es.size/\IsSI h I a (.ref T) i es.size ep/\h.get? a=some o/\h.get? T=some oT) where
 sub:=fun b hb=>by simp at hb;simp [hb]
 frame:=fun _ _ _ x hk=>⟨x.1,x.2.1.at fun o e=>hk I 'c' o e,hk a 'c' _ x.2.2.1,hk T 'c' _ x.2.2.2⟩
 item:=fun i s Q E hi x hQ=>by
  have A6:ps.length=es.size:=by rw [qF.length_eq,gF]
  have hj:ps[i]?=some (ps[i]'(by lia)):=E9 'b';have hjl:ps[i]'(by lia)<es.size:=aS.mp (qF.mem_iff.mp (gH _));have hm:∀ l:List Nat,(∀ k∈l,k<es.size)->(l.filterMap fun k=>(es[k]?).map (·.2))=l.map fun k=>(es.getD k (0,.none)).2:=by
   intro l
   induction l with
   | nil=>intro _;rfl
   | cons y l ih=>intro q;have:=q y K5;rw [aR,cO this];simp [ih fun k hk=>q k (L8 _ hk),Array.getD,this]
  refine alz (ps:=ps) (j:=ps[i]'(by lia)) (y:=(es[ps[i]'(by lia)]).1) (x:=(es[ps[i]'(by lia)]).2) x.2.1 x.2.2.1 hd hf x.2.2.2 hdT hj (cO hjl) fun h' V9 c9=>?_
  refine hQ _ h' s.toks ?_ ⟨hi,V9,(c9.2 a G7).trans x.2.2.1,(c9.2 T hneT).trans x.2.2.2⟩ fun b o hb eo=>c9.extBut b o (fun h=>hb (by simp [h])) eo
  rw [hm _ fun k hk=>aS.mp (qF.mem_iff.mp hk),P1,hj];simp [Array.getD,hjl]
 done:=fun s Q E x hQ=>by
  have A6:ps.length=es.size:=by rw [qF.length_eq,gF]
  exact alA hh x.2.1 x.2.2.1 hd hf x.2.2.2 hdT 'b' fun h' mG=>hQ h' s.toks fun b o hb eo=>mG b o (fun h=>hb (by simp [h])) eo
 self:=fun _ _ _ _ x hQ=>uA x.2.1 hQ
theorem ail{src:Source}{n:Nat}{Q:Nat->Shared->Prop}(hn:n≠0)(h:∀ i d,i<n->Q i { s with drawn:=d }):wpAny 'd' A (choose src n) Q E s:=fun Γ p _=>⟨hn,h _ _ (Nat.mod_lt _ 'b')⟩
theorem ahx{α:Type} : ∀ (n:Nat) (l:List α) (s:Shared) {Q:List α->Shared->Prop},l.length=n->(∀ ps d,ps.Perm l->Q ps { s with drawn:=d })->wpAny 'd' A (drawOrder n l) Q E s
 | 0,l,s,Q,hl,h=>by
  rw [nJ.mp hl] at h ⊢
  unfold drawOrder;exact wpAny_pure (h [] s.drawn .rfl)
 | n+1,[],s,Q,hl,h=>by simp at hl
 | n+1,x::l,s,Q,hl,h=>by
  unfold drawOrder;refine wpAny_bind (ail 'c' fun i d hi=>?_);rw [E9 hi]
  dsimp only
  refine wpAny_bind (ahx n _ _ (by rw [List.length_eraseIdx_of_lt hi,hl];lia) fun ps d' hp=>wpAny_pure (h _ d' ?_));exact (hp.cons _).trans (tY _ i hi)
theorem alB{Q:Value->Shared->Prop}(hh:A.handled=none)(S:SetAt w s.heap a o es ep t)(hz:es.size<scanBound)(hQ:∀ (I:Addr) (h':Heap) (d':_) (vs:List Value) (fp:List Addr) (St:Nat->Heap->Prop),(∀ b o,s.heap.get? b=some o->h'.get? b=some o)->s.heap.objs.size<=I->vs.Perm (es.toList.map (·.2))->(∀ b∈fp,b=a\/s.heap.objs.size<=b)->Walks prog w A I fp [I] es.size (fun i v=>vs[i]?=some v) St->St 0 h'->Q (.ref I) { s with heap:=h',drawn:=d' }) :
  wpAny 'd' A (pyIter 'f') Q E s:=by
 have hT:s.TypeIs 'f' "set":=⟨_,S.at_,S.ex.1⟩
 have C7:a<s.heap.objs.size:=Heap.lt_size S.at_;have h4:scanBound=4096:=rfl;refine wpAny_pyIter_slot hT PySem.F.slot_set_iter (wpAny_call_entry PySem.F.slot_set_iter hT aeh ?_ (PySem.F.args_set_iter_1 _));unfold Builtin.«frozenset.__iter__»;refine wpAny_bind (m:=Builtin.Frozenset.slot0 "__iter__" ⟨[.ref a],[]⟩) (wpAny_of_eq (a:=a) rfl ?_);unfold Builtin.Frozenset.sizeOf;refine wpAny_bind (wpAny_bind (wpAny_setEntries_of S.at_ S.data S.fits (wpAny_pure ?_)));unfold setDrawn setsByText;refine wpAny_bind (wpAny_bind (wpAny_setState_of S.at_ S.data S.fits ?_))
 dsimp only
 refine wpAny_bind (wpAny_bind (wpAny_askSetting (wpAny_pure (wpAny_pure ?_))));have hb0:∀ b:Bool,(! b&&(!t.plain&&decide (es.size > 1)))=true\/(! b&&(!t.plain&&decide (es.size > 1)))=false:=fun b=>by cases (! b&&(!t.plain&&decide (es.size > 1))) <;> simp
 have plainly:(O9 w=true\/(t.plain=true\/es.size<=1))->wpAny 'd' A.in1 (do
   let first <- pure (rawInt 0)
   ret (<- newFields "set_iterator" [first,rawInt 0,.ref a,rawInt es.size,rawInt (<- setEpoch a)])) (fun fin s'=>∃ r,fin=.done (.ret r)/\∃ T' r',s'.TypeIs r T'/\typeLookup (.type T') "__next__"=pure (some r')/\Q r s') E s:=fun hor=>by
  refine wpAny_bind (wpAny_pure (wpAny_bind (wpAny_setEpoch_of S.at_ S.data S.fits ?_)));unfold newFields;refine wpAny_bind (wpAny_newObj_type ?_ (by size_fits));have g:(s.heap.push { cls:=.type "set_iterator",data:=.fields #[rawInt 0,rawInt 0,.ref a,rawInt es.size,rawInt ep] }).get? s.heap.objs.size=some { cls:=.type "set_iterator",data:=.fields #[rawInt 0,rawInt 0,.ref a,rawInt es.size,rawInt ep] }:=Heap.get?_push_size _ rfl;refine wpAny_pure ⟨_,rfl, "set_iterator",_,⟨_,g,rfl⟩,slot_si_next.lookup,?_⟩;have keep:∀ b o,s.heap.get? b=some o->(s.heap.push { cls:=.type "set_iterator",data:=.fields #[rawInt 0,rawInt 0,.ref a,rawInt es.size,rawInt ep] }).get? b=some o:=fun b o e=>Heap.get?_push_of_some _ e
  have ne:a≠s.heap.objs.size:=J4 C7
  by_cases hb:O9 w=true
  .exact hQ s.heap.objs.size _ s.drawn _ _ _ keep (C3 _) ((tZ (w.params.setOrder a ep) es).map _) (fun b hb=>by simp at hb;rcases hb with z | z <;> simp [z]) (aik hh hb ne S.data S.fits) ⟨J0 _,⟨_,g,rfl,rfl⟩,keep _ _ S.at_⟩
  .have jI:O9 w=false:=by simpa using hb
   exact hQ s.heap.objs.size _ s.drawn _ _ _ keep (C3 _) .rfl (fun b hb=>by simp at hb;rcases hb with z | z <;> simp [z]) (agF hh jI (hor.resolve_left hb) (by rw [S.led,jI];rfl) S.ris ne S.data S.fits) ⟨J0 _,⟨_,g,rfl,rfl⟩,keep _ _ S.at_⟩
 refine wpAny_ite_split (fun z=>?_) fun z=>?_
 .have z:(!O9 w&&(!t.plain&&decide (es.size > 1)))=true:=z;simp only [W4,cN,decide_eq_true_eq] at z;refine wpAny_bind (ahx es.size (U0 es.size) s 'c' fun ps d hp=>?_);have hl:ps.length=es.size:=by rw [hp.length_eq,gF]
  refine wpAny_bind (wpAny_newTuple ?_ (by rw [A3,hl,sizeLine_eq];lia));generalize hoT:({ cls:=.type "tuple",data:=.seq (ps.map fun (k:Nat)=>rawInt (k:Int)).toArray } : Obj)=oT;have g0:(s.heap.push oT).get? a=some o:=Heap.get?_push_of_some _ S.at_;have gT:(s.heap.push oT).get? s.heap.objs.size=some oT:=by rw [<- hoT];exact Heap.get?_push_size _ rfl
  refine wpAny_bind (wpAny_setEpoch_of (s:={ s with heap:=s.heap.push oT,drawn:=d }) g0 S.data S.fits ?_);unfold newFields;refine wpAny_bind (wpAny_newObj_type ?_ (by size_fits));have hs1:(s.heap.push oT).objs.size=s.heap.objs.size+1:=by rw [<- hoT];exact size_push' ..
  generalize hoI:({ cls:=.type "set_iterator",data:=.fields #[.ref s.heap.objs.size,rawInt 0,.ref a,rawInt es.size,rawInt ep] } : Obj)=oI;have g:((s.heap.push oT).push oI).get? 'i'=some oI:=by rw [<- hs1,<- hoI];exact Heap.get?_push_size _ rfl
  have keep:∀ b o,s.heap.get? b=some o->((s.heap.push oT).push oI).get? b=some o:=fun b o e=>Heap.get?_push_of_some _ (Heap.get?_push_of_some _ e)
  show wpAny _ _ (ret (.ref (s.heap.push oT).objs.size)) _ _ { s with heap:=(s.heap.push oT).push _,drawn:=d };rw [hs1];have hI:IsSI ((s.heap.push oT).push oI) 'i' a (.ref s.heap.objs.size) 0 es.size ep:=⟨oI,g,by rw [<- hoI],by rw [<- hoI];rfl⟩
  have hdT:oT.data=.seq (ps.map fun (k:Nat)=>rawInt (k:Int)).toArray 0:=by rw [<- hoT]
  have he:∀ l:List Nat,(l.filterMap fun k=>(es[k]?).map (·.2))=(l.filterMap fun k=>es[k]?).map (·.2):=fun l=>by rw [List.map_filterMap]
  refine wpAny_pure ⟨_,rfl, "set_iterator",_,⟨_,g,by rw [<- hoI]⟩,slot_si_next.lookup,?_⟩;refine hQ 'i' _ d _ _ _ keep (y4 _) ?_ (fun b hb=>?_) (agG (T:=s.heap.objs.size) hh (J4 (Nat.lt_succ_of_lt C7)) (J4 (Nat.lt_succ_self _)) S.data S.fits hp hdT) ⟨J0 _,hI,keep _ _ S.at_,Heap.get?_push_of_some _ gT⟩
  .rw [he];refine ((hp.filterMap _).trans ?_).map _;rw [filterMap_getElem?_range]
  .simp at hb;rcases hb with z | z | z <;> simp [z]
 .have z:¬ (!O9 w&&(!t.plain&&decide (es.size > 1)))=true:=z;refine plainly ?_
  by_cases hb:O9 w=true
  .exact .inl hb
  .refine .inr ?_;have jI:O9 w=false:=by simpa using hb
   rw [jI] at z;cases hp:t.plain
   .rw [hp] at z;simp at z;exact .inr z
   .exact .inl rfl
end
section
variable {prog:Program} {w:World} {A:Around} {E:Value->Shared->Prop} {s:Shared} {a:Addr} {ep:Nat} {o:Obj} {es:Array (Int×Value)} {t:SetTable}
theorem alC{Q:Bool->Shared->Prop}(hT:s.TypeIs 'f' "set")(h:Q false s):wpAny 'd' A (Builtin.List.listLengthHint 'f') Q E s:=by
 unfold Builtin.List.listLengthHint;refine wpAny_bind (wpAny_specialOf hT PySem.F.slot_set_len.lookup ?_);generalize hid:("set.__len__" : String)=id0
 wp_delta
 rw [show splitId id0=some ("set", "__len__") from by subst hid;decide +kernel];subst hid;refine wpAny_bind (wpAny_isInstance (T:="set") (b:=true) hT (by rw [isSubtype_type];kernel_rfl) ?_);refine wpAny_ite_split (fun z=>absurd z 'g') fun _=>wpAny_ite_split (fun _=>?_) fun z=>absurd 'e' z
 exact wpAny_bind (wpAny_typeOf hT (wpAny_pure h))
theorem aim{R:Result->Shared->Prop}(hh:A.handled=none)(S0:SetAt w s.heap a o es ep t)(hz:es.size<scanBound)(S:Addr)(res:Value)(ze:Nat)(hSa:S≠a)(hS:s.heap.get? S=some { cls:=.type "list",data:=.seq #[] ze })(hR:∀ h' tk d' (acc':Array Value) c',(∀ b o,b≠S->s.heap.get? b=some o->h'.get? b=some o)->h'.get? S=some { cls:=.type "list",dict:=none,data:=.seq acc' c',slots:=#[] }->acc'.toList.Perm (es.toList.map (·.2))->R (.ok (.ret res)) { s with heap:=h',toks:=tk,drawn:=d' }) :
  wpAny 'd' A.in1 (Builtin.List.listExtendWith (.ref S) 'f' res)
   (fun fin s'=>match fin with | .done f=>R (.ok f) s' | .again c'=>c'.quiet=true/\codeAny 'd' A c' R s') (fun e s'=>R (.error e) s') s:=by
 have hT:s.TypeIs 'f' "set":=⟨_,S0.at_,S0.ex.1⟩
 have hsl:scanBound<=sizeLine:=by rw [sizeLine_eq];decide
 have C7:S<s.heap.objs.size:=Heap.lt_size hS;unfold Builtin.List.listExtendWith;refine wpAny_bind (wpAny_typeOf hT ?_);have h1:Builtin.List.listSameRef (.ref S) 'f'=false:=by simp [Builtin.List.listSameRef,hSa]
 have h2:(Value.type "set" == Value.type "list")=false:=by decide
 have h3:(Value.type "set" == Value.type "tuple")=false:=by decide
 simp only [h1,h2,h3,Bool.or_false,Bool.false_eq_true,if_false];refine wpAny_bind (alB (A:=A.in1) hh S0 hz fun I h' d' vs fp St keep hI hp hfp W st=>?_);have hTy':Shared.TypeIs { s with heap:=h',drawn:=d' } 'f' "set":=⟨_,keep _ _ S0.at_,S0.ex.1⟩
 refine wpAny_bind (wpAny_holding (alC hTy' ?_));have hSf:S∉fp:=fun z=>by
  rcases hfp S z with e | e
  .exact hSa e
  .exact absurd C7 (aW.mpr e)
 have hl:vs.length=es.size:=by rw [hp.length_eq,A3,P3]
 have hS0:=keep _ _ hS;refine wpAny_ite_split (fun _=>?_) fun z=>absurd 'e' z
 refine wpAny_bind (wpAny_rule ?_);refine wpAny_bind ?_;show wpAny _ A.in1 (updateSeq S (·.push .none) >>= fun _=>updateSeq S (·.pop)) _ _ { s with heap:=h',drawn:=d' };refine wpAny_bind (wpAny_updateSeq (s:={ s with heap:=h',drawn:=d' }) hS0 rfl ?_);have zd:=Heap.get?_update_self (Obj.mapSeq (·.push Value.none)) hS0 rfl;refine wpAny_updateSeq (hz:=by seq_fits) zd rfl ?_;have zc:=Heap.get?_update_self (Obj.mapSeq (·.pop)) zd rfl;have oth:∀ b o,b≠S->h'.get? b=some o->((h'.update S (Obj.mapSeq (·.push Value.none))).update S (Obj.mapSeq (·.pop))).get? b=some o:=fun b o hb e=>(Heap.get?_update_other _ _ (Ne.symm hb)).trans ((Heap.get?_update_other _ _ (Ne.symm hb)).trans e)
 refine wpAny_pure ⟨plainId_quiet PySem.F.plain_extend_loop _,?_⟩;refine codeAny_extend_loopS W.toS 'b' S hSf res es.size 0 _ #[] _ rfl (J0 _) (W.frame 0 _ _ st fun b hb o e=>oth b o (fun z=>hSf (z ▸ hb)) e) zc (ItemsOf.nil _) fun s' acc' c' hm hS' V8=>?_
 have e:=Moved.eq_with hm;rw [e];refine hR s'.heap s'.toks d' acc' c' (fun b o hb e=>hm.heap b o (fun O1=>?_) (oth b o hb (keep b o e))) hS' ?_
 .rcases F9.mp O1 with e' | O1
  .exact hb e'
  .have:=Heap.lt_size e;rw [D3.mp O1] at this;exact absurd this (aW.mpr hI)
 .have:acc'.toList=vs:=by
   refine List.ext_getElem? fun j=>?_
   by_cases hj:j<es.size
   .have jH:j<acc'.size:=by rw [V8.1];exact hj
    rw [V8.2 j acc'[j] (cO jH),eI,cO jH]
   .rw [List.getElem?_eq_none (by rw [P3,V8.1];lia),List.getElem?_eq_none 'b']
  rw [this];exact hp
theorem agH{Q:List Value->Shared->Prop}(hh:A.handled=none)(S0:SetAt w s.heap a o es ep t)(hz:es.size<scanBound)(hQ:∀ h' tk d' (vs:List Value),(∀ b o,s.heap.get? b=some o->h'.get? b=some o)->s.heap.objs.size<=h'.objs.size->vs.Perm (es.toList.map (·.2))->Q vs { s with heap:=h',toks:=tk,drawn:=d' }) :
  wpAny 'd' A (collect 'f') Q E s:=by
 unfold collect;refine wpAny_bind (wpAny_runValue (codeAny_builtin entry_proto_collect' ?_));show wpAny _ _ (do again (.builtin "list.__iadd__" ⟨[<- newList [],.ref a],[]⟩)) _ _ s;have hr:a<s.heap.objs.size:=Heap.lt_size S0.at_;have hS:(s.heap.push (seqObj "list" #[] 0)).get? s.heap.objs.size=some { cls:=.type "list",data:=.seq #[] 0 }:=Heap.get?_push_size _ rfl;refine wpAny_bind (wpAny_newList (wpAny_pure ⟨Code.quiet_builtin _ 'e',codeAny_builtin entry_list_iadd' ?_⟩));rw [Around.under_plainId (show plainId "list.__iadd__"=true by decide +kernel) _];show wpAny _ _ (Builtin.List.listExtendWith (.ref s.heap.objs.size) 'f' (.ref s.heap.objs.size)) _ _ { s with heap:=s.heap.push (seqObj "list" #[] 0) };refine aim (R:=fun r s'=>match r with | .ok (.ret v)=>wpAny 'd' A (match v with | .ref a=>(do let o <- load a;match o.data with | .seq xs _=>pure xs.toList | _=>unsupported "internal:collect") | _=>unsupported "internal:collect") Q E s' | .ok _=>False | .error e=>E e s') (s:={ s with heap:=s.heap.push (seqObj "list" #[] 0) }) (A:=A) hh ⟨Heap.get?_push_of_some _ S0.at_,S0.ex,S0.data,S0.fits,S0.led,S0.ris⟩ hz _ _ 0 (q9 hr) hS (fun h' tk d' acc' c' hk hS' V8=>?_);show wpAny 'd' A (do
   let o <- load s.heap.objs.size
   match o.data with
   | .seq xs _=>pure xs.toList
   | _=>unsupported "internal:collect") Q E { s with heap:=h',toks:=tk,drawn:=d' }
 refine wpAny_bind (wpAny_load hS' ?_);exact wpAny_pure (hQ h' tk d' acc'.toList (fun b o e=>hk b o (J4 (Heap.lt_size e)) (Heap.get?_push_of_some _ e)) (Nat.le_of_lt (Heap.lt_size hS')) V8)
end
noncomputable def SetV (P:Program) (w:World) (a:Addr) (Y:List A7):HO:=.ext fun h=>SetW (M4 P w) h a Y (!O9 w)
theorem anV{P:Program}{w:World}{Y:List A7}(x:SetW (M4 P w) h a Y (!O9 w)):ObjOk P w H h a (SetV P w a Y):=
 ⟨x,by obtain ⟨o,_,_,_,ho,_⟩:=x;exact ⟨o,ho⟩,fun _ _ y k=>SetW.at y k⟩
noncomputable def ajK (P:Program) (w:World) (K:PySem.W.Frag) (calm:Bool):List V->Hp->VK->Prop:=fun xs H Q=>calm=true/\∃ (p:Addr) (ks:List A7),xs=[.ref p]/\D6 K H p (ks.map kV)/\ks.length+1<4096/\∀ l,H l=none->Q (.ref l) (A0 H l (SetV P w l (metK ks)))
noncomputable def rLenV (P:Program) (w:World):List V->Hp->VK->Prop:=fun xs H Q=>∃ (p:Addr) (Y:List A7),xs=[.ref p]/\H p=some (SetV P w p Y)/\Q (.int Y.length) H
section
variable {X:Cx} {P:Program} {w:World} {K:PySem.W.Frag} {calm:Bool}
theorem uB(hP:X.prog=P:=by rfl)(hw:X.w=w:=by rfl)(hK:X.K=K:=by rfl)(hc:X.calm=calm:=by rfl):QCall X (.type "set") (ajK P w K calm):=⟨by
 subst hP hw hK;intro pins s Y H xs us Q I r h;obtain ⟨v2,p,ks,rfl,hp,A6,q⟩:=h;obtain ⟨u,rfl,rx⟩:=vals1 r
 cases rx
 obtain ⟨its,r',pl,hz⟩:=I.list hp;obtain ⟨ol,nl,fL,fM,qA,b8⟩:=pl;have hl:=r'.length;rw [A3] at hl;have hsz:its.toArray.size=ks.length:=by rw [K3,hl]
 refine ajH (knd:=M4 X.prog X.w) (I.ok.hd (hc.trans v2)) ⟨ol,fL,fM,nl,b8⟩ (fun i=>ks.getD i (Sum.inl 0)) (fun i v hv=>?_) (by rw [hsz];exact A6) fun h' tk hS keep=>?_
 .rw [<- eI] at hv;have hi:i<ks.length:=by
   have:=(F8.mp hv).1
   simp only [List.toList_toArray] at this;lia
  obtain ⟨u',h1,h2⟩:=Vals.get r' (i:=i) (x:=kV ks[i]) (by rw [P1,E9 hi];rfl);have e:u'=v:=by simp only [List.toList_toArray] at hv;rw [h1] at hv;exact Option.some.inj hv
  subst e;have e2:ks.getD i (Sum.inl 0)=ks[i]:=by rw [o9,E9 hi];rfl
  have hk:(M4 X.prog X.w).is (ks.getD i (Sum.inl 0)) u'=true:=by rw [e2];exact kV_is h2
  exact ⟨hk,alu hk⟩
 .rw [hsz] at hS;exact ⟨.ref s.heap.objs.size,_,I.laid (t':=tk) keep (C3 _) (anV hS),rfl,q _ (I.hok.fresh (C3 _))⟩⟩
theorem aqZ(hP:X.prog=P:=by rfl)(hw:X.w=w:=by rfl):QCall X (.builtin "len") (rLenV P w):=⟨by
 subst hP hw;intro pins s Y H xs us Q I r h;obtain ⟨p,τ,rfl,hp,q⟩:=h;obtain ⟨u,rfl,rx⟩:=vals1 r
 cases rx
 obtain ⟨o,es,ep,t,ho,bR,hd,W0,O1,hb,hf,hn,_⟩:=(I.hok p _ hp).1;have h4:scanBound=4096:=rfl;have h63:(2:Int) ^ 63=9223372036854775808:=by decide
 refine call_len_set ho bR hd hf (by rw [hn];lia) ?_;rw [hn];exact ⟨.int τ.length,H,(I.tok _),⟨_,rfl⟩,q⟩⟩
end
theorem uC:∀ xs ys:List Nat,xs=ys\/xs<ys\/ys<xs
 | [],[]=>.inl rfl
 | [],_::_=>.inr (.inl (List.nil_lt_cons _ _))
 | _::_,[]=>.inr (.inr (List.nil_lt_cons _ _))
 | x::xs,y::ys=>by
  rcases gJ x y with h | h | h
  .exact .inr (.inl (nM.mpr (.inl h)))
  .subst h
   rcases uC xs ys with h | h | h
   .exact .inl (by rw [h])
   .exact .inr (.inl (nM.mpr (.inr ⟨rfl,h⟩)))
   .exact .inr (.inr (nM.mpr (.inr ⟨rfl,h⟩)))
  .exact .inr (.inr (nM.mpr (.inl h)))
noncomputable def Z4 (a b:Str):Prop:=¬ b.cps.toList<a.cps.toList
theorem aq0{a b c:Str}(h1:Z4 a b)(h2:Z4 b c):Z4 a c:=fun h=>by
 rcases uC b.cps.toList a.cps.toList with e | e | e
 .exact h2 (by rw [e];exact h)
 .exact h1 e
 .exact h2 (List.lt_trans h e)
theorem alD{a b:Str}(h1:Z4 a b)(h2:Z4 b a):a=b:=by
 rcases uC a.cps.toList b.cps.toList with e | e | e
 .cases a;cases b;congr;exact Array.toList_inj.mp e
 .exact absurd e h2
 .exact absurd e h1
theorem ajM:∀ (l:List Str) (p:Str),risingS p l=true->(∀ y∈l,Z4 p y)/\l.Pairwise Z4
 | [],p,_=>⟨fun y hy=>(by cases hy),.nil⟩
 | x::l,p,h=>by
  simp only [risingS,W4,cN,ltCps_eq,decide_eq_false_iff_not] at h;obtain ⟨a,b⟩:=ajM l x h.2;refine ⟨fun y hy=>?_,jZ.mpr ⟨a,b⟩⟩
  rcases F9.mp hy with rfl | hy
  .exact h.1
  .exact aq0 h.1 (a y hy)
theorem af3:∀ {l:List Str},sortedS l=true->l.Pairwise Z4
 | [],_=>.nil
 | x::l,h=>by obtain ⟨a,b⟩:=ajM l x h;exact jZ.mpr ⟨a,b⟩
theorem adY:∀ {l m:List Str},l.Pairwise Z4->m.Pairwise Z4->l.Perm m->l=m
 | [],m,_,_,h=>(List.Perm.nil_eq h)
 | x::l,[],_,_,h=>absurd h.length_eq 'c'
 | x::l,y::m,h1,h2,h=>by
  obtain ⟨a1,b1⟩:=jZ.mp h1;obtain ⟨a2,b2⟩:=jZ.mp h2;have e:x=y:=by
   rcases F9.mp (h.mem_iff.mp K5) with e | e
   .exact e
   .rcases F9.mp (h.mem_iff.mpr (K5 (a:=y) (l:=m))) with e' | e'
    .exact e'.symm
    .exact alD (a1 y e') (a2 x e)
  subst e;rw [adY b1 b2 ((List.perm_cons x).mp h)]
theorem pG{α:Type}[DecidableEq α]:∀ {Y ks:List α},Y.Nodup->(∀ x∈Y,x∈ks)->ks.length<=Y.length->ks.Perm Y
 | [],ks,_,_,h=>by rw [nJ.mp (Nat.le_zero.mp h)]
 | x::Y,ks,hn,hs,h=>by
  obtain ⟨hx,dH⟩:=Y0.mp hn;have hm:=hs x K5;have p:=List.perm_cons_erase hm;refine p.trans (List.Perm.cons x (pG dH (fun y hy=>?_) ?_))
  .have G7:y≠x:=fun e=>hx (e ▸ hy)
   exact (nN G7).mpr (hs y (L8 _ hy))
  .rw [dY hm];simp at h;lia
theorem ajN{K:Type}[DecidableEq K](f:Nat->K):∀ i,(metN f i).Nodup
 | 0=>.nil
 | i+1=>by
  have ih:=ajN f i;show (addK (metN f i) (f i)).Nodup;unfold addK
  split
  .exact ih
  .rename_i h
   rw [X8];exact ⟨ih,by simp,fun a ha b hb e=>h (by simp at hb;rw [<- hb,<- e];exact ha)⟩
theorem ahy{K:Type}[DecidableEq K](f:Nat->K):∀ i k,k∈metN f i↔∃ j,j<i/\f j=k
 | 0,k=>by simp [metN]
 | i+1,k=>by
  show k∈addK (metN f i) (f i)↔_;have e:k∈addK (metN f i) (f i)↔k∈metN f i\/k=f i:=by
   unfold addK;split
   .rename_i h;constructor
    .exact .inl
    .rintro (z | z)
     .exact z
     .rw [z];exact h
   .simp
  rw [e,ahy f i k]
  constructor
  .rintro (⟨j,hj,z⟩ | z)
   .exact ⟨j,by lia,z⟩
   .exact ⟨i,by lia,z.symm⟩
  .rintro ⟨j,hj,z⟩
   by_cases q:j=i
   .exact .inr (by rw [<- z,q])
   .exact .inl ⟨j,by lia,z⟩
theorem ajO(ks:List A7):(metK ks).Nodup:=ajN _ _
theorem metK_mem{ks:List A7}{k:A7} : k∈metK ks↔k∈ks:=by
 unfold metK;rw [ahy]
 constructor
 .rintro ⟨j,hj,e⟩;rw [o9,E9 hj] at e;exact e ▸ gH hj
 .intro h;obtain ⟨j,hj,e⟩:=List.getElem_of_mem h;exact ⟨j,hj,by rw [o9,E9 hj];exact e⟩
theorem ajP:∀ {vs:List Value},(∀ v∈vs,∃ k:A7,keyIs k v=true)->∃ ks:List A7,Vals (ks.map kV) vs/\∀ v∈vs,∃ k∈ks,keyIs k v=true
 | [],_=>⟨[],.nil,fun v hv=>by cases hv⟩
 | v::vs,h=>by
  obtain ⟨k,hk⟩:=h v K5;obtain ⟨ks,r,m⟩:=ajP fun v' dJ=>h v' (L8 _ dJ)
  refine ⟨k::ks,.cons ?_ r,fun v' dJ=>?_⟩
  .rcases f9 hk with ⟨i,t,rfl,rfl⟩ | ⟨x,t,rfl,rfl⟩
   .exact ⟨t,rfl⟩
   .exact ⟨t,rfl⟩
  .rcases F9.mp dJ with rfl | z
   .exact ⟨k,K5,hk⟩
   .obtain ⟨k',a,b⟩:=m v' z;exact ⟨k',L8 _ a,b⟩
theorem alE{P:Program}{w:World}{es:Array (Int×Value)}{Y:List A7}{vs:List Value}(W0:ElemsOf (M4 P w) es.toList)(O1:∀ k,k∈Y↔∃ e∈es.toList,(M4 P w).is k e.2=true)(hn:es.size=Y.length)(bV:Y.Nodup)(hp:vs.Perm (es.toList.map (·.2))):∃ ks:List A7,Vals (ks.map kV) vs/\ks.Perm Y:=by
 obtain ⟨ks,r,m⟩:=ajP (vs:=vs) fun v hv=>by
  obtain ⟨e,he,rfl⟩:=D0.mp (hp.mem_iff.mp hv);obtain ⟨⟨k,hk,_⟩,_⟩:=W0 e he;exact ⟨k,hk⟩
 have hl:ks.length=Y.length:=by
  have h1:=r.length;have h2:=hp.length_eq;rw [A3] at h1 h2;rw [show es.toList.length=es.size from P3] at h2;lia
 refine ⟨ks,r,pG bV (fun k hk=>?_) 'b'⟩;obtain ⟨e,he,q⟩:=(O1 k).mp hk;obtain ⟨k',a,b⟩:=m e.2 (hp.mem_iff.mpr (D0.mpr ⟨e,he,rfl⟩));rw [(M4 P w).inj e.2 k k' q b];exact a
theorem alF{ks:List A7}(h:ks.Perm (ns.map Sum.inl)):∃ ms:List Int,ks=ms.map Sum.inl/\ms.Perm ns:=by
 refine ⟨ks.map fun k=>k.elim id fun _=>0,?_,?_⟩
 .rw [Q5]
  have:∀ k∈ks,(Sum.inl∘fun k:A7=>k.elim id fun _=>0) k=k:=fun k hk=>by
   obtain ⟨n,_,rfl⟩:=D0.mp (h.mem_iff.mp hk);rfl
  rw [aQ this];simp
 .have:=h.map fun k:A7=>k.elim id fun _=>0
  rwa [Q5,show ((fun k:A7=>k.elim id fun _=>0)∘Sum.inl)=(id:Int->Int) from rfl,List.map_id] at this
theorem alG{ks:List A7}{ss:List Str}(h:ks.Perm (ss.map Sum.inr)):∃ ms:List Str,ks=ms.map Sum.inr/\ms.Perm ss:=by
 refine ⟨ks.map fun k=>k.elim (fun _=>Str.ofString "") id,?_,?_⟩
 .rw [Q5]
  have:∀ k∈ks,(Sum.inr∘fun k:A7=>k.elim (fun _=>Str.ofString "") id) k=k:=fun k hk=>by
   obtain ⟨n,_,rfl⟩:=D0.mp (h.mem_iff.mp hk);rfl
  rw [aQ this];simp
 .have:=h.map fun k:A7=>k.elim (fun _=>Str.ofString "") id
  rwa [Q5,show ((fun k:A7=>k.elim (fun _=>Str.ofString "") id)∘Sum.inr)=(id:Str->Str) from rfl,List.map_id] at this
theorem uD:∀ {zs:List Str} {us:List Value},StrsAre us zs->Vals (zs.map V.str) us
 | [],[],_=>.nil
 | z::zs,u::us,h=>by
  obtain ⟨⟨t,e⟩,r⟩:(∃ t,u=Value.str z t)/\StrsAre us zs:=by first | exact h | (cases h;exact ⟨⟨_,rfl⟩,by assumption⟩)
  exact .cons ⟨t,e⟩ (uD r)
 | [],_::_,h=>by first | exact h.elim | cases h
 | _::_,[],h=>by first | exact h.elim | cases h
theorem Inv.drew(I:Inv X pins Y H s)(d:_):Inv X pins Y H { s with drawn:=d }:=
 ⟨I.ok,I.os,I.bare,I.base,I.loc,I.cell,I.free,I.freeC,I.pin,I.hok,I.len⟩
noncomputable def ajQ (P:Program) (w:World) (calm:Bool):List V->Hp->VK->Prop:=fun xs H Q=>calm=true/\∃ (p:Addr) (ns:List Int),xs=[.ref p]/\H p=some (SetV P w p (ns.map Sum.inl))/\ns.Nodup/\ns.length<64/\∀ (l:Addr) (ms:List Int),H l=none->ms.Perm ns->ms.Pairwise (·<=·)->Q (.ref l) (A0 H l (.lst (ms.map V.int)))
noncomputable def ajR (P:Program) (w:World) (calm:Bool):List V->Hp->VK->Prop:=fun xs H Q=>calm=true/\∃ (p:Addr) (ss:List Str),xs=[.ref p]/\H p=some (SetV P w p (ss.map Sum.inr))/\ss.Nodup/\ss.length<64/\∀ (l:Addr) (ts:List Str),H l=none->ts.Perm ss->ts.Pairwise Z4->Q (.ref l) (A0 H l (.lst (ts.map V.str)))
noncomputable def ajS:List V->Hp->VK->Prop:=fun xs H Q=>∃ (p:Addr) (ss:List Str),xs=[.ref p]/\H p=some (.lst (ss.map V.str))/\ss.length<64/\∀ (l:Addr) (ts:List Str),H l=none->ts.Perm ss->ts.Pairwise Z4->Q (.ref l) (A0 H l (.lst (ts.map V.str)))
section
variable {X:Cx} {P:Program} {w:World} {calm:Bool}
theorem pH{α β:Type}{f:α->β}(hf:∀ a b,f a=f b->a=b):∀ {l:List α},l.Nodup->(l.map f).Nodup
 | [],_=>.nil
 | x::l,h=>by
  obtain ⟨a,b⟩:=Y0.mp h;refine Y0.mpr ⟨fun z=>?_,pH hf b⟩;obtain ⟨y,hy,e⟩:=D0.mp z;exact a (hf _ _ e ▸ hy)
theorem af4{τ:List A7}{E:Value->Shared->Prop}{Q:Value->Shared->Prop}(I:Inv X pins Y H s)(hh:X.A.handled=none)(hp:H p=some (SetV X.prog X.w p τ))(bV:τ.Nodup)(hz:τ.length<64)(h:∀ (h3:Heap) (t3:Nat) (d3:_) (vs:List Value) (ks:List A7),Inv X pins Y H { s with heap:=h3,toks:=t3,drawn:=d3 }->s.heap.objs.size<=h3.objs.size->Vals (ks.map kV) vs->ks.Perm τ->vs.length<64->wpAny 'a' X.A.in1 (call (.builtin "list.sort") [.ref h3.objs.size]) (fun _ s'=>Q (.ref h3.objs.size) s') E { s with heap:=h3.push (seqObj "list" vs.toArray 0),toks:=t3,drawn:=d3 }) :
  wpAny 'a' X.A (call (.builtin "sorted") [.ref p]) Q E s:=by
 obtain ⟨o,es,ep,t,ho,bR,hd,W0,O1,hb,hf,hn,dO,qC⟩:=(I.hok p _ hp).1;refine Calls.call_function_entry kind_sorted plain_sorted entry_sorted (args_sorted1 _) ?_;unfold Builtin.«sorted»;refine wpAny_bind (m:=checkCount "sorted" 1 1 _) (wpAny_pure ?_);refine wpAny_bind (agH (A:=X.A.in1) hh ⟨ho,bR,hd,hf,dO,qC⟩ hb fun h3 t3 d3 vs keep hsz v9=>?_);obtain ⟨ks,r,hk⟩:=alE W0 O1 hn bV v9;have hl:vs.length=τ.length:=by rw [v9.length_eq,A3,P3,hn]
 have hs6:(64:Nat)<=sizeLine:=by rw [sizeLine_eq];decide
 refine wpAny_bind (wpAny_newList ?_ 'b');have I3:=(I.kept (t':=t3) keep).drew d3;refine wpAny_bind (wpAny_holding (wpAny_mono (h h3 t3 d3 vs ks I3 hsz r hk 'b') (fun _ s' z=>?_) fun _ _ z=>z));exact wpAny_pure ⟨_,rfl,z⟩
theorem ahA{h3:Heap}{t3:Nat}{d3:_}{vs:List Value}{out:Array Value}(I:Inv X pins Y H { s with heap:=h3,toks:=t3,drawn:=d3 })(r:Vals ys out.toList)(hz:ys.length<64) :
  Inv X pins Y (A0 H h3.objs.size (.lst ys)) { s with heap:=sortedHeap (h3.push (seqObj "list" vs.toArray 0)) h3.objs.size vs out,toks:=t3,drawn:=d3 }/\H h3.objs.size=none:=by
 have g:(h3.push (seqObj "list" vs.toArray 0)).get? h3.objs.size=some (seqObj "list" vs.toArray 0):=Heap.get?_push_size _ rfl;obtain ⟨e,he⟩:=sortedHeap_at (out:=out) g;have hs6:(64:Nat)<=sizeLine:=by rw [sizeLine_eq];decide
 refine ⟨I.laid (a:=h3.objs.size) (o:=.lst ys) (t':=t3) (fun b o e=>?_) (C3 _) ⟨by lia,out.toList,e,r,?_⟩,I.hok.fresh (C3 _)⟩
 .have C7:b<h3.objs.size:=Heap.lt_size e;rw [sortedHeap_old (J4 C7) (by rw [size_push'];exact Nat.lt_succ_of_lt C7)];exact Heap.get?_push_of_some _ e
 .rw [he]
theorem alH(hP:X.prog=P:=by rfl)(hw:X.w=w:=by rfl)(hc:X.calm=calm:=by rfl):QCall X (.builtin "sorted") (ajQ P w calm):=⟨by
 subst hP hw;intro pins s Y H xs us Q I r h;obtain ⟨v2,p,ns,rfl,hp,bV,h64,q⟩:=h;obtain ⟨u,rfl,ru⟩:=vals1 r
 cases ru
 refine af4 I (I.ok.hd (hc.trans v2)) hp (pH (fun a b e=>Sum.inl.inj e) bV) (by rw [A3];exact h64) fun h3 t3 d3 vs ks I3 hsz r3 hk hv=>?_
 obtain ⟨ms,rfl,hm⟩:=alF hk;have r4:Vals (ms.map V.int) vs:=by rw [Q5] at r3;exact r3
 have g:(h3.push (seqObj "list" vs.toArray 0)).get? h3.objs.size=some (seqObj "list" vs.toArray 0):=Heap.get?_push_size _ rfl;refine wpAny_call_entry slot_list_sort ⟨_,g,rfl⟩ entry_list_sort (list_sort_tree g (rM r4) hv fun out ns' a1 a2 a3=>⟨_,rfl,?_⟩) (args_list_sort _);obtain ⟨J,hn⟩:=ahA (vs:=vs) I3 (rR a1) (by rw [A3,a2.length_eq,hm.length_eq];exact h64);exact ⟨.ref _,_,J,rfl,q _ ns' hn (a2.trans hm) a3⟩⟩
theorem alI(hP:X.prog=P:=by rfl)(hw:X.w=w:=by rfl)(hc:X.calm=calm:=by rfl):QCall X (.builtin "sorted") (ajR P w calm):=⟨by
 subst hP hw;intro pins s Y H xs us Q I r h;obtain ⟨v2,p,ss,rfl,hp,bV,h64,q⟩:=h;obtain ⟨u,rfl,ru⟩:=vals1 r
 cases ru
 refine af4 I (I.ok.hd (hc.trans v2)) hp (pH (fun a b e=>Sum.inr.inj e) bV) (by rw [A3];exact h64) fun h3 t3 d3 vs ks I3 hsz r3 hk hv=>?_
 obtain ⟨ms,rfl,hm⟩:=alG hk;have r4:Vals (ms.map V.str) vs:=by rw [Q5] at r3;exact r3
 have g:(h3.push (seqObj "list" vs.toArray 0)).get? h3.objs.size=some (seqObj "list" vs.toArray 0):=Heap.get?_push_size _ rfl;have hS:=oM r4;refine wpAny_call_entry slot_list_sort ⟨_,g,rfl⟩ entry_list_sort (list_sort_treeK strKind_oneLt g hS.keysOf (fun zb za rest e=>keyKind_strs (by rw [<- e];exact hS)) hv fun st' a1 a2=>⟨_,rfl,?_⟩) (args_list_sort _);obtain ⟨ss',b1,b2,b3⟩:=sorted_out_str hS a1 a2;obtain ⟨J,hn⟩:=ahA (vs:=vs) I3 (uD b1) (by rw [A3,b2.length_eq,hm.length_eq];exact h64);exact ⟨.ref _,_,J,rfl,q _ ss' hn (b2.trans hm) (af3 b3)⟩⟩
theorem alJ:QCall X (.builtin "sorted") ajS:=⟨by
 intro pins s Y H xs us Q I r h;obtain ⟨p,ss,rfl,hH,h64,q⟩:=h;obtain ⟨u,rfl,ru⟩:=vals1 r
 cases ru
 obtain ⟨z,its,n,rr,hl,e⟩:=I.lstM hH;have hS:=oM rr;rw [A3] at hl;refine sorted_strs (vs:=its) (ss:=ss) ⟨_,e,rfl,n,rfl⟩ hS 'b' fun out ss' a1 a2 a3=>?_
 obtain ⟨ep,he⟩:=sortedAll_at s.heap its out;have hz:(ss'.map V.str).length<=sizeLine:=by rw [A3,a2.length_eq,sizeLine_eq];lia
 refine ⟨.ref 'i',_,I.laid (a:=s.heap.objs.size+1) (o:=.lst (ss'.map V.str)) (t':=s.toks) (fun _ _=>sortedAll_old) (y4 _) ⟨hz,out.toList,ep,uD a1,?_⟩,rfl,q _ ss' (I.hok.fresh (y4 _)) a2 (af3 a3)⟩;rw [he]⟩
end
theorem alK{P:Program}{w:World} : ajQ P w true [.ref p] H Q=∃ ns:List Int,H p=some (SetV P w p (ns.map Sum.inl))/\ns.Nodup/\ns.length<64/\∀ (l:Addr) (ms:List Int),H l=none->ms.Perm ns->ms.Pairwise (·<=·)->Q (.ref l) (A0 H l (.lst (ms.map V.int))):=
 propext ⟨fun ⟨_,_,ns,e,h⟩=>(by cases e;exact ⟨ns,h⟩),fun ⟨ns,h⟩=>⟨rfl,p,ns,rfl,h⟩⟩
theorem alL{P:Program}{w:World} : ajR P w true [.ref p] H Q=∃ ss:List Str,H p=some (SetV P w p (ss.map Sum.inr))/\ss.Nodup/\ss.length<64/\∀ (l:Addr) (ts:List Str),H l=none->ts.Perm ss->ts.Pairwise Z4->Q (.ref l) (A0 H l (.lst (ts.map V.str))):=
 propext ⟨fun ⟨_,_,ns,e,h⟩=>(by cases e;exact ⟨ns,h⟩),fun ⟨ns,h⟩=>⟨rfl,p,ns,rfl,h⟩⟩
theorem alM : ajS [.ref p] H Q=∃ ss:List Str,H p=some (.lst (ss.map V.str))/\ss.length<64/\∀ (l:Addr) (ts:List Str),H l=none->ts.Perm ss->ts.Pairwise Z4->Q (.ref l) (A0 H l (.lst (ts.map V.str))):=
 propext ⟨fun ⟨_,ns,e,h⟩=>(by cases e;exact ⟨ns,h⟩),fun ⟨ns,h⟩=>⟨p,ns,rfl,h⟩⟩
theorem alN{P:Program}{w:World} : ajK P w K true [.ref p] H Q=∃ ks:List A7,D6 K H p (ks.map kV)/\ks.length+1<4096/\∀ l,H l=none->Q (.ref l) (A0 H l (SetV P w l (metK ks))):=
 propext ⟨fun ⟨_,_,ns,e,h⟩=>(by cases e;exact ⟨ns,h⟩),fun ⟨ns,h⟩=>⟨rfl,p,ns,rfl,h⟩⟩
theorem aq1{P:Program}{w:World} : rLenV P w [.ref p] H Q=∃ Y:List A7,H p=some (SetV P w p Y)/\Q (.int Y.length) H:=
 propext ⟨fun ⟨_,ns,e,h⟩=>(by cases e;exact ⟨ns,h⟩),fun ⟨ns,h⟩=>⟨p,ns,rfl,h⟩⟩
noncomputable def rNotD (K:PySem.W.Frag) (x y:V) (H:Hp) (Q:VK):Prop:=∃ (d:PyData) (ds:List PyData),Dn K H x d/\Dn K H y (.list ds)/\min (r0 ds) d.depth<=60/\Q (.bl (!(ds.any fun e=>Q7 e d))) H
theorem aq2(hu:X.A.units+64<cLine)(hK:X.K=K:=by rfl):QOp X (compareOp .NotIn) (rNotD K):=by
 subst hK;refine ⟨?_⟩;sleep 0;obtain ⟨d,ds,h1,h2,h3,q⟩:=h;obtain ⟨c1,as1,r1⟩:=h1.reads I rfl rx;obtain ⟨c2,as2,r2⟩:=h2.reads I rfl ry;exact SeqAt.notIn_list_reads r2 r1 c2 c1 'b' ⟨.bl _,H,I,rfl,q⟩
theorem anW{x:V} : rNotD K x y H Q=∃ (d:PyData) (ds:List PyData),Dn K H x d/\Dn K H y (.list ds)/\min (r0 ds) d.depth<=60/\Q (.bl (!(ds.any fun e=>Q7 e d))) H:=rfl
section
variable {prog:Program} {w:World} {A:Around} {E:Value->Shared->Prop} {h:Heap} {g:Array GenState} {d:Drawn} {t:Nat} {os:OsState}
variable {nm q:Str} {C N:Addr} {bs bm bmB:List Value} {Q2:Bool} {sn:List Str} {sub:List Value} {ab:Bool} {col:Option Bool} {dd:Option Addr} {k0 k1 k2 k3 k5:Option Value} {B Bn newId nid initId inN:String} {bmN:List Value}
theorem alO(Fn:ExcBaseFacts Bn newId inN bmN)(hBn:bmB.contains (.type Bn)=true)(F:ExcBaseFacts B nid initId bmB)(T:OwnTail h bmB bm){mN:Str->Option Value}{rest:List Value}{of:Obj}{Q:Value->Shared->Prop}(hC:h.get? C=some (excClassObj nm q C N bs bm Q2 sn sub ab col dd k0 k1 k2 k3 k5 newId))(hn:h.Ns N mN)(wT:mN "__init__"=some (.ref f))(o4:h.get? f=some of)(dP:of.cls=.type "function")(Z9:rest.length<=sizeLine)(hq:codeAny 'd' (A.under (.builtin "type.__call__" ⟨.ref C::rest,[]⟩)) (.call (.ref f) ⟨.ref (h.objs.size+1)::rest,[]⟩) (fun r s'=>match r with | .ok (.ret v)=>v=.none/\Q (.ref (h.objs.size+1)) s' | .ok _=>False | .error e=>E e s')
   ⟨(h.push { cls:=.type "tuple",data:=.seq rest.toArray }).push { cls:=.ref C,data:=.fields #[.ref h.objs.size,.none,.none,.none,.bool false,.none] },g,d,t,os⟩) :
  wpAny 'd' A (call (.ref C) rest) Q E ⟨h,g,d,t,os⟩:=by
 have f1:=tc_lookup;have f2:=tc_bind (.ref C);have hT:(⟨h,g,d,t,os⟩:Shared).TypeIs (.ref C) "type":=⟨_,hC,rfl⟩
 refine wpAny_call (codeAny_of_tree ?_);show wpAny _ _ (callAny (.ref C) _) _ _ _
 repeat (any_goals (first | assumption | with_reducible refine wpAny_loadPart_at hC ?_ | wp_step))
 refine ⟨rfl,?_⟩;refine codeAny_call_builtin_at (Code.quiet_builtin _ 'e') entry_typeCall (wpAny_check_type_call_sub hC ?_)
 repeat (first | with_reducible refine wpAny_loadPart_at hC ?_ | with_reducible refine wpAny_madeBy_exc hC ?_ | wp_step)
 refine codeAny_call_builtin_code (Code.quiet_builtin _ Fn.quiet) (wpAny_check_new_subU Fn hBn T hC ?_);refine codeAny_exc_new_subU Fn hBn F T hC ?_ Z9;show wpAny _ _ _ _ _ ⟨(h.push { cls:=.type "tuple",data:=.seq rest.toArray }).push { cls:=.ref C,data:=.fields #[.ref h.objs.size,.none,.none,.none,.bool false,.none] },g,d,t,os⟩;generalize hh1:((h.push { cls:=.type "tuple",data:=.seq rest.toArray }).push { cls:=.ref C,data:=.fields #[.ref h.objs.size,.none,.none,.none,.bool false,.none] })=h1 at hq ⊢
 have keep:∀ b o,h.get? b=some o->h1.get? b=some o:=fun b o e=>by rw [<- hh1];exact Heap.get?_push_of_some _ (Heap.get?_push_of_some _ e)
 have hC1:=keep _ _ hC;have mH:h1.Ns N mN:=let ⟨o,es,ep,e,r⟩:=hn;⟨o,es,ep,keep _ _ e,r⟩
 have wU:h1.get? (h.objs.size+1)=some { cls:=.ref C,data:=.fields #[.ref h.objs.size,.none,.none,.none,.bool false,.none] }:=by rw [<- hh1];heap_get
 have hcC:(Value.ref C::bm).contains (.ref C)=true:=by simp
 have T1:=T.keeps (h':=h1) keep;unfold isInstance
 repeat (first | with_reducible refine wpAny_loadPart_at wU ?_ | (with_reducible refine wpAny_isSubtype_exc hC1 ?_;rw [hcC]) | wp_step)
 show wpAny _ _ (typeLookup (.ref C) _) _ _ _;refine wpAny_typeLookup_tail hC1 mH T1 F.mroIs F.init.lookup ?_;rw [wT];show wpAny _ _ (holding _ _) _ _ _;refine wpAny_holding (wpAny_bind (wpAny_bindSpecial_def (keep _ _ o4) dP ?_));refine wpAny_bind (wpAny_call (codeAny_mono hq fun r s' hr=>?_))
 match r,hr with
 | .error e,z=>exact z
 | .ok (.ret v),⟨e1,z⟩=>
  subst e1;refine wpAny_pure ?_;show wpAny _ _ (ret _) _ _ _;exact wpAny_pure z
end
section
variable {prog:Program} {w:World} {A:Around} {E:Value->Shared->Prop} {h:Heap} {g:Array GenState} {d:Drawn} {t:Nat} {os:OsState}
variable {nm q:Str} {C N:Addr} {bs bm bmB:List Value} {Q2:Bool} {sn:List Str} {sub:List Value} {ab:Bool} {col:Option Bool} {dd:Option Addr} {k0 k1 k2 k3 k5:Option Value} {B newId nid initId:String}
noncomputable abbrev V1 (C t0:Addr) (od:Option Addr):Obj:={ cls:=.ref C,dict:=od,data:=.fields #[.ref t0,.none,.none,.none,.bool false,.none] }
theorem ae8(F:ExcBaseFacts B nid initId bmB)(T:OwnTail h bmB bm){e a0:Addr}{Q:Value->Shared->Prop}(hC:h.get? C=some (excClassObj nm q C N bs bm Q2 sn sub ab col dd k0 k1 k2 k3 k5 newId))(he:h.get? e=some (V1 C a0 od))(hq:∀ h' a1,(∀ b o,b≠e->h.get? b=some o->h'.get? b=some o)->h'.get? e=some (V1 C a1 od)->Q .none ⟨h',g,d,t,os⟩) :
  wpAny 'd' A (call (.builtin initId) [.ref e,v]) Q E ⟨h,g,d,t,os⟩:=by
 refine wpAny_call (codeAny_call_builtin F.init.plain F.initEntry (wpAny_check_init_subU F T hC he rfl ?_))
 wp_walk
 refine hq _ h.objs.size (fun b o hb hbo=>?_) ?_
 .rw [Heap.get?_update_other _ _ (Ne.symm hb)];exact Heap.get?_push_of_some _ hbo
 .rw [Heap.get?_update_self _ (Heap.get?_push_of_some _ he) rfl];rfl
end
section
variable {M:Model} {A:Around} {E:Value->Shared->Prop} {env:Env}
theorem ajT{x:Sem Value}{Q:Flow->Shared->Prop}(hh:A.handled=none)(h:wpAny M A x (fun v zt=>∃ (e C t N:Addr) (od:Option Addr) (nm q:Str) (bs bm:List Value) (Q2:Bool) (sn:List Str) (sub:List Value) (ab:Bool) (col:Option Bool) (dd:Option Addr) (k0 k1 k2 k3 k5:Option Value) (newId:String),v=.ref e/\
   zt.heap.get? C=some (excClassObj nm q C N bs bm Q2 sn sub ab col dd k0 k1 k2 k3 k5 newId)/\bm.contains (.type "BaseException")=true/\zt.heap.get? e=some (V1 C t od)/\E (.ref e) zt) E s) :
  wpAny M A (raiseStmt env (some x) none) Q E s:=by
 unfold raiseStmt;refine wpAny_bind (wpAny_mono h (fun v zt z=>?_) fun _ _ y=>y);obtain ⟨e,C,t,N,od,nm,q,bs,bm,Q2,sn,sub,ab,col,dd,k0,k1,k2,k3,k5,newId,rfl,hC,D9,he,hE⟩:=z;have hcB:(Value.ref C::bm).contains (.type "BaseException")=true:=by rw [List.contains_cons,D9,Bool.or_true]
 obtain ⟨hp,g,d,tk,os⟩:=zt
 repeat (first | with_reducible refine wpAny_loadPart_at he ?_ | with_reducible refine wpAny_loadPart_at hC ?_ | (with_reducible refine wpAny_isSubtype_exc hC ?_;rw [hcB]) | wp_step)
 exact wpAny_raiseNew_none hh hE
end
end L2
namespace L2
open PySem PySem.Spec PyProof.Rows PySem.W PySem.Builtin PySem.Builtin.ObjectAttr
noncomputable def u6 (bmB:List Value):List Value->Bool
 | []=>bmB==[]
 | v::r=>(v::r)==bmB || match v with
  | .ref _=>u6 bmB r
  | _=>false
theorem adZ{B:String}(SF:StoreFacts B bmB "object.__setattr__" "object")(self:Value):∀ {l:List Value},u6 bmB l=true->refuseLoop self "__setattr__" l=pure ()
 | [],e=>by rw [<- SF.passes self,<- beq_iff_eq.mp e]
 | v::r,e=>by
  unfold u6 at e
  rcases Bool.or_eq_true_iff.mp e with z | z
  .rw [beq_iff_eq.mp z];exact SF.passes self
  .cases v with
   | ref c=>rw [refuseLoop_ref];exact adZ SF self z
   | _=>cases z
theorem ahB{B:String}(SF:StoreFacts B bmB "object.__setattr__" "object"):∀ {l:List Value},u6 bmB l=true->l.contains (.type "object")=true
 | [],e=>by have:=SF.hasOwner;rw [beq_iff_eq.mp e] at this;exact this
 | v::r,e=>by
  unfold u6 at e
  rcases Bool.or_eq_true_iff.mp e with z | z
  .rw [beq_iff_eq.mp z];exact SF.hasOwner
  .cases v with
   | ref c=>rw [List.contains_cons,ahB SF z,Bool.or_true]
   | _=>cases z
section
variable {prog:Program} {w:World} {A:Around} {E:Value->Shared->Prop} {h:Heap} {g:Array GenState} {d:Drawn} {t:Nat} {os:OsState} {K:Frag} {C e t0:Addr} {cd:ClassData} {B:String} {bmB:List Value} {name:Str} {v:Value}
theorem ajU{Q:Unit->Shared->Prop}(SF:StoreFacts B bmB "object.__setattr__" "object")(X:K.In h)(he:h.get? e=some (V1 C t0 none))(hc:clsIn K C=some cd)(hd:cd.hasDict=true)(ho:u6 bmB cd.mro=true)(hs:findIn K (.ref C) "__setattr__"=some (some (.builtin "object.__setattr__")))(ht:findIn K (.ref C) name=some none)(hq:∀ h' dx tk,h.objs.size<=dx->dx≠e->h'.get? e=some (V1 C t0 (some dx))->h'.Ns1 dx (fun y=>if y=name then some v else none)->(∀ b o,b≠e->h.get? b=some o->h'.get? b=some o)->Q () ⟨h',g,d,tk,os⟩) :
  wpAny 'd' A (setAttr (.ref e) name v) Q E ⟨h,g,d,t,os⟩:=by
 have I:InstAt h e (V1 C t0 none) C none:=⟨he,rfl,rfl,trivial⟩
 refine set_plain (s:=⟨h,g,d,t,os⟩) X I hs ?_;have ne:cd.mro.isEmpty=false:=by
  cases q:cd.mro with
  | nil=>
   rw [q] at ho
   have:=SF.hasOwner
   rw [beq_iff_eq.mp ho] at this
   cases this
  | cons _ _=>rfl
 have sb:Looks 'd' h (isInstance (.ref e) (.type "object")) true:=I.type.andThen (looks_mroIn X (by unfold mroIn;rw [hc,Option.bind_some,if_neg (by rw [ne];decide),ahB SF ho]));refine codeAny_call_builtin SF.slot.plain SF.entry (@check_slot 'd' _ _ ⟨h,g,d,t+1,os⟩ "object.__setattr__" "object" "__setattr__" (.ref e) [.str name t,v] [] _ SF.kind SF.split sb (SF.args (.ref e) (.str name t) v) ?_);have hm:Looks 'd' h (mroOf (.ref C)) cd.mro:=(looks_clsIn X hc).andThen .now;rw [osa_eq,refuse_eq];refine wpAny_bind (wpAny_bind (I.type.here (s:=⟨h,g,d,t+1,os⟩) (wpAny_bind (hm.here (s:=⟨h,g,d,t+1,os⟩) ?_))));rw [adZ SF _ ho];refine wpAny_pure (wpAny_bind (I.type.here (s:=⟨h,g,d,t+1,os⟩) (wpAny_bind ((looks_findIn X ht).here (s:=⟨h,g,d,t+1,os⟩) (wpAny_bind (m:=storeTaker? none) (wpAny_pure ?_))))));show wpAny _ _ (ownStreamTells (.ref e) (.ref C) >>= _) _ _ _;refine wpAny_bind (m:=ownStreamTells (.ref e) (.ref C)) (wpAny_pure ?_);show wpAny _ _ (ownDictForStores (.ref e) >>= _) _ _ _;refine wpAny_bind ?_;show wpAny _ _ (instanceDict e true) _ _ _;unfold instanceDict;refine wpAny_bind (wpAny_loadPart (s:=⟨h,g,d,t+1,os⟩) he ?_)
 dsimp only
 refine wpAny_bind ((looks_clsIn X hc).here (s:=⟨h,g,d,t+1,os⟩) ?_);rw [hd,if_neg 'g',if_neg (by simp [typeHasDict])];have yz:(h.push { cls:=.type "dict",data:=.dict #[] }).get? e=some (V1 C t0 none):=Heap.get?_push_of_some _ he;have wV:e≠h.objs.size:=J4 (Heap.lt_size he);refine wpAny_bind (wpAny_alloc' (wpAny_bind (wpAny_update' yz (wpAny_pure ?_))));have hgd:((h.push { cls:=.type "dict",data:=.dict #[] }).update e fun o=>{ cls:=o.cls,dict:=some h.objs.size,data:=o.data,slots:=o.slots }).get? h.objs.size=some { cls:=.type "dict",data:=.dict #[] }:=(Heap.get?_update_ne _ _ _ _ wV.symm).trans (Heap.get?_push_at rfl rfl);have mI:((h.push { cls:=.type "dict",data:=.dict #[] }).update e fun o=>{ cls:=o.cls,dict:=some h.objs.size,data:=o.data,slots:=o.slots }).get? e=some (V1 C t0 (some h.objs.size)):=Heap.get?_update_self _ yz rfl;have hgo:∀ b o,b≠e->h.get? b=some o->((h.push { cls:=.type "dict",data:=.dict #[] }).update e fun o=>{ cls:=o.cls,dict:=some h.objs.size,data:=o.data,slots:=o.slots }).get? b=some o:=fun b o hb z=>(Heap.get?_update_ne _ _ _ _ hb).trans (Heap.get?_push_of_some _ z)
 generalize ((h.push { cls:=.type "dict",data:=.dict #[] }).update e fun o=>{ cls:=o.cls,dict:=some h.objs.size,data:=o.data,slots:=o.slots })=h2 at hgd mI hgo ⊢
 have bV:h2.Ns h.objs.size (fun _=>none):=⟨_,#[],_,hgd,rfl,fun e he=>absurd he 'c',fun _=>rfl⟩
 show wpAny _ _ (storeInDict h.objs.size (.str name t) name v) _ _ _;unfold storeInDict newKeyGuard;refine wpAny_bind (wpAny_pure (wpAny_bind (wpAny_nsSet1 (Heap.Ns1.of_empty bV) fun h' dH c9=>?_)));obtain ⟨oD,esD,epD,hoD,hdD,hcD⟩:=dH.count (Within.cons name v Within.nil);refine wpAny_bind (wpAny_lookBehind hoD (by rw [hdD];exact pastItsLine_dict (D5 hcD (by rw [G8,T8,sizeLine_eq];lia))) (wpAny_pure ?_));exact hq h' h.objs.size _ (C3 _) wV.symm ((c9.2 e wV).trans mI) dH fun b o hb z=>(c9.2 b (J4 (Heap.lt_size z))).trans (hgo b o hb z)
end
end L2
namespace L2
open PySem PySem.Spec PyProof.Rows PySem.W
section
variable {M:Model} {A:Around} {E:Value->Shared->Prop} {s:Shared} {K:Frag} {C D e:Addr} {oe:Obj} {b:Bool}
theorem ajV{Q:Bool->Shared->Prop}(X:K.In s.heap)(he:s.heap.get? e=some oe)(hc:oe.cls=.ref C){cd:ClassData}(hD:clsIn K D=some cd)(hT:typeIn K (.ref D)=some (.type "type"))(hB:mroIn K D (.type "BaseException")=some true)(hm:mroIn K C (.ref D)=some b)(h:Q b s) :
  wpAny M A (excMatches (.ref e) (.ref D)) Q E s:=by
 have t1:Looks M s.heap (isInstance (.ref D) (.type "tuple")) false:=(looks_typeIn X hT).andThen (Looks.of_pure tc_notTuple);have t2:Looks M s.heap (isExcClass (.ref D)) true:=by
  unfold isExcClass;refine Looks.andThen (a:=true) ?_ (by rw [if_pos rfl];exact looks_mroIn X hB);show Looks M s.heap (isType (.ref D)) true;unfold clsIn at hD
  split at hD
  .rename_i ho
   exact (Looks.ld (part:=none) (X _ _ ho)).andThen .now
  .cases hD
 have t3:Looks M s.heap (typeOf (.ref e)) (.ref C):=hc ▸ (Looks.ld he).andThen .now;unfold excMatches;refine wpAny_bind (t1.here ?_);rw [if_neg 'g'];refine wpAny_bind (wpAny_pure (wpAny_bind ?_));rw [List.forIn_cons];refine wpAny_bind (wpAny_bind (t2.here (wpAny_pure ?_)));refine wpAny_pure (wpAny_bind (t3.here (wpAny_bind ?_)));rw [List.forIn_cons];refine wpAny_bind (wpAny_bind ((looks_mroIn X hm).here ?_))
 cases b with
 | true=>exact wpAny_pure (wpAny_pure (wpAny_pure h))
 | false=>exact wpAny_pure (wpAny_pure (wpAny_pure h))
end
end L2
namespace L2
open PySem PySem.Spec PyProof.Rows PySem.W PySem.Builtin PySem.Builtin.ObjectAttr
section
variable {prog:Program} {w:World} {A:Around} {E:Value->Shared->Prop} {K:Frag} {h:Heap} {g:Array GenState} {d:Drawn} {t:Nat} {os:OsState} {C e dx:Addr} {ox od:Obj} {name:Str} {v:Value} {expr:Bool} {Q:Value->Shared->Prop}
theorem anX(X:K.In h)(I:InstAt h e ox C (some od))(bP:findIn K (.ref C) "__getattribute__"=some (some (.builtin "BaseException.__getattribute__")))(dQ:findIn K (.ref C) "__getattr__"=some none)(hB:mroIn K C (.type "BaseException")=some true)(hf:findObj K C (some od) name=some (.value v))(hh:handedIn v=true)(hq:Q v ⟨h,g,d,t+1,os⟩):wpAny 'd' A (getAttr (.ref e) name expr) Q E ⟨h,g,d,t,os⟩:=by
 have L0:=I.type (M:=model prog w);have L1:=looks_findIn (M:=model prog w) X bP;have L2:=looks_findIn (M:=model prog w) X dQ;have L3:=looks_find (M:=model prog w) X I hf;have bW:(Value.builtin "BaseException.__getattribute__" == Value.builtin "object.__getattribute__")=false:=by decide +kernel
 have aI:(onTheHeap (Value.ref C)&&Value.builtin "BaseException.__getattribute__" == Value.builtin "object.__getattribute__")=false:=by rw [bW];rfl
 have bX:(expr&&onTheHeap (Value.builtin "BaseException.__getattribute__"))=false:=by cases expr <;> rfl
 unfold getAttr getAttrBy;refine wpAny_bind (wpAny_mkText (wpAny_holding (wpAny_bind (L0.at (wpAny_bind (L1.at ?_))))))
 dsimp only
 rw [aI,if_neg 'g'];show wpAny _ _ (getAttrByItsOwn _ _ _ _ _ _) _ _ _;unfold getAttrByItsOwn;refine wpAny_bind ?_;show wpAny _ _ (typeLookup (.ref C) "__getattr__") _ _ _;refine L2.at (wpAny_bind (wpAny_attempt (wpAny_holding ?_)));unfold callGetattribute;rw [bX,if_neg 'g'];unfold boundAndCalled;have FA:ExcAttrFacts "ValueError":=F.attr_ValueError;rw [FA.ga.bind (.ref e)];refine wpAny_bind (wpAny_pure (wpAny_call ?_));have sb:Looks 'd' h (isInstance (.ref e) (.type "BaseException")) true:=L0.andThen (looks_mroIn X hB);refine codeAny_call_builtin FA.ga.plain F.entry_bexc_ga (@check_slot 'd' _ _ ⟨h,g,d,t+1,os⟩ "BaseException.__getattribute__" "BaseException" "__getattribute__" (.ref e) [.str name t] [] _ 'e' 'e' sb (F.args_bexc_ga _ _) ?_);unfold Builtin.«object.__getattribute__»;have e0:slotArgs "__getattribute__" 1 ⟨[Value.ref e]++[Value.str name t],[]⟩=pure (.ref e,[.str name t]):=rfl;rw [e0];refine wpAny_bind (wpAny_pure ?_);show wpAny _ _ (attrName (.str name t) >>= _) _ _ _;refine wpAny_bind (m:=attrName (.str name t)) (wpAny_pure ?_);refine wpAny_bind (L0.at (wpAny_bind (L3.at (wpAny_pure ?_))));show wpAny _ _ (handedOut v) _ _ _;rw [handedOut_of hh];exact wpAny_pure hq
end
section
variable {prog:Program} {w:World} {A:Around} {E:Value->Shared->Prop} {K:Frag} {h:Heap} {g:Array GenState} {d:Drawn} {t:Nat} {os:OsState} {C e dx:Addr} {ox od:Obj} {Q:Option Value->Shared->Prop}
theorem ajW(X:K.In h)(I:InstAt h e ox C (some od))(bP:findIn K (.ref C) "__getattribute__"=some (some (.builtin "BaseException.__getattribute__")))(dQ:findIn K (.ref C) "__getattr__"=some none)(hB:mroIn K C (.type "BaseException")=some true)(hf:findObj K C (some od) "__class__"=some (.bind (.builtin "getset_descriptor.__get__") (.builtin "object.__class__")))(hO:mroIn K C (.type "object")=some true)(hq:Q (some (.ref C)) ⟨h,g,d,t+1,os⟩):wpAny 'd' A (getAttr? (.ref e) "__class__") Q E ⟨h,g,d,t,os⟩:=by
 have L0:=I.type (M:=model prog w);have L1:=looks_findIn (M:=model prog w) X bP;have L2:=looks_findIn (M:=model prog w) X dQ;have L3:=looks_find (M:=model prog w) X I hf;have bW:(Value.builtin "BaseException.__getattribute__" == Value.builtin "object.__getattribute__")=false:=by decide +kernel
 have aI:(onTheHeap (Value.ref C)&&Value.builtin "BaseException.__getattribute__" == Value.builtin "object.__getattribute__")=false:=by rw [bW];rfl
 unfold getAttr? getAttrBy? getAttrBy;refine wpAny_bind (wpAny_mkText (wpAny_bind (wpAny_attempt (wpAny_holding (wpAny_bind (L0.at (wpAny_bind (L1.at ?_))))))))
 dsimp only
 rw [aI,if_neg 'g'];show wpAny _ _ (getAttrByItsOwn _ _ _ _ _ _) _ _ _;unfold getAttrByItsOwn;refine wpAny_bind ?_;show wpAny _ _ (typeLookup (.ref C) "__getattr__") _ _ _;refine L2.at (wpAny_bind (wpAny_attempt (wpAny_holding ?_)));unfold callGetattribute;rw [if_neg 'c'];unfold boundAndCalled;have FA:ExcAttrFacts "ValueError":=F.attr_ValueError;rw [FA.ga.bind (.ref e)];refine wpAny_bind (wpAny_pure (wpAny_call ?_));have sb:Looks 'd' h (isInstance (.ref e) (.type "BaseException")) true:=L0.andThen (looks_mroIn X hB);refine codeAny_call_builtin FA.ga.plain F.entry_bexc_ga (@check_slot 'd' _ _ ⟨h,g,d,t+1,os⟩ "BaseException.__getattribute__" "BaseException" "__getattribute__" (.ref e) [.str "__class__" t] [] _ 'e' 'e' sb (F.args_bexc_ga _ _) ?_);unfold Builtin.«object.__getattribute__»;have e0:slotArgs "__getattribute__" 1 ⟨[Value.ref e]++[Value.str "__class__" t],[]⟩=pure (.ref e,[.str "__class__" t]):=rfl;rw [e0];refine wpAny_bind (wpAny_pure ?_);show wpAny _ _ (attrName (.str "__class__" t) >>= _) _ _ _;refine wpAny_bind (m:=attrName (.str "__class__" t)) (wpAny_pure ?_);refine wpAny_bind (L0.at (wpAny_bind (L3.at ?_)));show wpAny _ _ (bindTo (.builtin "getset_descriptor.__get__") (.builtin "object.__class__") (.ref e) (.ref C)) _ _ _;unfold bindTo;refine wpAny_bind (wpAny_holding (wpAny_call (class_get (s:=⟨h,g,d,t+1,os⟩) (ox:=ox) (od:=some od) X I hO ?_)));refine wpAny_pure ?_;show wpAny _ _ (handedOut (.ref C)) _ _ _;rw [handedOut_of rfl];exact wpAny_pure (wpAny_pure hq)
theorem alP(Q2:hasDictIn K C=true)(bP:findIn K (.ref C) "__getattribute__"=some (some (.builtin "BaseException.__getattribute__")))(dQ:findIn K (.ref C) "__getattr__"=some none)(hB:mroIn K C (.type "BaseException")=some true)(ha:findIn K (.ref C) "__class__"=some (some (.builtin "object.__class__")))(hn:specialIn K (.builtin "object.__class__") "__get__"=some (some (.builtin "getset_descriptor.__get__")))(fF:takesIn K (.builtin "object.__class__")=some true)(hO:mroIn K C (.type "object")=some true) :
  KitX K (.ref e) (.ref C) (fun h=>InstAt h e ox C (some od)) where
 ty:=fun _ _ _ I=>I.type
 it:=fun _ _ X _=>by
  obtain ⟨cdD,hcD,_⟩:=any_some Q2;unfold clsIn at hcD
  split at hcD
  .rename_i ho
   exact (Looks.ld (part:=none) (X _ _ ho)).andThen .now
  .cases hcD
 ne:=fun h tp dd its n sl X htp=>by
  obtain ⟨cdD,hcD,_⟩:=any_some Q2;refine Bool.eq_false_iff.mpr fun q=>?_
  have e1:C=tp:=Value.ref.inj (beq_iff_eq.mp q);subst e1;unfold clsIn at hcD
  split at hcD
  .rename_i ho
   cases (X _ _ ho).symm.trans htp
  .cases hcD
 ca:=fun {_ _ _ _ _ s} X I k=>by
  obtain ⟨h,g,d,t,os⟩:=s;exact ajW X I bP dQ hB (findObj_data (by obtain ⟨cd,hc,_⟩:=any_some Q2;rw [hc];rfl) ha hn fF) hO k
end
end L2
namespace L2
open PySem PySem.Spec PyProof.Rows PySem.W
noncomputable def Flies (h:Heap) (x C dx T:Addr):Prop:=∃ (vs:Array Value) (oT:Obj) (ts:Array Value),h.get? x=some { cls:=.ref C,dict:=some dx,data:=.fields vs }/\vs[1]?=some (.ref T)/\T≠x/\h.get? T=some oT/\oT.data=.fields ts/\ts[3]?=some .none
section
variable {M:Model} {A:Around} {E:Value->Shared->Prop} {s:Shared} {base:Heap} {env:Env} {outer:List Env} {L x C dx:Addr} {Q:Unit->Shared->Prop}
theorem af5{vs:Array Value}{o:Obj}{l:List Env}(hl:s.heap.FunFrames base l)(he:s.heap.get? x=some o)(hd:o.data=.fields vs):x∉l.filterMap (·.frame):=fun hm=>by
 obtain ⟨_,o',ho,hn⟩:=hl.mem hm;rw [he] at ho;cases ho;exact hn vs hd
theorem af6{oe:Obj}{vs:Array Value}{head:Value}{hadNext:Bool}(Q1:A.frames=some (env::outer))(hl:s.heap.FunFrames base (env::outer))(hf:env.frame=some L)(he:s.heap.get? x=some { cls:=.ref C,dict:=some dx,data:=.fields vs })(hsz:1<vs.size)(h:∀ h' T,s.heap.objs.size<=T->Flies h' x C dx T->(∀ b o,b≠x->b∉(env::outer).filterMap (·.frame)->s.heap.get? b=some o->h'.get? b=some o)->(∀ b o,b≠x->s.heap.get? b=some o->∃ sl,h'.get? b=some { o with slots:=sl })->Q () { s with heap:=h' }) :
  wpAny M A (do let a <- frameOf env;let pl <- entryPlaceOf L hadNext;let b <- EntryCells.newEntry head a .none (rawInt L) .none pl;setField (.ref x) 1 b) (fun _ s'=>wpAny M A (setFlight (.ref x) none) Q E s') E s:=by
 have hxf:=af5 hl he rfl;refine wpAny_bind (wpAny_frameOf_fun Q1 hl hf fun zq yy=>wpAny_bind (wpAny_entryPlaceOf fun pl V5=>?_));unfold EntryCells.newEntry newFields;refine wpAny_bind (wpAny_newObj_type ?_ (V5.sizeOk5 _ _ _ _ _));have yx:zq.get? x=some { cls:=.ref C,dict:=some dx,data:=.fields vs }:=(yy.2.1 x hxf).trans he;generalize hoT:({ cls:=.type "traceback",dict:=none,data:=.fields ([head,.ref L,.none,rawInt L,.none]++(if pl.isEmpty then J2 6 Value.none else pl)).toArray } : Obj)=oT;have hTd:∃ ts:Array Value,oT.data=.fields ts/\3<ts.size:=⟨_,by rw [<- hoT],by simp only [K3,D4,G8,T8] <;> lia⟩
 obtain ⟨ts,hTd,hT3⟩:=hTd;have hTf:oT.isFreed=false:=by rw [<- hoT];rfl
 have hTe:zq.objs.size≠x:=q9 (Heap.lt_size yx);have yw:=Heap.get?_push_of_some (h:=zq) oT yx;have yu:(zq.push oT).get? zq.objs.size=some oT:=Heap.get?_push_size zq hTf;refine wpAny_setField yw rfl hsz ?_;have yt:=Obj.data_mapFields (o:={ cls:=.ref C,dict:=some dx,data:=.fields vs }) rfl (·.setIfInBounds 1 (Value.ref zq.objs.size));have yr:=Heap.get?_update_self (Obj.mapFields (·.setIfInBounds 1 (Value.ref zq.objs.size))) yw (Obj.isFreed_of_fields yt);have yq:=(Heap.get?_update_other (zq.push oT) (Obj.mapFields (·.setIfInBounds 1 (Value.ref zq.objs.size))) (Ne.symm hTe)).trans yu;unfold setFlight;refine wpAny_bind (wpAny_field yr yt (x:=.ref zq.objs.size) (by simp [hsz]) ?_);rw [if_pos (show (Value.ref zq.objs.size != Value.none)=true from by simp)];refine wpAny_setField yq hTd hT3 (h _ zq.objs.size ?_ ?_ (fun b o hb wW z=>?_) fun b o hb z=>?_)
 .rw [yy.1];exact C3 _
 .refine ⟨_,_,_,(by rw [Heap.get?_update_other _ _ hTe];exact yr),?_,hTe,Heap.get?_update_self _ yq (Obj.isFreed_of_fields (Obj.data_mapFields hTd _)),Obj.data_mapFields hTd _,?_⟩
  .simp [hsz]
  .simp [hT3]
 .have hbT:zq.objs.size≠b:=q9 (by rw [yy.1];exact Heap.lt_size z);rw [Heap.get?_update_other _ _ hbT,Heap.get?_update_other _ _ (Ne.symm hb)];exact Heap.get?_push_of_some _ ((yy.2.1 b wW).trans z)
 .have hbT:zq.objs.size≠b:=q9 (by rw [yy.1];exact Heap.lt_size z);obtain ⟨sl,z'⟩:=yy.2.2 b o z;refine ⟨sl,?_⟩;rw [Heap.get?_update_other _ _ hbT,Heap.get?_update_other _ _ (Ne.symm hb)];exact Heap.get?_push_of_some _ z'
theorem ajX(Q1:A.frames=some (env::outer))(hl:s.heap.FunFrames base (env::outer))(hf:env.frame=some L)(he:s.heap.get? x=some (V1 C t0 (some dx)))(h:∀ h' T,s.heap.objs.size<=T->Flies h' x C dx T->(∀ b o,b≠x->b∉(env::outer).filterMap (·.frame)->s.heap.get? b=some o->h'.get? b=some o)->(∀ b o,b≠x->s.heap.get? b=some o->∃ sl,h'.get? b=some { o with slots:=sl })->Q () { s with heap:=h' }) :
  wpAny M A (noteFrame (.ref x) env) (fun _ s'=>wpAny M A (setFlight (.ref x) none) Q E s') E s:=by
 unfold noteFrame;simp only [hf];refine wpAny_bind (wpAny_field he rfl (x:=.none) rfl ?_);rw [if_neg 'g'];exact af6 (oe:=V1 C t0 (some dx)) Q1 hl hf he 'c' h
theorem af7(Q1:A.frames=some (env::outer))(hl:s.heap.FunFrames base (env::outer))(hf:env.frame=some L)(fl:Flies s.heap x C dx T)(h:∀ h' T',s.heap.objs.size<=T'->Flies h' x C dx T'->(∀ b o,b≠x->b≠T->b∉(env::outer).filterMap (·.frame)->s.heap.get? b=some o->h'.get? b=some o)->(∀ b o,b≠x->b≠T->s.heap.get? b=some o->∃ sl,h'.get? b=some { o with slots:=sl })->Q () { s with heap:=h' }) :
  wpAny M A (noteFrame (.ref x) env) (fun _ s'=>wpAny M A (setFlight (.ref x) none) Q E s') E s:=by
 obtain ⟨vs,oT,ts,he,h1,hTx,hT,hTd,h3⟩:=fl;unfold noteFrame;simp only [hf];refine wpAny_bind (wpAny_field he rfl h1 ?_);rw [if_pos (show (Value.ref T != Value.none)=true from by simp)];refine wpAny_bind (wpAny_field hT hTd h3 ?_);rw [if_neg (show ¬ ((Value.none==rawInt L)=true) from by simp [rawInt])];refine wpAny_bind (wpAny_setField hT hTd (Array.getElem?_eq_some_iff.mp h3).1 ?_);have oth:∀ b,b≠T->(s.heap.update T (Obj.mapFields (·.setIfInBounds 3 Value.none))).get? b=s.heap.get? b:=fun b hb=>Heap.get?_update_other _ _ (Ne.symm hb)
 have hTf:T∉(env::outer).filterMap (·.frame):=af5 hl hT hTd;have hTn:∀ b o,s.heap.get? b=some o->(∀ vs,o.data≠.fields vs)->b≠T:=fun b o hb hn q=>by rw [q,hT] at hb;cases hb;exact hn ts hTd
 refine af6 (oe:=oT) Q1 (hl.of_keeps fun b o hb hn=>⟨o,(oth b (hTn b o hb hn)).trans hb,rfl⟩) hf ((oth x (Ne.symm hTx)).trans he) (Array.getElem?_eq_some_iff.mp h1).1 fun h' T' n' fl' k1 k2=>h h' T' ?_ fl' (fun b o hb hbT wW z=>k1 b o hb wW ((oth b hbT).trans z)) fun b o hb hbT z=>k2 b o hb ((oth b hbT).trans z)
 exact D5 (Nat.le_of_eq (Heap.size_update ..).symm) n'
theorem alQ(fl:Flies s.heap x C dx T)(h:∀ h',Flies h' x C dx T->(∀ b o,b≠T->s.heap.get? b=some o->h'.get? b=some o)->Q () { s with heap:=h' }):wpAny M A (setFlight (.ref x) none) Q E s:=by
 obtain ⟨vs,oT,ts,he,h1,hTx,hT,hTd,h3⟩:=fl;have h3s:3<ts.size:=(Array.getElem?_eq_some_iff.mp h3).1;unfold setFlight;refine wpAny_bind (wpAny_field he rfl h1 ?_);rw [if_pos (show (Value.ref T != Value.none)=true from by simp)];refine wpAny_setField hT hTd h3s (h _ ⟨vs,_,_,(Heap.get?_update_other _ _ hTx).trans he,h1,hTx,Heap.get?_update_self _ hT (Obj.isFreed_of_fields (Obj.data_mapFields hTd _)),Obj.data_mapFields hTd _,?_⟩ fun b o hb z=>(Heap.get?_update_other _ _ (Ne.symm hb)).trans z);simp [h3s]
end
end L2
namespace L2
open PySem PySem.Spec PyProof.Rows
noncomputable def xm (m:Nat) (x C:Addr):HO:=.ext fun h=>m<=x/\∃ t0,h.get? x=some (V1 C t0 none)
noncomputable def xo (m:Nat) (x C dx:Addr):HO:=.ext fun h=>m<=x/\∃ t0,h.get? x=some (V1 C t0 (some dx))
noncomputable def xc (x C dx:Addr):HO:=.ext fun h=>∃ o,h.get? x=some o/\o.cls=.ref C/\o.dict=some dx/\PySem.W.notCls o=true
theorem xm_ok{P:Program}{w:World}{x:Addr}(hm:m<=x)(e:h.get? x=some (V1 C t0 none)):ObjOk P w H h x (xm m x C):=⟨⟨hm,t0,e⟩,⟨_,e⟩,fun _ _ z k=>⟨z.1,z.2.elim fun t a=>⟨t,k _ a⟩⟩⟩
theorem xo_ok{P:Program}{w:World}{x:Addr}(hm:m<=x)(e:h.get? x=some (V1 C t0 (some dx))):ObjOk P w H h x (xo m x C dx):=⟨⟨hm,t0,e⟩,⟨_,e⟩,fun _ _ z k=>⟨z.1,z.2.elim fun t a=>⟨t,k _ a⟩⟩⟩
theorem xc_ok{P:Program}{w:World}{x:Addr}{o:Obj}(e:h.get? x=some o)(h1:o.cls=.ref C)(h2:o.dict=some dx)(h3:PySem.W.notCls o=true):ObjOk P w H h x (xc x C dx):=
 ⟨⟨o,e,h1,h2,h3⟩,⟨_,e⟩,fun _ _ z k=>z.elim fun t a=>⟨t,k _ a.1,a.2⟩⟩
theorem uac{P:Program}{w:World}{o:HO}(x:L9 P w H h)(hn:H a=none)(new:ObjOk P w (A0 H a o) h a o):L9 P w (A0 H a o) h:=fun b u e=>by
 by_cases hb:b=a
 .subst hb;rw [A1] at e;cases e;exact new
 .rw [A4 hb] at e;exact (x b u e).stay (fun c v _ q=>q) (fun c q=>by rw [A4 (O3 q hn)];exact q) fun c xs q=>by rw [A4 (O3 q hn)];exact q
theorem aq3{N:Addr}{m:Str->Option Value}{n:Str}(X:K.In h)(G:h.Ns N m)(e:E5 K N n=some (some v)):m n=some v:=by
 obtain ⟨o,es,ep,ho,hd,_,hf⟩:=G;unfold E5 at e
 split at e
 .rename_i es' n' q
  rw [X _ _ q] at ho;cases ho;cases hd
  split at e
  .rename_i y hy
   cases e;rw [<- hf];unfold nsFind findBy;rw [<- Array.find?_toList,hy];rfl
  .exfalso
   split at e <;> cases e
 .cases e
noncomputable abbrev bF:List Value:=[.type "ValueError",.type "Exception",.type "BaseException",.type "object"]
structure ErrC(K:PySem.W.Frag)(C f:Addr):Prop where
 ex:∃ (nm q:Str) (N:Addr) (bs bm:List Value) (sn:List Str) (sub:List Value) (ab:Bool) (col:Option Bool) (dd:Option Addr) (k0 k1 k2 k3 k5:Option Value),
  K.lookup C=some (excClassObj nm q C N bs bm true sn sub ab col dd k0 k1 k2 k3 k5 "ValueError.__new__")/\cL K bF bm=true/\u6 bF (.ref C::bm)=true/\eF K N=true/\E5 K N "__init__"=some (some (.ref f))
 fn:y1 K (.ref f)=true
 sa:J8 K (.ref C) "__setattr__"=some (some (.builtin "object.__setattr__"))
 ga:J8 K (.ref C) "__getattribute__"=some (some (.builtin "BaseException.__getattribute__"))
 gt:J8 K (.ref C) "__getattr__"=some none
 cl:J8 K (.ref C) "__class__"=some (some (.builtin "object.__class__"))
 bx:R6 K C (.type "BaseException")=some true
 ob:R6 K C (.type "object")=some true
 kp:O8 K (.ref C)=true
theorem ErrC.cls(M:ErrC K C f):∃ cd,PySem.W.clsIn K C=some cd/\cd.hasDict=true/\u6 bF cd.mro=true:=by
 obtain ⟨nm,q,N,bs,bm,sn,sub,ab,col,dd,k0,k1,k2,k3,k5,l,_,o,_,_⟩:=M.ex;exact ⟨_,by unfold PySem.W.clsIn;rw [l],rfl,o⟩
section
variable {X:Cx} {k:Nat} {f C:Addr} {fd:FuncData} {ps:List Str} {sp:Sp} {x:Str} {p pos:Pos} {e:Expr} {es:List Expr} {t:TA}
noncomputable def tErr (m:Nat) (C:Addr) (sp:Sp) (t:TA):TE:=fun Y H Q=>t Y H fun vs H1=>vs.length<=1000/\∀ x,H1 x=none->sp (.ref x::vs) (A0 H1 x (xm m x C)) (fun v H2=>v=.non/\Q (.ref x) H2) E0
theorem anY(M:ErrC X.K C f)(F:FnOk X.prog X.w X.K X.mg X.base G9 k f fd ps sp)(hr:Room (k+1) X.A)(hb:Binds X.K fd ps [])(I:Inv X pins Y H s)(r:Vals vs us)(A6:vs.length<=1000)(h:∀ x,H x=none->sp (.ref x::vs) (A0 H x (xm X.s₀.heap.objs.size x C)) (fun v H2=>v=.non/\Q (.ref x) H2) E0) :
  wpAny 'a' X.A (call (.ref C) us) (EP X pins Y Q) X.xe s:=by
 have hq:=h 'i' (I.hok.fresh (y4 _));obtain ⟨nm,q,N,bs,bm,sn,sub,ab,col,dd,k0,k1,k2,k3,k5,l,ht,ho,hok,hi⟩:=M.ex;have hC:=I.kIn _ _ l;have hN:s.heap.Ns N (s.heap.nsMap N):=.of_isNs (PySem.W.isNs_of_in I.kIn hok);have wT:=aq3 I.kIn hN hi;have hf:∃ o,s.heap.get? f=some o/\o.cls=.type "function":=by
  obtain ⟨o,ho,hc⟩:=Option.map_eq_some_iff.mp (beq_iff_eq.mp M.fn);exact ⟨o,I.kIn _ _ ho,hc⟩
 obtain ⟨of,o4,dP⟩:=hf;have iZ:=r.length;have r2:Vals (V.ref 'i'::vs) (Value.ref 'i'::us):=.cons rfl r;have hl:(Value.ref 'i'::us++[]).length=ps.length:=by
  have e:=r2.length;rw [F.len _ _ _ _ hq] at e;rw [K7];exact e.symm
 obtain ⟨h0,g,d,tk,os⟩:=s;refine alO PySem.F.excBase_ValueError 'g' PySem.F.excBase_ValueError (PySem.W.tail_of_in I.kIn ht) hC hN wT o4 dP (by rw [<- iZ];exact D5 A6 'g') ?_;have I2:Inv X pins Y (A0 H (h0.objs.size+1) (xm X.s₀.heap.objs.size (h0.objs.size+1) C)) ⟨(h0.push { cls:=.type "tuple",data:=.seq us.toArray }).push (V1 C h0.objs.size none),g,d,tk,os⟩:=
  I.laid (t':=tk) (fun b u z=>Heap.get?_push_of_some _ (Heap.get?_push_of_some _ z)) (y4 _) (xm_ok (t0:=h0.objs.size) (Nat.le_succ_of_le I.sz) (by
   have:=Heap.get?_push_size (h0.push { cls:=.type "tuple",data:=.seq us.toArray }) (o:=V1 C h0.objs.size none) rfl
   rwa [Heap.size_push] at this))
 refine codeAny_mono (F.run _ X.stack _ _ ⟨Value.ref (h0.objs.size+1)::us,[]⟩ (Value.ref (h0.objs.size+1)::us) _ _ E0 (hr.make C us []) (I2.env0.make C us []) (by have:=hb _ (Value.ref (h0.objs.size+1)::us) I2.kIn hl;rwa [K7] at this) r2 hq) fun r s' Y6=>?_
 cases r with
 | error e=>exact Y6.elim
 | ok fl=>
  cases fl with
  | ret u=>
   obtain ⟨v,H',I3,rv,ev,q3⟩:=I2.after Y6;subst ev;exact ⟨rv,⟨V.ref (h0.objs.size+1),H',I3,rfl,q3⟩⟩
  | next=>exact False.elim Y6
  | brk=>exact False.elim Y6
  | cont=>exact False.elim Y6
theorem aq4(M:ErrC X.K C f)(F:FnOk X.prog X.w X.K X.mg X.base G9 k f fd ps sp)(hr:Room (k+1) X.A)(hg:Gl X x)(hm:X.mg x=some (.ref C))(hb:Binds X.K fd ps [])(ha:PA X (e::es) t)(N2:(x==("__debug__" : Str))=false:=by decide)(he:starEach (e::es) X.env=(false,eval e X.env)::starEach es X.env:=by rfl)(V5:(backTo pos (starEach es X.env)).any (·.1)=false:=by rfl) :
  PE X (.Call (.Name x p) (e::es) [] pos) (tErr X.s₀.heap.objs.size C sp t):=by
 sleep 1;refine wpAny_Call_Name_kw (gP I hg hm ?_ N2);refine PySem.W.callWith_K (h₀:=X.base) I.ok.mod.kin M.kp (B3 (ha pos pins s Y H _ I h) fun us s1 ⟨vs,H1,I1,r,q0,q⟩=>⟨I1.kIn,anY M F hr hb I1 r q0 q⟩) he V5
end
theorem alR{o:HO}(h:H a=some o):A0 H a o=H:=by
 funext b;unfold A0;split
 .rename_i e;rw [e,h]
 .rfl
structure LoreC(K:PySem.W.Frag)(L:Addr):Prop where
 sp:eE K (.ref L) "__getattribute__"=some (some (.builtin "type.__getattribute__"))
 rd:PySem.W.readsIn K L (.type "type")=true
 fc:PySem.W.findCls K (.ref L) (.type "type") "__init__"=some (.val (.builtin "ValueError.__init__"))
noncomputable def tInit (K:PySem.W.Frag) (ta tb:TE):TE:=fun Y H Q=>ta Y H fun x H1=>tb Y H1 fun _ H2=>∃ a m C f,x=.ref a/\H2 a=some (xm m a C)/\ErrC K C f/\Q .non H2
section
variable {X:Cx} {L:Addr} {x:Str} {np ap cp:Pos} {a b:Expr} {ta tb:TE} {pl:Sem Bool}
theorem anZ(N:LoreC X.K L)(hg:Gl X x)(hm:X.mg x=some (.ref L))(ha:PE X a ta)(hb:PE X b tb)(N2:(x==("__debug__" : Str))=false:=by decide)(wX:backTo cp (starEach [a,b] X.env)=[(false,eval a X.env),(false,eval b X.env)]:=by rfl)(ht:eval (.Call (.Attribute (.Name x np) "__init__" ap) [a,b] [] cp) X.env=(do
   let ov <- eval (.Name x np) X.env
   standAt ap.atName
   let (f,first) <- holding [ov] (getMethod ov "__init__" pl)
   callWith cp f first (backTo cp (starEach [a,b] X.env)) (backToKw cp (keywordEach [] X.env))):=by rfl) :
  PE X (.Call (.Attribute (.Name x np) "__init__" ap) [a,b] [] cp) (tInit X.K ta tb):=by
 sleep 1;refine PySem.W.methodCall_KW (pl:=pl) (gP I hg hm ?_ N2) ht;refine PySem.W.method_cls I.kIn N.sp (PySem.W.cls_value I.kIn N.rd N.fc rfl ?_);rw [wX];have I0:=I.tok (s.toks+1);refine Calls.callWith_builtin rfl (Calls.evalArgs_plain (Calls.spliced_cons (B3 (ha pins _ Y H _ I0 h) fun u s1 ⟨v,H1,I1,rv,q1⟩=>Calls.spliced_cons (B3 (hb pins s1 Y H1 _ I1 q1) fun z s2 ⟨y,H2,I2,ry,e,m,C,f,ex,he,M,q2⟩=>Calls.spliced_nil ?_))));subst ex;obtain rfl:u=Value.ref e:=rv;obtain ⟨nm,q,N',bs,bm,sn,sub,ab,col,dd,k0,k1,k2,k3,k5,l,bN,ho,hok,hi⟩:=M.ex;obtain ⟨wY,t0,hx⟩:=(I2.hok _ _ he).1;obtain ⟨h2,g,d,tk,os⟩:=s2;refine ae8 PySem.F.excBase_ValueError (PySem.W.tail_of_in I2.kIn bN) (I2.kIn _ _ l) hx fun h' t1 keep bQ=>?_
 have I3:=I2.write (x:=e) (e:=e) (t':=tk) (by rw [he];exact True.intro) (.inl rfl) (fun b u hb z=>keep b u hb z) ⟨_,bQ⟩ (xm_ok wY bQ);rw [alR he] at I3;exact ⟨.non,H2,I3,rfl,q2⟩
end
noncomputable def tFmtI (te:TE):TE:=fun Y H Q=>te Y H fun v H1=>∃ i:Int,v=.int i/\i.natAbs<10 ^ 9/\∀ z:Str,z.length<=100->Q (.str z) H1
noncomputable def eX:List TE->TE
 | [],_,H,Q=>∀ z:Str,Q (.str z) H
 | t::ts,Y,H,Q=>t Y H fun v H1=>∃ y:Str,v=.str y/\y.length<=100000/\eX ts Y H1 Q
section
variable {X:Cx} {e:Expr} {te:TE} {pos:Pos}
inductive PFs (X:Cx):List Expr->List TE->Prop
 | nil:PFs X [] []
 | cons {e:Expr} {te:TE} {es:List Expr} {ts:List TE} : PE X e te->PFs X es ts->PFs X (e::es) (te::ts)
theorem ahC : ∀ {es:List Expr} {ts:List TE} (acc:Str) (n:Nat) (s:Shared) (H:Hp),PFs X es ts->Inv X pins Y H s->acc.length+100000*es.length<=sizeLine->eX ts Y H Q->
  Joins 'a' X.A X.xe (evalEach es X.env) acc (fun out zt=>out.length<=sizeLine/\EP X pins Y Q (.str out zt.toks) { zt with toks:=zt.toks+1 }) s
 | [],_,acc,n,s,H,.nil,I,hl,h=>⟨by simpa using hl,.str acc,H,I.tok _,⟨_,rfl⟩,h acc⟩
 | e::es,_,acc,n,s,H,.cons he hr,I,hl,h=>B3 (he pins s Y H _ I h) fun u s1 ⟨v,H1,I1,rv,y,ev,hy,q⟩=>by
  subst ev;obtain ⟨t,rfl⟩:=rv;rw [G8] at hl;have e1:(acc++y).length=acc.length+y.length:=strLen_append ..;exact ⟨y,t,rfl,by lia,ahC (acc++y) n s1 H1 hr I1 'b' q⟩
theorem ajY{e1 e2:Expr}{ts:List TE}(h:PFs X (e1::e2::es) ts)(hn:es.length<=2):PE X (.JoinedStr (e1::e2::es) pos) (eX ts):=by
 intro pins s Y H Q I hq;refine wpAny_JoinedStr (ahC Str.empty 0 s H h I ?_ hq)
 have:Str.empty.length=0:=rfl
 rw [this,G8,G8,sizeLine_eq];lia
end
noncomputable def sXFld (K:PySem.W.Frag) (ta tv:TE) (f:Str):TS:=fun D Y H=>tv Y H fun y H1=>ta Y H1 fun x H2=>∃ a m C g,x=.ref a/\H2 a=some (xm m a C)/\ErrC K C g/\NoAttr K C f/\∀ dx,H2 dx=none->dx≠a->D.nx Y (A0 (A0 H2 a (xo m a C dx)) dx (.xd [(f,y)]))
section
variable {X:Cx} {o value:Expr} {ta tv:TE} {f:Str} {ap pos:Pos}
theorem Inv.xstore(I:Inv X pins Y H s)(e:H a=some (xm m a C))(hd:s.heap.objs.size<=dx)(ne:dx≠a)(hx:h'.get? a=some (V1 C t0 (some dx)))(hn:h'.Ns1 dx (fun z=>if z=f then some u else none))(k:∀ b o,b≠a->s.heap.get? b=some o->h'.get? b=some o)(ry:RelV y u) :
  Inv X pins Y (A0 (A0 H a (xo m a C dx)) dx (.xd [(f,y)])) { s with heap:=h',toks:=t' }:=by
 have hdn:H dx=none:=I.hok.fresh hd;have wY:m<=a:=(I.hok _ _ e).1.1;have mu:gN (H a):=by rw [e];exact True.intro
 have bY:A0 H a (xo m a C dx) dx=none:=by rw [A4 ne];exact hdn
 have w1:Un X.fs [] H (A0 H a (xo m a C dx)) s.heap h':=Un.write mu (.inl rfl) k ⟨_,hx⟩;have old:∀ b o,s.heap.get? b=some o->b≠dx:=fun b o z q=>by rw [q] at z;exact absurd (Heap.lt_size z) (aW.mpr hd)
 refine I.un ⟨w1.keep,w1.slot,fun b o z n hb=>?_,w1.there,fun b xs z=>?_,fun b o v z=>?_,fun b ps z=>?_⟩ (uac (I.hok.write mu (.inl rfl) k ⟨_,hx⟩ (xo_ok wY hx)) bY ⟨_,hn,fun g=>?_⟩)
 .rw [A4 (old b o z)];exact w1.free b o z n hb
 .rw [A4 (O3 (w1.tups b xs z) bY)];exact w1.tups b xs z
 .rw [A4 (O3 (w1.frzs b o v z) bY)];exact w1.frzs b o v z
 .obtain ⟨more,q⟩:=w1.tbls b ps z;exact ⟨more,by rw [A4 (O3 q bY)];exact q⟩
 .show RelO ([(f,y)].lookup g) (if g=f then some u else none)
  by_cases q:g=f
  .rw [if_pos q,q,List.lookup_cons_self];exact ry
  .rw [if_neg q,List.lookup_cons,show (g==f)=false from beq_eq_false_iff_ne.mpr q];exact True.intro
theorem an3(ha:PE X o ta)(hv:PE X value tv)(hs:swapsWith value (some (.Attribute o f ap)) pos.line X.env=pure false):PS X (.Assign [.Attribute o f ap] value pos) (sXFld X.K ta tv f):=by
 intro pins s Y H D I h;refine plainObj_wpAny_Assign_Attribute (B3 (hv pins s Y H _ I h) fun u s1 ⟨y,H1,I1,ry,q⟩=>B3 (ha pins s1 Y H1 _ I1 q) fun ov s2 ⟨x,H2,I2,rx,a,m,C,g,ex,he,M,n,q2⟩=>?_) hs;subst ex;obtain rfl:ov=Value.ref a:=rx;obtain ⟨cd,hc,hd,ho⟩:=M.cls;obtain ⟨_,t0,hx⟩:=(I2.hok _ _ he).1;obtain ⟨h2,gg,d,tk,os⟩:=s2;refine ajU PySem.F.store_ValueError I2.kIn hx hc hd ho M.sa n fun h' dx tk' n1 n2 bQ hn keep=>?_
 have I3:=I2.xstore (t':=tk') he n1 n2 bQ hn keep ry;exact ⟨Y,_,I3,q2 dx (I2.hok.fresh n1) n2⟩
end
noncomputable def X0 (H:Hp) (x:Addr):Hp:=fun b=>if b=x then none else H b
theorem ahD{x:Addr} : X0 H x x=none:=by unfold X0;rw [if_pos rfl]
theorem g7{x:Addr}(h:b≠x):X0 H x b=H b:=by unfold X0;rw [if_neg h]
theorem alS{x:Addr}{o:HO}(h:X0 H x b=some o):b≠x/\H b=some o:=by
 by_cases e:b=x
 .rw [e,ahD] at h;cases h
 .rw [g7 e] at h;exact ⟨e,h⟩
noncomputable def U4 (P:Program) (w:World):Y8:=fun outer H s E e s'=>∃ (x C dx T:Addr) (H':Hp),e=.ref x/\s'.os=s.os/\AllBare s'.gens/\Un (Q8 outer) [] H H' s.heap s'.heap/\L9 P w H' s'.heap/\s.heap.objs.size<=x/\s.heap.objs.size<=T/\H' x=none/\H' T=none/\Flies s'.heap x C dx T/\E (.ref C) (some dx) H'
section
variable {P:Program} {w:World} {K:PySem.W.Frag} {mg:Str->Option Value} {base:Heap} {N:List Str} {qual:Str} {scope:Scope} {f:Addr} {cd:Value} {A:Around} {outer:List Env} {s s1:Shared} {H H1:Hp} {E:XK} {pins:List (Addr×Obj)} {Y:St} {x C dx:Addr}
theorem uE(I:Inv (cxOf (U4 P w) P w K mg base N qual scope f cd A outer s H E) pins Y H1 s1)(e:H1 x=some (xo s.heap.objs.size x C dx))(hE:E (.ref C) (some dx) (X0 H1 x)) :
  (cxOf (U4 P w) P w K mg base N qual scope f cd A outer s H E).xe (.ref x) s1:=by
 obtain ⟨hm,t0,hx⟩:=(I.hok _ _ e).1;have B:Un (Q8 outer) [] H H1 s.heap s1.heap:=I.base;have old:∀ b o,s.heap.get? b=some o->b≠x:=fun b o z q=>by rw [q] at z;exact absurd (Heap.lt_size z) (aW.mpr hm)
 have Q1:∀ b o,s.heap.get? b=some o->b∉Q8 outer->b∉Q8 ((envOfC qual scope s.heap.objs.size f cd)::outer):=fun b o z n q=>by
  have z1:b∈(envOfC qual scope s.heap.objs.size f cd).locals::Q8 outer:=I.stkSub b q
  rcases F9.mp z1 with r | r
  .have:b<(envOfC qual scope s.heap.objs.size f cd).locals:=Q6 (Heap.lt_size z) I.ok.above
   rw [r] at this;exact absurd this (j4 _)
  .exact n r
 show wpAny _ _ (leaving _ _) _ _ _;unfold leaving;refine wpAny_bind (ajX (s:=s1) I.ok.frames I.stack (L:=s.heap.objs.size) rfl hx fun h' T nT fl k1 k2=>?_);have szl:s.heap.objs.size<=s1.heap.objs.size:=I.sz;refine ⟨x,C,dx,T,X0 H1 x,rfl,I.os,I.bare,⟨fun b o z n hb P0=>?_,fun b o z n hb P0=>?_,fun b o z n P0=>?_,fun b o z P0=>?_,fun b xs z=>?_,fun b o v z=>?_,fun b ps z=>?_⟩,fun b u q=>?_,hm,D5 szl nT,ahD,?_,fl,hE⟩
 .exact k1 b o (old b o z) (Q1 b o z hb) (B.keep b o z n hb P0)
 .obtain ⟨sl,q⟩:=B.slot b o z n hb P0;obtain ⟨sl',q'⟩:=k2 b _ (old b o z) q;exact ⟨sl',q'⟩
 .rw [g7 (old b o z)];exact B.free b o z n P0
 .obtain ⟨o',q⟩:=B.there b o z P0;obtain ⟨sl',q'⟩:=k2 b o' (old b o z) q;exact ⟨_,q'⟩
 .have q:=B.tups b xs z;rw [g7 (fun r=>by rw [r,e] at q;cases q)];exact q
 .have q:=B.frzs b o v z;rw [g7 (fun r=>by rw [r,e] at q;cases q)];exact q
 .obtain ⟨more,q⟩:=B.tbls b ps z;exact ⟨more,by rw [g7 (fun r=>by rw [r,e] at q;cases q)];exact q⟩
 .obtain ⟨n1,q1⟩:=alS q;refine (I.hok b u q1).stay (fun c v hc z=>?_) (fun c z=>by rw [g7 (fun r=>by rw [r,e] at z;cases z)];exact z) fun c xs z=>by rw [g7 (fun r=>by rw [r,e] at z;cases z)];exact z
  have hcH:∃ o,H1 c=some o:=by
   rcases hc with r | r
   .rw [r];exact ⟨_,q1⟩
   .exact ⟨_,r⟩
  obtain ⟨oc,hcH⟩:=hcH;refine k1 c v (fun r=>?_) (fun r=>?_) z
  .rcases hc with r' | r'
   .exact n1 (r'.symm.trans r)
   .rw [r,e] at r';cases r'
  .have:=I.stkFree c r
   rw [hcH] at this;cases this
 .rw [g7 (fun r=>by
   have C7:=Heap.lt_size hx;rw [<- r] at C7;exact absurd C7 (aW.mpr nT))]
  exact I.hok.fresh nT
end
noncomputable def uF (K:PySem.W.Frag) (m:Nat) (E:XK) (te:TE):TS:=fun _ Y H=>te Y H fun v H1=>∃ x C dx f,v=.ref x/\H1 x=some (xo m x C dx)/\ErrC K C f/\E (.ref C) (some dx) (X0 H1 x)
section
variable {X:Cx} {m:Nat} {E:XK} {e:Expr} {te:TE} {pos:Pos}
theorem alT(hx:∀ (pins:List (Addr×Obj)) (Y:St) (H:Hp) (s:Shared) (x C dx:Addr),Inv X pins Y H s->H x=some (xo m x C dx)->E (.ref C) (some dx) (X0 H x)->X.xe (.ref x) s)(hc:X.calm=true)(he:PE X e te):PS X (.Raise (some e) none pos) (uF X.K m E te):=by
 intro pins s Y H D I h;rw [arm_exec_Raise];refine wpAny_bind (wpAny_standAt (ajT (I.ok.hd hc) (wpAny_bind (B3 (he pins s Y H _ I h) fun u s1 z=>wpAny_bind (wpAny_standAt (wpAny_pure ?_))))));obtain ⟨v,H1,I1,rv,x,C,dx,f,ev,ex,M,hE⟩:=z;subst ev;obtain rfl:u=Value.ref x:=rv;obtain ⟨nm,q,N,bs,bm,sn,sub,ab,col,dd,k0,k1,k2,k3,k5,l,bN,ho,hok,hi⟩:=M.ex;obtain ⟨_,t0,bQ⟩:=(I1.hok _ _ ex).1;exact ⟨x,C,t0,N,some dx,nm,q,bs,bm,true,sn,sub,ab,col,dd,k0,k1,k2,k3,k5,_,rfl,I1.kIn _ _ l,(PySem.W.tail_of_in I1.kIn bN).hasType 'g',bQ,hx pins Y H1 s1 x C dx I1 ex hE⟩
end
section
variable {P:Program} {w:World} {K:PySem.W.Frag} {mg:Str->Option Value} {base:Heap}
theorem FunD.okX(F:FunD K x qual st f fd)(S:FnScope N ps (C8 st))(len:∀ vs H Q E,sp vs H Q E->vs.length=ps.length)(V6:∀ (cdv:Value) (A:Around) (outer:List Env) (s:Shared) (H:Hp) (vs:List V) (Q:VK) (E:XK),Room k (A.deeper (envOfC qual (C8 st) s.heap.objs.size f cdv))->sp vs H Q E->
   ∃ t,W5 (cxOf (U4 P w) P w K mg base N qual (C8 st) f cdv A outer s H E) (P9 st) t/\t { nx:=fun _ H'=>Q .non H',rt:=Q } (start N vs) H):FnOk P w K mg base (U4 P w) (k+1) f fd ps sp:=by
 obtain ⟨oc,od,dV,kV,doc,pm,an,cdv,ct,osl,rfl,lk,T3⟩:=F.ex;exact fn_of lk T3 S len fun A outer s H vs Q E hr aE=>V6 cdv A outer s H vs Q E hr aE
end
section
variable {P:Program} {w:World} {K:PySem.W.Frag} {mg:Str->Option Value} {base:Heap} {N:List Str} {qual:Str} {scope:Scope} {f:Addr} {cd:Value} {A:Around} {outer:List Env} {s s1:Shared} {H H1:Hp} {E:XK} {pins:List (Addr×Obj)} {Y:St}
theorem lD:gW (U4 P w) (cxOf (U4 P w) P w K mg base N qual scope f cd A outer s H E) E:=by
 intro pins Y H1 s1 e s' I ⟨x,C,dx,T,H',ee,os',bare',un,hok,nx,nT,hx,hT,fl,hE⟩;subst ee;have I':=I.call' (ch:=[]) os' un hok bare' (fun b z=>absurd z 'c');have B:Un (Q8 outer) [] H H' s.heap s'.heap:=I'.base;have szl:s.heap.objs.size<=s1.heap.objs.size:=I.sz;have old:∀ (y:Addr),s1.heap.objs.size<=y->∀ b o,s.heap.get? b=some o->b≠y:=fun y hy b o z q=>by rw [q] at z;exact absurd (Heap.lt_size z) (aW.mpr (D5 szl hy))
 have Q1:∀ b o,s.heap.get? b=some o->b∉Q8 outer->b∉Q8 ((envOfC qual scope s.heap.objs.size f cd)::outer):=fun b o z n q=>by
  have z1:b∈(envOfC qual scope s.heap.objs.size f cd).locals::Q8 outer:=I.stkSub b q
  rcases F9.mp z1 with r | r
  .have:b<(envOfC qual scope s.heap.objs.size f cd).locals:=Q6 (Heap.lt_size z) I.ok.above
   rw [r] at this;exact absurd this (j4 _)
  .exact n r
 show wpAny _ _ (leaving _ _) _ _ _;unfold leaving;refine wpAny_bind (af7 (s:=s') I'.ok.frames I'.stack (L:=s.heap.objs.size) rfl fl fun h' T' nT' fl' k1 k2=>?_);refine ⟨x,C,dx,T',H',rfl,I'.os,I'.bare,⟨fun b o z n hb P0=>?_,fun b o z n hb P0=>?_,fun b o z n P0=>B.free b o z n P0,fun b o z P0=>?_,B.tups,B.frzs,B.tbls⟩,fun b u q=>?_,D5 szl nx,?_,hx,I'.hok.fresh nT',fl',hE⟩
 .exact k1 b o (old x nx b o z) (old T nT b o z) (Q1 b o z hb) (B.keep b o z n hb P0)
 .obtain ⟨sl,q⟩:=B.slot b o z n hb P0;obtain ⟨sl',q'⟩:=k2 b _ (old x nx b o z) (old T nT b o z) q;exact ⟨sl',q'⟩
 .obtain ⟨o',q⟩:=B.there b o z P0;obtain ⟨sl',q'⟩:=k2 b o' (old x nx b o z) (old T nT b o z) q;exact ⟨_,q'⟩
 .refine (I'.hok b u q).stay (fun c v hc z=>?_) (fun c z=>z) fun c xs z=>z
  have hcH:∃ o,H' c=some o:=by
   rcases hc with r | r
   .rw [r];exact ⟨_,q⟩
   .exact ⟨_,r⟩
  obtain ⟨oc,hcH⟩:=hcH;refine k1 c v (fun r=>?_) (fun r=>?_) (fun r=>?_) z
  .rw [r,hx] at hcH;cases hcH
  .rw [r,hT] at hcH;cases hcH
  .have:=I'.stkFree c r
   rw [hcH] at this;cases this
 .exact D5 I'.sz nT'
end
noncomputable abbrev Cx.inExc (X:Cx) (x:Addr) (xe:Value->Shared->Prop):Cx:={ X with A:=X.A.mark (some (.ref x)),calm:=false,xe:=xe }
section
variable {X:Cx} {pins:List (Addr×Obj)} {Y:St} {H:Hp} {s:Shared}
theorem Inv.inExc(I:Inv X pins Y H s)(x:Addr)(xe:Value->Shared->Prop):Inv (X.inExc x xe) pins Y H s:=
 ⟨⟨I.ok.mod,I.ok.kind,I.ok.glob,I.ok.blt,I.ok.above,I.ok.inj,I.ok.has,I.ok.cab,(fun z=>by cases z),I.ok.frames,I.ok.stk,I.ok.exf,I.ok.bs,I.ok.bsz,I.ok.noex,I.ok.exfs,I.ok.funs,I.ok.frf⟩,I.os,I.bare,I.base,I.loc,I.cell,I.free,I.freeC,I.pin,I.hok,I.len⟩
theorem Inv.outExc{x:Addr}{xe:Value->Shared->Prop}(hd:X.calm=true->X.A.handled=none)(I:Inv (X.inExc x xe) pins Y H s):Inv X pins Y H s:=
 ⟨⟨I.ok.mod,I.ok.kind,I.ok.glob,I.ok.blt,I.ok.above,I.ok.inj,I.ok.has,I.ok.cab,hd,I.ok.frames,I.ok.stk,I.ok.exf,I.ok.bs,I.ok.bsz,I.ok.noex,I.ok.exfs,I.ok.funs,I.ok.frf⟩,I.os,I.bare,I.base,I.loc,I.cell,I.free,I.freeC,I.pin,I.hok,I.len⟩
theorem Inv.beyond{s':Shared}(I:Inv X pins Y H s)(h:s.heap.objs.size<=b):(b∈X.ex\/X.s₀.heap.objs.size<=b)/\b≠X.env.locals/\(∀ x c,X.env.cells.lookup x=some c->c≠b)/\∀ p∈X.pn++pins,p.1≠b:=by
 refine ⟨.inr (D5 I.sz h),fun e=>?_,fun x c z e=>?_,fun p hp e=>?_⟩
 .have:=I.lt
  rw [<- e] at this;exact absurd this (aW.mpr h)
 .obtain ⟨v,o,ho,_⟩:=I.cell x c z
  have:=Heap.lt_size ho
  rw [e] at this;exact absurd this (aW.mpr h)
 .have:=Heap.lt_size (I.pin p hp).1
  rw [e] at this;exact absurd this (aW.mpr h)
theorem aj1{M:Model}{E:Value->Shared->Prop}{n:Str}{pos:Pos}{Q:Unit->Shared->Prop}(I:Inv X pins Y H s)(hN:X.N.Nodup)(hi:X.N[i]?=some n)(hk:X.env.kindOf n=some .local)(h:∀ s',Inv X pins (Y.set i none) H s'->Q () s'):wpAny M A (do bindName X.env n .none;unbindBehindTheSuite X.env n pos) Q E s:=by
 obtain ⟨m,hn,hl⟩:=I.loc;have fD:(X.env.scope.kind == .class || (X.env.scope.kind == .module&&X.env.locals != X.env.globals))=false:=by rw [I.ok.kind];rfl
 refine wpAny_nameGoes_keeps hk hn fD fun h' v dH hs=>h _ ?_
 have cne:=I.cne;have k:∀ b o,b≠X.env.locals->s.heap.get? b=some o->h'.get? b=some o:=fun b o hb z=>(hs.2 b hb).trans z
 have neL:∀ b o,X.s₀.heap.get? b=some o->b≠X.env.locals:=fun b o e=>J4 (Q6 (Heap.lt_size e) I.ok.above)
 have B:=I.base;refine ⟨I.ok,I.os,I.bare,⟨fun b o z n hb hx=>k b o (neL b o z) (B.keep b o z n hb hx),fun b o z n hb hx=>?_,B.free,fun b o z hx=>?_,B.tups,B.frzs,B.tbls⟩,⟨_,dH,fun j y u h1 h2 h3=>?_⟩,fun y c z=>?_,I.free,I.freeC,fun p hp=>?_,fun b u e=>?_,?_⟩
 .obtain ⟨sl,q⟩:=B.slot b o z n hb hx;exact ⟨sl,k b _ (neL b o z) q⟩
 .obtain ⟨o',q⟩:=B.there b o z hx;exact ⟨o',k b o' (neL b o z) q⟩
 .have fS:i≠j:=fun e=>by
   subst e;rw [List.getElem?_set_self (by rw [I.len];exact (F8.mp hi).1)] at h2;cases h2
  rw [List.getElem?_set_ne fS] at h2;obtain ⟨u',r,lk⟩:=hl j y u h1 h2 h3;have hyn:y≠n:=fun e=>fS (qY hN (by rw [hi,<- e]) h1)
  refine ⟨u',r,?_⟩
  rcases lk with ⟨a,b⟩ | ⟨a,c,b,d⟩
  .exact .inl ⟨a,by show (if y=n then v else m y)=_;rw [if_neg hyn];exact b⟩
  .obtain ⟨o,ho,hd⟩:=d;exact .inr ⟨a,c,b,o,k c o (cne y c b) ho,hd⟩
 .obtain ⟨v',o,ho,hd⟩:=I.cell y c z;exact ⟨v',o,k c o (cne y c z) ho,hd⟩
 .obtain ⟨a,b,c,d,e⟩:=I.pin p hp;exact ⟨k _ _ c a,b,c,d,e⟩
 .refine (I.hok b u e).stay (fun c v' hc z=>k c v' (fun r=>?_) z) (fun _ z=>z) fun _ _ z=>z
  have:=I.free
  rcases hc with r' | r'
  .rw [<- r,r',e] at this;cases this
  .rw [<- r,r'] at this;cases this
 .rw [List.length_set];exact I.len
end
section
variable {X:Cx} {pins:List (Addr×Obj)} {Y:St} {H:Hp} {s s':Shared} {E:XK} {e:Value} {Dn n:Str} {dp hp:Pos} {i:Nat} {yo:Stmt} {suite:List Stmt} {ts:TS} {D:Ends} {DC:Addr} {cd:ClassData}
theorem Inv.held{x T2:Addr}(I1:Inv X pins Y H' s')(hbx:(x∈X.ex\/X.s₀.heap.objs.size<=x)/\x≠X.env.locals/\(∀ y c,X.env.cells.lookup y=some c->c≠x)/\∀ p∈X.pn++pins,p.1≠x)(hbT:(T∈X.ex\/X.s₀.heap.objs.size<=T)/\T≠X.env.locals/\(∀ y c,X.env.cells.lookup y=some c->c≠T)/\∀ p∈X.pn++pins,p.1≠T)(hx:H' x=none)(hT:H' T=none)(mJ:Flies h2 x C dx T2)(k1:∀ b o,b≠x->b≠T->b∉X.stack.filterMap (·.frame)->s'.heap.get? b=some o->h2.get? b=some o)(k2:∀ b o,b≠x->b≠T->s'.heap.get? b=some o->∃ sl,h2.get? b=some { o with slots:=sl }) :
  Inv X pins Y (A0 H' x (xc x C dx)) { s' with heap:=h2 }:=by
 obtain ⟨vs,oT,tsl,he,h1,hTx,hT2,hTd,h3⟩:=mJ;have fr:∀ b,b≠X.env.locals->b∉X.fs->b∉X.stack.filterMap (·.frame):=fun b hL hf q=>by
  rcases F9.mp (I1.stkSub b q) with r | r
  .exact hL r
  .exact hf r
 refine I1.step (g':=s'.gens) (d':=s'.drawn) (t':=s'.toks) (ch:=[x,T]) (fun b hb=>?_) (fun b o hL hf hc z _=>k1 b o (fun r=>hc (by simp [r])) (fun r=>hc (by simp [r])) (fr b hL hf) z) (fun b o hL hf hc z _=>k2 b o (fun r=>hc (by simp [r])) (fun r=>hc (by simp [r])) z) (fun b o hc z n=>?_) (fun b o hc z=>?_) (fun b xs z=>?_) (fun b o u z=>?_) (fun b ps z=>?_) (fun m hm=>?_) (uac (fun b u q=>?_) hx (xc_ok he rfl rfl rfl)) I1.bare
 .rcases F9.mp hb with r | r
  .rw [r];exact hbx
  .rw [D3.mp r];exact hbT
 .rw [A4 (fun r=>hc (by simp [r]))];exact n
 .obtain ⟨sl,q⟩:=k2 b o (fun r=>hc (by simp [r])) (fun r=>hc (by simp [r])) z;exact ⟨_,q⟩
 .rw [A4 (O3 z hx)];exact z
 .rw [A4 (O3 z hx)];exact z
 .exact ⟨#[],by rw [A4 (O3 z hx),z];simp⟩
 .obtain ⟨o,es,ep,ho,r⟩:=hm;obtain ⟨sl,q⟩:=k2 _ o (Ne.symm hbx.2.1) (Ne.symm hbT.2.1) ho;exact ⟨_,es,ep,q,r⟩
 .refine (I1.hok b u q).stay (fun c v hc z=>?_) (fun c z=>z) fun c xs z=>z
  have hcH:∃ o,H' c=some o:=by
   rcases hc with r | r
   .rw [r];exact ⟨_,q⟩
   .exact ⟨_,r⟩
  obtain ⟨oc,hcH⟩:=hcH;refine k1 c v (O3 hcH hx) (O3 hcH hT) (fun r=>?_) z
  have:=I1.stkFree c r
  rw [hcH] at this;cases this
theorem Inv.other(I:Inv X pins Y H s)(hb:(T∈X.ex\/X.s₀.heap.objs.size<=T)/\T≠X.env.locals/\(∀ y c,X.env.cells.lookup y=some c->c≠T)/\∀ p∈X.pn++pins,p.1≠T)(hT:H T=none)(k:∀ b o,b≠T->s.heap.get? b=some o->h2.get? b=some o):Inv X pins Y H { s with heap:=h2 }:=
 I.turned (t':=s.toks) k hT hb.2.1 hb.1 hb.2.2.1 hb.2.2.2
end
noncomputable def dE (K:PySem.W.Frag) (DC:Addr) (i:Nat) (ts:TS) (D:Ends) (Y:St):XK:=fun cls dx H'=>∃ C d,cls=.ref C/\dx=some d/\R6 K C (.ref DC)=some true/\∀ x,H' x=none->ts { nx:=fun σ' H''=>D.nx (σ'.set i none) H'',rt:=fun _ _=>False } (Y.set i (some (.ref x))) (A0 H' x (xc x C d))
noncomputable def tTryE (K:PySem.W.Frag) (sp:Sp) (dvs:List V) (t:TA) (DC:Addr) (i:Nat) (ts:TS):TS:=fun D Y H=>t Y H fun vs H1=>sp (vs++dvs) H1 (fun _ H2=>D.nx Y H2) (dE K DC i ts D Y)
noncomputable def tTryA (K:PySem.W.Frag) (sp:Sp) (dvs:List V) (t:TA) (j:Nat) (DC:Addr) (i:Nat) (ts:TS):TS:=fun D Y H=>t Y H fun vs H1=>sp (vs++dvs) H1 (fun v H2=>D.nx (Y.set j (some v)) H2) (dE K DC i ts D Y)
structure CatchC(K:PySem.W.Frag)(DC:Addr):Prop where
 cl:∃ cd,PySem.W.clsIn K DC=some cd
 ty:PySem.W.typeIn K (.ref DC)=some (.type "type")
 bx:R6 K DC (.type "BaseException")=some true
noncomputable def tXGet (K:PySem.W.Frag) (ta:TE) (f:Str):TE:=fun Y H Q=>ta Y H fun x H1=>∃ a C dx g fs v,x=.ref a/\H1 a=some (xc a C dx)/\H1 dx=some (.xd fs)/\ErrC K C g/\NoAttr K C f/\fs.lookup f=some v/\Q v H1
noncomputable def clsV:V->Option Value
 | .ref a=>some 'f'
 | .ty t=>some (.type t)
 | _=>none
noncomputable def rIsX (K:PySem.W.Frag):List V->Hp->VK->Prop:=fun xs H Q=>∃ a C dx g fs c cv b,xs=[.ref a,c]/\H a=some (xc a C dx)/\H dx=some (.xd fs)/\ErrC K C g/\clsV c=some cv/\C5 K (.ref C) cv=some b/\Q (.bl b) H
section
variable {X:Cx} {e:Expr} {te:TE} {f:Str} {pos:Pos}
theorem amr{fs:List (Str×V)}(I:Inv X pins Y H s)(h1:H a=some (xc a C dx))(h2:H dx=some (.xd fs)) :
  ∃ (ox od:Obj) (mA:Str->Option Value),PySem.W.InstAt s.heap a ox C (some od)/\(∀ name,PySem.W.lookIn name od=some (mA name))/\∀ g,RelO (fs.lookup g) (mA g):=by
 obtain ⟨o,ho,hc,hd,hn⟩:=(I.hok _ _ h1).1;obtain ⟨mA,ns,rel⟩:=I.hok _ _ h2;obtain ⟨od,jE,hl⟩:=zA ns;refine ⟨o,od,mA,⟨ho,hc,hn,?_⟩,hl,rel⟩;rw [hd];exact jE
theorem an4(he:PE X e te)(hb:attributeBase e f X.env (eval e X.env)=eval e X.env):PE X (.Attribute e f pos) (tXGet X.K te f):=by
 sleep 1;refine zC hb (B3 (he pins s Y H _ I h) fun u s1 z=>?_);obtain ⟨x,H1,I1,rx,a,C,dx,g,fs,v,ex,h1,h2,M,n,l,q⟩:=z;subst ex;obtain rfl:u=Value.ref a:=rx;obtain ⟨ox,od,mA,J,hl,rel⟩:=amr I1 h1 h2;obtain ⟨u,hu,ru⟩:=gU (v:=v) (o:=mA f) (by rw [<- l];exact rel f);obtain ⟨cd,hc,hd,_⟩:=M.cls;obtain ⟨hh,g',d,tk,os⟩:=s1;refine anX I1.kIn J M.ga M.gt M.bx (PySem.W.findObj_own (by unfold gI;rw [hc];exact hd) n rfl (by rw [hl,hu])) (zB ru) ?_;exact ⟨v,H1,I1.tok _,ru,q⟩
theorem alU(hn:eE X.K (.builtin "object.__class__") "__get__"=some (some (.builtin "getset_descriptor.__get__")))(ht:kC X.K (.builtin "object.__class__")=some true):CallR X (.builtin "isinstance") (rIsX X.K):=by
 intro pins s Y H xs us Q I r h;obtain ⟨a,C,dx,g,fs,c,cv,b,rfl,h1,h2,M,mK,hk,q⟩:=h;obtain ⟨u1,u2,rfl,r1,r2⟩:=vals2 r
 cases r1
 have e2:u2=cv:=by
  cases c with
  | ref D=>cases mK;exact r2
  | ty t=>cases mK;exact r2
  | _=>cases mK
 subst e2;obtain ⟨ox,od,mA,J,hl,rel⟩:=amr I h1 h2;obtain ⟨cd,hc,hd,_⟩:=M.cls;exact j3 (alP (ox:=ox) (od:=od) (by unfold gI;rw [hc];exact hd) M.ga M.gt M.bx M.cl hn ht M.ob) I.kIn J hk (by intro z;cases z) fun tk=>⟨.bl b,H,I.tok _,rfl,q⟩
end
noncomputable def bG (P:Program) (w:World) (K:PySem.W.Frag) (mg:Str->Option Value) (base:Heap) (k:Nat) (x:Str) (ps:List Str) (dvs:List V) (sp:Sp):Prop:=
 ∃ f fd,FnOk P w K mg base (U4 P w) k f fd ps sp/\mg x=some (.ref f)/\O8 K (.ref f)=true/\∃ ds,Binds K fd ps ds/\Vals dvs ds
noncomputable def EO (P:Program) (w:World) (K:PySem.W.Frag) (mg:Str->Option Value) (base:Heap) (k:Nat) (C:Addr) (x:Str) (ps:List Str) (sp:Sp):Prop:=
 ∃ f fd,FnOk P w K mg base G9 k f fd ps sp/\mg x=some (.ref C)/\ErrC K C f/\Binds K fd ps []
section
variable {X:Cx} {K:PySem.W.Frag} {k:Nat} {C:Addr} {ps:List Str} {sp:Sp} {x:Str} {p pos np ap cp ep dp hp yp gp:Pos} {e a b:Expr} {es:List Expr} {t:TA} {te ta tb tv:TE} {m:Nat} {E:XK}
theorem uG(G:EO X.prog X.w X.K X.mg X.base k C x ps sp)(hr:Room (k+1) X.A)(ha:QA X (e::es) t)(hg:Gl X x:=by rfl)(hm:X.s₀.heap.objs.size=m:=by rfl)(N2:(x==("__debug__" : Str))=false:=by decide)(he:starEach (e::es) X.env=(false,eval e X.env)::starEach es X.env:=by rfl)(V5:(backTo pos (starEach es X.env)).any (·.1)=false:=by rfl):QE X (.Call (.Name x p) (e::es) [] pos) (tErr m C sp t):=by
 subst hm;obtain ⟨f,fd,F,fH,M,hb⟩:=G;exact ⟨aq4 M F hr hg fH hb ha.out N2 he V5⟩
theorem uH{L:Addr}{pl:Sem Bool}(N:LoreC X.K L)(hm:X.mg x=some (.ref L))(ha:QE X a ta)(hb:QE X b tb)(hK:X.K=K:=by rfl)(hg:Gl X x:=by rfl)(N2:(x==("__debug__" : Str))=false:=by decide)(wX:backTo cp (starEach [a,b] X.env)=[(false,eval a X.env),(false,eval b X.env)]:=by rfl)(ht:eval (.Call (.Attribute (.Name x np) "__init__" ap) [a,b] [] cp) X.env=(do
   let ov <- eval (.Name x np) X.env
   standAt ap.atName
   let (f,first) <- holding [ov] (getMethod ov "__init__" pl)
   callWith cp f first (backTo cp (starEach [a,b] X.env)) (backToKw cp (keywordEach [] X.env))):=by rfl):QE X (.Call (.Attribute (.Name x np) "__init__" ap) [a,b] [] cp) (tInit K ta tb):=by
 subst hK;exact ⟨anZ N hg hm ha.out hb.out N2 wX ht⟩
theorem uI{t1 t2:TE}(h1:QE X a t1)(h2:QE X b t2):QE X (.JoinedStr [a,b] pos) (eX [t1,t2]):=⟨ajY (.cons h1.out (.cons h2.out .nil)) 'g'⟩
theorem uJ{f:Str}(ha:QE X a ta)(hv:QE X b tv)(hK:X.K=K:=by rfl)(hs:swapsWith b (some (.Attribute a f ap)) pos.line X.env=pure false:=by rfl):QS X (.Assign [.Attribute a f ap] b pos) (sXFld K ta tv f):=by
 subst hK;exact ⟨an3 ha.out hv.out hs⟩
theorem uK(hx:∀ (pins:List (Addr×Obj)) (Y:St) (H:Hp) (s:Shared) (x C dx:Addr),Inv X pins Y H s->H x=some (xo m x C dx)->E (.ref C) (some dx) (X0 H x)->X.xe (.ref x) s)(he:QE X e te)(hK:X.K=K:=by rfl)(hc:X.calm=true:=by rfl):QS X (.Raise (some e) none pos) (uF K m E te):=by
 subst hK;exact ⟨alT hx hc he.out⟩
theorem lE(G:bG X.prog X.w X.K X.mg X.base k x ps dvs sp)(hr:Room k X.A)(hx:gW (U4 X.prog X.w) X E)(ha:QA X (e::es) t)(hg:Gl X x:=by rfl)(N2:(x==("__debug__" : Str))=false:=by decide)(he:starEach (e::es) X.env=(false,eval e X.env)::starEach es X.env:=by rfl)(V5:(backTo pos (starEach es X.env)).any (·.1)=false:=by rfl):QE X (.Call (.Name x p) (e::es) [] pos) (tCall sp dvs E t):=by
 obtain ⟨f,fd,F,hm,hk,ds,hb,hd⟩:=G;exact ⟨zE F hr hg hm hk hb hd hx ha.out N2 he V5⟩
theorem pI{f:Str}(he:QE X e te)(hK:X.K=K:=by rfl)(hb:attributeBase e f X.env (eval e X.env)=eval e X.env:=by rfl):QE X (.Attribute e f pos) (tXGet K te f):=by
 subst hK;exact ⟨an4 he.out hb⟩
theorem q_isX(hn:eE X.K (.builtin "object.__class__") "__get__"=some (some (.builtin "getset_descriptor.__get__")))(ht:kC X.K (.builtin "object.__class__")=some true)(hK:X.K=K:=by rfl):QCall X (.builtin "isinstance") (rIsX K):=by
 subst hK;exact ⟨alU hn ht⟩
variable {DC:Addr} {Dn n y:Str} {i j:Nat} {yo:Stmt} {suite:List Stmt} {ts:TS} {dvs:List V} {N:List Str} {S:Scope}
end
section
variable {Y:St} {H:Hp} {Q:VK} {D:Ends} {m:Nat} {C DC:Addr} {sp:Sp} {t:TA} {te ta tb tv:TE} {K:PySem.W.Frag} {E:XK} {f:Str} {i j:Nat} {ts:TS} {dvs:List V} {tl:List TE}
theorem aq5:tErr m C sp t Y H Q=t Y H fun vs H1=>vs.length<=1000/\∀ x,H1 x=none->sp (.ref x::vs) (A0 H1 x (xm m x C)) (fun v H2=>v=.non/\Q (.ref x) H2) E0:=rfl
theorem alV:uF K m E te D Y H=te Y H fun v H1=>∃ x C dx f,v=.ref x/\H1 x=some (xo m x C dx)/\ErrC K C f/\E (.ref C) (some dx) (X0 H1 x):=rfl
theorem an5:tInit K ta tb Y H Q=ta Y H fun x H1=>tb Y H1 fun _ H2=>∃ a m C f,x=.ref a/\H2 a=some (xm m a C)/\ErrC K C f/\Q .non H2:=rfl
theorem an6:tFmtI te Y H Q=te Y H fun v H1=>∃ i:Int,v=.int i/\i.natAbs<10 ^ 9/\∀ z:Str,z.length<=100->Q (.str z) H1:=rfl
theorem aj3:eX [] Y H Q=∀ z:Str,Q (.str z) H:=rfl
theorem alW:eX (te::tl) Y H Q=te Y H fun v H1=>∃ y:Str,v=.str y/\y.length<=100000/\eX tl Y H1 Q:=rfl
theorem an7:sXFld K ta tv f D Y H=tv Y H fun y H1=>ta Y H1 fun x H2=>∃ a m C g,x=.ref a/\H2 a=some (xm m a C)/\ErrC K C g/\NoAttr K C f/\∀ dx,H2 dx=none->dx≠a->D.nx Y (A0 (A0 H2 a (xo m a C dx)) dx (.xd [(f,y)])):=rfl
theorem an8:tXGet K ta f Y H Q=ta Y H fun x H1=>∃ a C dx g fs v,x=.ref a/\H1 a=some (xc a C dx)/\H1 dx=some (.xd fs)/\ErrC K C g/\NoAttr K C f/\fs.lookup f=some v/\Q v H1:=rfl
theorem an9:tTryE K sp dvs t DC i ts D Y H=t Y H fun vs H1=>sp (vs++dvs) H1 (fun _ H2=>D.nx Y H2) (dE K DC i ts D Y):=rfl
theorem aoa:tTryA K sp dvs t j DC i ts D Y H=t Y H fun vs H1=>sp (vs++dvs) H1 (fun v H2=>D.nx (Y.set j (some v)) H2) (dE K DC i ts D Y):=rfl
end
theorem afb:bootBuiltins "ValueError"=some (.type "ValueError"):=by decide +kernel
theorem nsOk_of{N:Addr}{c:Value}{d:Option Addr}{es:Array DictEntry}{sl:Array (Option Value)}(h:K.lookup N=some ⟨c,d,.dict es n,sl⟩)(ha:(es.toList.all fun e=>match e.key with | .str _ _=>true | _=>false)=true):eF K N=true:=by
 unfold eF;rw [h];show (es.all _)=true;rw [<- Array.all_toList];exact ha
theorem tail_one{A:Addr}{c:Value}{d:Option Addr}{cd:ClassData}{sl:Array (Option Value)}(h:K.lookup A=some ⟨c,d,.cls cd,sl⟩)(h1:eF K cd.ns=true)(h2:E5 K cd.ns "__init__"=some none):cL K bmB (.ref A::bmB)=true:=by
 unfold cL
 dsimp only
 rw [h];have h3:cL K bmB bmB=true:=by
  cases bmB with
  | nil=>rfl
  | cons v r=>
   unfold cL;rw [beq_self_eq_true];rfl
 simp only [h1,h2,h3,beq_self_eq_true,Bool.and_self,Bool.or_true]
end L2
namespace L2
open PySem PySem.Spec PyProof.Rows
open PySem.Builtin PySem.Builtin.Str PySem.StrLaws
noncomputable def tFmtR (te:TE):TE:=fun Y H Q=>te Y H fun v H1=>∃ y:Str,v=.str y/\y.length<=1000/\P8 y=true/\∀ z:Str,z.length<=20000->Q (.str z) H1
theorem aob : tFmtR te Y H Q=te Y H fun v H1=>∃ y:Str,v=.str y/\y.length<=1000/\P8 y=true/\∀ z:Str,z.length<=20000->Q (.str z) H1:=rfl
theorem aoc{pos:Pos}(he:PE X e te):PE X (.FormattedValue e 114 none pos) (tFmtR te):=by
 sleep 1;refine wpAny_FormattedValue_repr (B3 (he pins s Y H _ I h) fun u s1 ⟨v,H1,I1,rv,y,ev,hy,ho,q⟩=>?_);subst ev;obtain ⟨t,rfl⟩:=rv;have hc:∀ c∈y.cps.toList,c<16 ^ 8:=fun c hc=>by
  unfold P8 at ho;rw [<- Array.all_toList,List.all_eq_true] at ho
  have:=ho c hc
  simp only [decide_eq_true_eq] at this;exact y3 this 'g'
 have hl:(reprText y).length<=20000:=D5 (reprText_len y hc) 'b';have hz:(reprText y).length<=sizeLine:=D5 hl 'g';exact wpAny_pyReprObj_str (wpAny_formatField_str ⟨.str _,H1,I1.tok _,⟨_,rfl⟩,q _ hl⟩ ⟨.str _,H1,I1.tok _,⟨_,rfl⟩,q _ hl⟩ hz) hz
theorem aj4{pos:Pos}(he:QE X e te):QE X (.FormattedValue e 114 none pos) (tFmtR te):=⟨aoc he.out⟩
noncomputable def X1 (z:Str):Prop:=z.length<=10/\P8 z=true
noncomputable def tFmtL (K:PySem.W.Frag) (te:TE):TE:=fun Y H Q=>te Y H fun v H1=>∃ (a:Addr) (zs:List Str),v=.ref a/\H1 a=some (.lst (zs.map V.str))/\zs.length<=500/\(∀ z∈zs,X1 z)/\∀ z:Str,z.length<=100000->Q (.str z) H1
theorem aod : tFmtL K te Y H Q=te Y H fun v H1=>∃ (a:Addr) (zs:List Str),v=.ref a/\H1 a=some (.lst (zs.map V.str))/\zs.length<=500/\(∀ z∈zs,X1 z)/\∀ z:Str,z.length<=100000->Q (.str z) H1:=rfl
theorem ad2:∀ {zs:List Str},(∀ z∈zs,X1 z)->piled (PyData.shownAll (zs.map U9))<=104*zs.length
 | [],_=>C3 _
 | z::zs,h=>by
  have ih:=ad2 fun y hy=>h y (L8 _ hy)
  obtain ⟨h1,h2⟩:=h z K5;have hc:∀ c∈z.cps.toList,c<16 ^ 8:=fun c hc=>by
   unfold P8 at h2;rw [<- Array.all_toList,List.all_eq_true] at h2
   have:=h2 c hc
   simp only [decide_eq_true_eq] at this;exact y3 this 'g'
  have hl:=reprText_len z hc;rw [J3,show PyData.shownAll (U9 z::zs.map U9)=reprText z::PyData.shownAll (zs.map U9) from by simp only [PyData.shownAll,PyData.shown],piled_cons,G8];lia
theorem aei(ts:List Str):(listText ts).length<=piled ts+2:=by
 cases ts with
 | nil=>rw [listText_nil];decide
 | cons t r=>
  have h:=textFrom_length_pos r 1 (("[" : Str)++(if (0:Nat) > 0 then ", " else "" : String)++t) (Nat.succ_pos 0);have e:((("[" : Str)++(if (0:Nat) > 0 then ", " else "" : String)++t)).length=1+t.length:=by
   rw [strLen_append,strLen_append];rfl
  have hX:(listText (t::r)).length=(textFrom 0 "[" (t::r)).length+1:=by
   show (textFrom 0 "[" (t::r)++"]").length=_;rw [strLen_append];rfl
  have hY:(textFrom 0 "[" (t::r)).length=(textFrom 1 (("[" : Str)++(if (0:Nat) > 0 then ", " else "" : String)++t) r).length:=rfl;rw [hX,hY,h,e,piled_cons];lia
theorem pJ:∀ zs:List Str,PyData.showableAll (zs.map U9)=true/\PyData.hasDictAll (zs.map U9)=false
 | []=>⟨by simp only [aU,PyData.showableAll],by simp only [aU,PyData.hasDictAll]⟩
 | z::zs=>⟨by simp only [J3,PyData.showableAll,PyData.showable,(pJ zs).1,Bool.and_self],by simp only [J3,PyData.hasDictAll,PyData.hasDict,(pJ zs).2,Bool.or_self]⟩
theorem ad3:∀ zs:List Str,r0 (zs.map U9)=0
 | []=>by simp only [aU,r0]
 | z::zs=>by simp only [J3,r0,PyData.depth,ad3 zs];rfl
theorem aoe{pos:Pos}(hr:Room k X.A)(he:PE X e te):PE X (.FormattedValue e 114 none pos) (tFmtL X.K te):=by
 sleep 1;refine wpAny_FormattedValue_repr (B3 (he pins s Y H _ I h) fun u s1 ⟨v,H1,I1,rv,a,zs,ev,ha,hn,hs,q⟩=>?_);subst ev;have hl:(j7 (zs.map U9)).shown.length<=100000:=by
  simp only [PyData.shown];have h1:=aei (PyData.shownAll (zs.map U9));have h2:=ad2 hs;lia
 have hz:(j7 (zs.map U9)).shown.length<=sizeLine:=D5 hl 'g';obtain ⟨_,as,rd⟩:=Dn.reads I1 rfl (Dn.lst (K:=X.K) (.of ha) (eK fun z hz=>(hs z hz).2)) rv;obtain rfl:u=Value.ref a:=rv;have hu:=hr.units;refine pyReprObj_of_reads rd (by simp only [PyData.showable];exact (pJ zs).1) (PyData.noDict_hsm (by simp only [PyData.hasDict];exact (pJ zs).2)) hr.gd (by rw [PyData.depth,ad3];lia) (fun _ _ z=>z) (fun h' u tk hk=>?_) hz;have I2:Inv X pins Y H1 { s1 with heap:=h',toks:=tk }:=I1.kept hk;exact wpAny_formatField_str ⟨.str _,H1,I2,⟨_,rfl⟩,q _ hl⟩ ⟨.str _,H1,I2.tok _,⟨_,rfl⟩,q _ hl⟩ hz
theorem aof{pos:Pos}(hr:Room k X.A)(he:QE X e te):QE X (.FormattedValue e 114 none pos) (tFmtL X.K te):=⟨aoe hr he.out⟩
end L2
namespace L2
open PySem PySem.Spec PyProof.Rows
noncomputable def uL (P:Program) (w:World) (K:PySem.W.Frag) (mg:Str->Option Value) (base:Heap) (k:Nat) (C:Addr) (x:Str) (ps:List Str) (sp:Sp):Prop:=
 ∃ f fd,FnOk P w K mg base (U4 P w) k f fd ps sp/\Mk K C f/\mg x=some (.ref C)/\Binds K fd ps []
structure QEx(X:Cx)(e:Expr)(t:XK->TE):Prop where
 out:∀ (XE:Value->Shared->Prop) (E:XK) (pins:List (Addr×Obj)) (s:Shared) (Y:St) (H:Hp) (Q:VK),(∀ H1 s1 e' s',Inv X pins Y H1 s1->U4 X.prog X.w X.stack H1 s1 E e' s'->XE e' s')->Inv X pins Y H s->t E Y H Q->wpAny 'a' X.A (eval e X.env) (EP X pins Y Q) XE s
section
variable {X:Cx} {k:Nat} {f C:Addr} {fd:FuncData} {ps:List Str} {sp:Sp} {x m:Str} {p pos apos:Pos} {e o:Expr} {es:List Expr} {ta:XK->TE} {t:TA} {E:XK} {XE:Value->Shared->Prop}
theorem aj5(M:Mk X.K C f)(F:FnOk X.prog X.w X.K X.mg X.base (U4 X.prog X.w) k f fd ps sp)(hr:Room (k+1) X.A){ds:List Value}(hb:Binds X.K fd ps ds)(hd:Vals dvs ds)(hx:∀ H1 s1 e' s',Inv X pins Y H1 s1->U4 X.prog X.w X.stack H1 s1 E e' s'->XE e' s')(I:Inv X pins Y H s)(r:Vals vs us)(h:∀ x dx,H x=none->H dx=none->dx≠x->sp (.ref x::(vs++dvs)) (A0 (A0 H dx (.own x)) x (.ins C dx [])) (fun v H2=>v=.non/\Q (.ref x) H2) E) :
  wpAny 'a' X.A (call (.ref C) us) (EP X pins Y Q) XE s:=by
 have hq:=h 'i' s.heap.objs.size (I.hok.fresh (y4 _)) (I.hok.fresh (C3 _)) (J4 (Nat.lt_succ_self _));have I2:=Inv.made (C:=C) I;have r2:Vals (V.ref 'i'::(vs++dvs)) (Value.ref 'i'::(us++ds)):=.cons rfl (r.append hd);have hl:(Value.ref 'i'::us++ds).length=ps.length:=by
  have e:=r2.length;rw [F.len _ _ _ _ hq] at e;exact e.symm
 refine wpAny_call (akw (f:=f) I.kIn M.makes M.init (beq_iff_eq.mp M.fn) (codeAny_mono (F.run _ X.stack _ _ ⟨Value.ref 'i'::us,[]⟩ (Value.ref 'i'::(us++ds)) _ _ E (hr.make C us [])
  (I2.env0.make C us []) (hb _ (Value.ref 'i'::us) I2.kIn hl) r2 hq) fun r s' Y6=>?_))
 cases r with
 | error e=>exact hx _ _ e s' I2 Y6
 | ok fl=>
  cases fl with
  | ret u=>
   obtain ⟨v,H',I3,rv,ev,q3⟩:=I2.after Y6;subst ev;exact ⟨rv,⟨V.ref 'i',H',I3,rfl,q3⟩⟩
  | next=>exact False.elim Y6
  | brk=>exact False.elim Y6
  | cont=>exact False.elim Y6
theorem aog(G:uL X.prog X.w X.K X.mg X.base k C x ps sp)(hr:Room (k+1) X.A)(ha:∀ XE,QA (X.wish XE) (e::es) t)(hg:Gl X x:=by rfl)(h1:L6 e=false:=by rfl)(h2:Y3 es=true:=by rfl)(N2:(x==("__debug__" : Str))=false:=by decide) :
  QEx X (.Call (.Name x p) (e::es) [] pos) (fun E=>tMake C sp [] E t):=by
 obtain ⟨f,fd,F,M,hm,hb⟩:=G;refine ⟨fun XE E pins s Y H Q hx I h=>?_⟩;refine wpAny_Call_Name_kw (gP I hg hm ?_ N2);refine PySem.W.callWith_K (h₀:=X.base) I.ok.mod.kin M.kp (B3 ((ha XE).out pos pins s Y H _ (I.wish XE) h) fun us s1 z=>?_) (O7 h1) (iC h2);obtain ⟨vs,H1,I1,r,q⟩:=z;have I1:=I1.unwish;exact ⟨I1.kIn,aj5 M F hr hb .nil hx I1 r q⟩
end
noncomputable def tTryX (K:PySem.W.Frag) (te:XK->TE) (j:Nat) (DC:Addr) (i:Nat) (ts:TS):TS:=fun D Y H=>te (dE K DC i ts D Y) Y H fun v H2=>D.nx (Y.set j (some v)) H2
noncomputable def aq6 (K:PySem.W.Frag) (te:XK->TE) (DC:Addr) (i:Nat) (ts:TS):TS:=fun D Y H=>te (dE K DC i ts D Y) Y H fun _ H2=>D.nx Y H2
section
variable {K:PySem.W.Frag} {te:XK->TE} {DC C:Addr} {i j:Nat} {ts:TS} {D:Ends} {Y:St} {H:Hp} {sp:Sp} {E:XK} {t:TA} {Q:VK}
theorem aoh:tTryX K te j DC i ts D Y H=te (dE K DC i ts D Y) Y H fun v H2=>D.nx (Y.set j (some v)) H2:=rfl
theorem alX:aq6 K te DC i ts D Y H=te (dE K DC i ts D Y) Y H fun _ H2=>D.nx Y H2:=rfl
theorem alY:tMake C sp [] E t Y H Q=t Y H fun vs H1=>∀ x dx,H1 x=none->H1 dx=none->dx≠x->sp (.ref x::(vs++[])) (A0 (A0 H1 dx (.own x)) x (.ins C dx [])) (fun v H2=>v=.non/\Q (.ref x) H2) E:=rfl
end
noncomputable abbrev TC:=Ends->St->Addr->Addr->Hp->Prop
structure QHs(X:Cx)(hs:List ExceptHandler)(tc:TC):Prop where
 out:∀ (pins:List (Addr×Obj)) (s:Shared) (Y:St) (H:Hp) (D:Ends) (x C dx T:Addr),Inv X pins Y (A0 H x (xc x C dx)) s->H x=none->((T∈X.ex\/X.s₀.heap.objs.size<=T)/\T≠X.env.locals/\(∀ y c,X.env.cells.lookup y=some c->c≠T)/\∀ p∈X.pn++pins,p.1≠T)->A0 H x (xc x C dx) T=none->Flies s.heap x C dx T->tc D Y C dx H->
  wpAny 'a' X.A (handleBy (.ref x) X.env hs) (SP X pins D) X.xe s
noncomputable def tcNil:TC:=fun _ _ _ _ _=>False
noncomputable def tcAs (K:PySem.W.Frag) (DC:Addr) (i:Nat) (ts:TS) (r:TC):TC:=fun D Y C dx H=>∃ b,R6 K C (.ref DC)=some b/\if b=true then ∀ x,H x=none->ts { nx:=fun σ' H''=>D.nx (σ'.set i none) H'',rt:=fun _ _=>False } (Y.set i (some (.ref x))) (A0 H x (xc x C dx)) else r D Y C dx H
noncomputable def z9 (tc:TC) (D:Ends) (Y:St):XK:=fun cls dx H=>∃ C d,cls=.ref C/\dx=some d/\tc D Y C d H
section
variable {X:Cx} {K:PySem.W.Frag} {DC:Addr} {Dn n:Str} {dp hp:Pos} {i:Nat} {yo:Stmt} {suite:List Stmt} {ts:TS} {hs:List ExceptHandler} {r:TC}
theorem aq7:QHs X [] tcNil:=⟨fun _ _ _ _ _ _ _ _ _ _ _ _ _ _ z=>z.elim⟩
theorem qh_as(hmD:X.mg Dn=some (.ref DC))(CC:CatchC X.K DC)(hN:X.N.Nodup)(hi:X.N[i]?=some n)(hk:X.env.kindOf n=some .local)(h:∀ x xe,QSs (X.inExc x xe) (yo::suite) ts)(hr:QHs X hs r)(hK:X.K=K:=by rfl)(hg:Gl X Dn:=by rfl)(N2:(Dn==("__debug__" : Str))=false:=by decide):QHs X (.ExceptHandler (some (.Name Dn dp)) (some n) (yo::suite) hp::hs) (tcAs K DC i ts r):=by
 subst hK;obtain ⟨cd,T3⟩:=CC.cl;refine ⟨fun pins s Y H D x C dx T I hx bT hT fl z=>?_⟩;obtain ⟨b,wZ,z⟩:=z;refine wpAny_handleBy_cons (codeAny_handlers_test ?_) (by intro q;cases q);have I3:=I.inExc x X.xe;refine gP I3 hg hmD ?_ N2;obtain ⟨vs,oT,tsl,he2,r2⟩:=id fl;refine ajV (s:=s) I.kIn he2 rfl T3 CC.ty CC.bx wZ ?_
 cases b with
 | false=>exact hr.out pins s Y H D x C dx T I hx bT hT fl z
 | true=>
  refine codeAny_handlers_suite_as (alQ (s:=s) fl fun h3 fl3 k3=>?_);have I4:=I.other bT hT k3;refine gO I4 hN hi (.inl hk) (v:=.ref x) rfl (fun s5 I5=>?_) (.inr hk);refine wpAny_mono ((h x _).out pins s5 _ _ _ (I5.inExc x _) (z x hx)) (fun f s6 q=>?_) fun _ _ z=>z
  cases f with
  | next=>
   obtain ⟨σ6,H6,I6,q6⟩:=q;exact aj1 (I6.outExc I.ok.hd) hN hi hk fun s7 I7=>⟨_,H6,I7,q6⟩
  | ret u=>obtain ⟨_,_,_,_,_,z⟩:=q;exact z.elim
  | brk=>obtain ⟨_,_,_,z⟩:=q;exact z.elim
  | cont=>obtain ⟨_,_,_,z⟩:=q;exact z.elim
end
noncomputable def XHn (X:Cx) (pins:List (Addr×Obj)) (D:Ends) (hs:List ExceptHandler):Value->Shared->Prop:=fun e s'=>wpAny 'a' X.A (noteFrame e X.env) (fun _ zw=>wpAny 'a' X.A (setFlight e none) (fun _ zu=>wpAny 'a' X.A (handleBy e X.env hs) (SP X pins D) X.xe zu) X.xe zw) X.xe s'
theorem aq8{e:Value}{hs:List ExceptHandler}{tc:TC}(hh:QHs X hs tc)(w5:X.stack=X.env::X.outer)(xA:X.env.frame=some X.env.locals)(I:Inv X pins Y H s)(c:U4 X.prog X.w X.stack H s (z9 tc D Y) e s'):XHn X pins D hs e s':=by
 obtain ⟨x,C,dx,T,H',ee,os',bare',un,hok,nx,nT,hx,hT,fl,hE'⟩:=c;subst ee;obtain ⟨C',d',e1,e2,h1⟩:=hE';cases e1;cases e2;have I1:=I.call' (ch:=[]) os' un hok bare' (fun b z=>absurd z 'c');have bx:=I.beyond (s':=s) nx;have bT:=I.beyond (s':=s) nT;have Q1:X.A.frames=some (X.env::X.outer):=by rw [<- w5];exact I.ok.frames
 have T6:s'.heap.FunFrames X.base (X.env::X.outer):=by rw [<- w5];exact I1.stack
 refine af7 (s:=s') Q1 T6 xA fl fun h2 T2 nT2 mJ k1 k2=>?_
 rw [<- w5] at k1;have I2:=I1.held bx bT hx hT mJ k1 k2;have bT2:=I1.beyond (s':=s) nT2;have hT2:A0 H' x (xc x C dx) T2=none:=by
  obtain ⟨_,_,_,_,_,hTx,_⟩:=mJ;rw [A4 hTx];exact I1.hok.fresh nT2
 exact hh.out pins { s' with heap:=h2 } Y H' D x C dx T2 I2 hx bT2 hT2 mJ h1
structure QTN(X:Cx)(hs:List ExceptHandler)(bs:List Stmt)(t:TS):Prop where
 out:∀ (pins:List (Addr×Obj)) (s:Shared) (Y:St) (H:Hp) (D:Ends),Inv X pins Y H s->t D Y H->wpAny 'a' X.A (execs bs X.env) (SP X pins D) (XHn X pins D hs) s
noncomputable def tTnE (sp:Sp) (dvs:List V) (t:TA) (tc:TC):TS:=fun D Y H=>t Y H fun vs H1=>sp (vs++dvs) H1 (fun _ H2=>D.nx Y H2) (z9 tc D Y)
noncomputable def tTnA (sp:Sp) (dvs:List V) (t:TA) (j:Nat) (tc:TC):TS:=fun D Y H=>t Y H fun vs H1=>sp (vs++dvs) H1 (fun v H2=>D.nx (Y.set j (some v)) H2) (z9 tc D Y)
noncomputable def tTnX (te:XK->TE) (j:Nat) (tc:TC):TS:=fun D Y H=>te (z9 tc D Y) Y H fun v H2=>D.nx (Y.set j (some v)) H2
noncomputable def tTnXE (te:XK->TE) (tc:TC):TS:=fun D Y H=>te (z9 tc D Y) Y H fun _ H2=>D.nx Y H2
section
variable {X:Cx} {h0:ExceptHandler} {hs:List ExceptHandler} {bs sa sb:List Stmt} {t u:TS} {pos:Pos} {c:Expr} {tA:TT}
theorem aoi(h:QTN X (h0::hs) bs t):QS X (.Try bs (h0::hs) [] [] pos) t:=
 ⟨fun pins s Y H D I z=>wpAny_Try_except (wpAny_mono (h.out pins s Y H D I z) (fun f s1 z=>by cases f <;> first | exact wpAny_execs_nil z | exact z) fun _ _ z=>z)⟩
end
section
variable {X:Cx} {k:Nat} {ps:List Str} {sp:Sp} {x y:Str} {gp cp ep yp:Pos} {e:Expr} {es:List Expr} {t:TA} {j:Nat} {dvs:List V} {hs:List ExceptHandler} {tc:TC} {te:XK->TE}
theorem alZ(hh:QHs X hs tc)(he:QEx X e te)(hN:X.N.Nodup)(hj:X.N[j]?=some y)(hy:Y1 X.env.scope y)(w5:X.stack=X.env::X.outer:=by rfl)(xA:X.env.frame=some X.env.locals:=by rfl)(lS:swapsWith e (some (.Name y yp)) ep.line X.env=pure false:=by rfl)(hf:X.fn y=true\/X.env.scope.names.lookup y=some .local:=by first | exact .inl rfl | exact .inr rfl | assumption) :
  QTN X hs [.Assign [.Name y yp] e ep] (tTnX te j tc):=by
 refine ⟨fun pins s Y H D I h=>?_⟩;refine wpAny_execs_cons (wpAny_Assign_Name (wpAny_mono (he.out _ (z9 tc D Y) pins s Y H _ (fun H1 s1 e' s' I1 c=>aq8 hh w5 xA I1 c) I h) (fun u s1 z=>?_) fun _ _ z=>z) lS);obtain ⟨v,H1,I1,rv,q⟩:=z;exact gO I1 hN hj hy rv (fun s2 I2=>wpAny_execs_nil ⟨_,H1,I2,q⟩) hf
end
section
variable {K:PySem.W.Frag} {te:XK->TE} {DC C dx:Addr} {i j:Nat} {ts:TS} {D:Ends} {Y:St} {H:Hp} {sp:Sp} {t:TA} {tc r:TC} {dvs:List V}
theorem aq9:tTnE sp dvs t tc D Y H=t Y H fun vs H1=>sp (vs++dvs) H1 (fun _ H2=>D.nx Y H2) (z9 tc D Y):=rfl
theorem ara:tTnA sp dvs t j tc D Y H=t Y H fun vs H1=>sp (vs++dvs) H1 (fun v H2=>D.nx (Y.set j (some v)) H2) (z9 tc D Y):=rfl
theorem arb:tTnX te j tc D Y H=te (z9 tc D Y) Y H fun v H2=>D.nx (Y.set j (some v)) H2:=rfl
theorem aoj:tTnXE te tc D Y H=te (z9 tc D Y) Y H fun _ H2=>D.nx Y H2:=rfl
end
end L2
open L2 in
local macro_rules | `(tactic| walk_at "rd")=>`(tactic| simp only [↓amj,↓ap_c,↓ana,↓aqn,↓akQ,↓anb,↓anc,↓aqo,↓ane,↓aqp,↓aqq,↓anf,↓ap_op,↓am5,↓ap_tB,↓aql,↓aqk,↓ap_or,↓am8,↓aqm,↓am9,↓am7,↓ap_if,↓akP,↓ap_cb,↓anj,↓aqt,↓ank,↓aqu,↓aqv,↓ap_sl,↓ai1,↓anl,↓aqy,↓anv,↓akU,↓ant,↓anu,↓akV,↓akW,↓ap_bm,↓aqw,↓aqr,↓anh,↓ang,↓akS,↓ani,↓ap_un,↓ap_rU,↓aqs,↓aqx,↓anm,↓ann,↓ano,↓anp,↓akR,↓anq,↓akT,↓anr,↓am6,ans,anw,akX,akY,akZ,↓ad_ii,↓ad_ss,↓ad_rr,↓mu_ii,↓mu_ri,↓eq_ii,↓eq_ss,↓eq_bb,↓eq_rx,↓eq_xr,↓ne_ii,↓ne_ss,↓ne_bb,↓ne_rx,↓ne_xr,↓L2.lt_ii,↓L2.lt_ss,↓le_ii,↓le_ss,↓gt_ii,↓gt_ss,↓ge_ii,↓ge_ss,↓in_xs,↓in_xr,↓sl_s,↓sl_r,↓len_s,↓len_r,↓aqA,↓all_r,↓isi_t,↓ord_s,↓aqI,↓ak4,amn,↓ak5,↓tup_r,↓anF,↓aqJ,↓aqK,↓anG,↓anH,↓ak6,↓ak7,↓anx,↓anz,↓alK,↓alL,↓alM,↓alN,↓aq1,↓anW,↓aq5,↓alV,↓an5,↓an6,↓aob,↓aod,↓aln,↓aqY,↓aj3,↓alW,↓an7,↓an8,↓an9,↓aoa,↓aq9,↓ara,↓arb,↓aoj,↓aoh,↓alX,↓alY,↓aqX,↓anQ,↓ajr,↓int_b,↓any_r,↓alg,↓anN,↓anO,↓aqP,↓anP,↓alh,↓anJ,↓alc,↓anL,↓alb,ak0,afF,cxK,cxKn,cxKb,cxC,cxCn,cxCb,J3,aU,G8,T8,Nat.sub_self,Nat.reduceAdd,Nat.reduceSub,Nat.zero_add,Nat.add_one_sub_one,List.replicate_zero,gD,K7,q5,List.cons_append,List.getElem?_cons_zero,List.getElem?_cons_succ,List.set_cons_zero,List.set_cons_succ,Option.some.injEq,Option.join_some,Option.join_none,exists_eq_left',exists_eq_left,exists_eq',exists_eq,reduceCtorEq,false_and,and_false,exists_false,exists_const,false_or,or_false,true_and,and_true,V.str.injEq,V.int.injEq,V.bl.injEq,V.ref.injEq,V.ty.injEq,List.cons.injEq,exists_and_left,exists_and_right,and_assoc,if_true,if_false,Bool.false_eq_true,Bool.not_true,Bool.not_false,ite_true,ite_false,Int.reduceLT,Int.reduceLE,J0])
namespace K25
open PySem PySem.Spec PyProof.Rows L2
set_option maxHeartbeats 4000000
noncomputable def top (i:Nat):Stmt:=PySem.Challenge.pw_sortlore_k25_rounds_of_orders.main.body.getD i (.Pass ⟨0,0,0,0⟩)
noncomputable abbrev iM:Stmt:=hG (top 5) 0
noncomputable abbrev iN:Stmt:=hG (top 6) 0
noncomputable abbrev iO:Stmt:=hG (top 3) 0
noncomputable abbrev uM:Stmt:=top 14
noncomputable abbrev uN:Stmt:=top 15
noncomputable abbrev uO:Stmt:=top 18
noncomputable abbrev uP:Stmt:=top 16
noncomputable abbrev uQ:Stmt:=top 17
noncomputable abbrev uR:Stmt:=top 19
noncomputable abbrev uS:Stmt:=top 20
noncomputable abbrev bH:Stmt:=top 21
noncomputable abbrev uT:Stmt:=top 23
noncomputable abbrev pK:Stmt:=top 29
noncomputable abbrev uU:Stmt:=top 30
noncomputable abbrev pL:Stmt:=top 31
noncomputable abbrev iP:Stmt:=top 32
noncomputable abbrev eY:Stmt:=top 33
noncomputable abbrev iQ:Stmt:=top 34
noncomputable abbrev eZ:Stmt:=top 35
noncomputable abbrev uV:Stmt:=top 36
noncomputable abbrev pM:Stmt:=top 37
noncomputable abbrev iR:Stmt:=hG (top 38) 0
noncomputable abbrev iS:Stmt:=hG (top 38) 1
noncomputable abbrev iT:Stmt:=hG (top 38) 2
noncomputable abbrev uW:Stmt:=top 40
noncomputable abbrev uX:Stmt:=top 41
noncomputable abbrev uY:Stmt:=top 43
noncomputable abbrev pN:Stmt:=top 45
noncomputable abbrev uZ:Stmt:=top 47
noncomputable abbrev iU:Stmt:=top 46
noncomputable abbrev vA:Stmt:=top 48
noncomputable abbrev vB:Stmt:=top 49
noncomputable abbrev vC:Stmt:=top 42
noncomputable abbrev lF:Stmt:=top 50
noncomputable abbrev lG:Stmt:=top 44
noncomputable abbrev s_law:Stmt:=top 51
noncomputable def visB (S:Scope) (x:Str):Bool:=decide (S.names.lookup x=some .local) || decide (S.names.lookup x=some .cell) || decide (S.names.lookup x=some .free)
theorem qvd{pos:Pos}{S:Scope}(hN:X.N=N)(hs:X.env.scope=S)(h:(decide (N[n]?=some x)&&visB S x && !(x==("__debug__" : Str)) && !(x==("__classdict__" : Str)))=true):QE X (.Name x pos) (tVar n):=by
 subst hN hs;simp only [visB,W4,Bool.or_eq_true,decide_eq_true_eq,cN] at h;exact qe_v h.1.1.1 (h.1.1.2.elim (fun z=>z.elim .inl fun z=>.inr (.inl z)) fun z=>.inr (.inr z)) h.1.2 h.2
structure NLS(N:List Str)(S:Scope):Prop where
 nd:N.Nodup
 ok:∀ (n:Nat) (x:Str),N[n]?=some x->Y1 S x/\(visB S x && !(x==("__debug__" : Str)) && !(x==("__classdict__" : Str)))=true
theorem K9{Q:List Str}{S:Scope}(sc:FnScope N Q S)(h:∀ x∈N,Y1 S x/\(visB S x && !(x==("__debug__" : Str)) && !(x==("__classdict__" : Str)))=true:=by unfold L2.Y1;decide +kernel):NLS N S:=⟨sc.nd,fun n x e=>h x (L7 e)⟩
theorem qz{pos:Pos}(n:Nat){S:Scope}(hZ:NLS N S:=by assumption)(h1:X.N=N:=by rfl)(h2:X.env.scope=S:=by rfl)(hi:X.N[n]?=some x:=by rfl):QE X (.Name x pos) (tVar n):=qvd h1 h2 (by have:=(hZ.ok n x (h1 ▸ hi)).2;rw [<- h1,hi];simpa using this)
theorem E1{pos:Pos}(n:Nat)(he:QE X e te){S:Scope}(hZ:NLS N S:=by assumption)(h1:X.N=N:=by rfl)(h2:X.env.scope=S:=by rfl)(hi:X.N[n]?=some x:=by rfl)(hs:swapsWith e (some (.Name x pos')) pos.line X.env=pure false:=by rfl)(hf:X.fn x=true:=by rfl):QS X (.Assign [.Name x pos'] e pos) (tAsg te (gName n)):=aqC (n:=n) (h1 ▸ hZ.nd) hi (h2 ▸ (hZ.ok n x (h1 ▸ hi)).1) he hs hf
theorem K0{pos:Pos}(n:Nat){S:Scope}(hZ:NLS N S:=by assumption)(h1:X.N=N:=by rfl)(h2:X.env.scope=S:=by rfl)(hi:X.N[n]?=some x:=by rfl)(hf:X.fn x=true:=by rfl):QG X (.Name x pos) (gName n):=W7 (n:=n) (h1 ▸ hZ.nd) hi (h2 ▸ (hZ.ok n x (h1 ▸ hi)).1) (.inl hf)
theorem qaz{pos:Pos}{op:Operator}{tip:cR}(n:Nat)(he:QE X e te)(ho:QIp X op tip){S:Scope}(hZ:NLS N S:=by assumption)(h1:X.N=N:=by rfl)(h2:X.env.scope=S:=by rfl)(hi:X.N[n]?=some x:=by rfl)(hf:X.fn x=true:=by rfl):QS X (.AugAssign (.Name x pos') op e pos) (tAug n te tip):=aqE (n:=n) (h1 ▸ hZ.nd) hi (h2 ▸ (hZ.ok n x (h1 ▸ hi)).1) he ho hf
theorem len1{α:Type}{F:List α->Prop}(h:∀ a,F [a]):∀ us:List α,us.length=1->F us
 | [a],_=>h a
theorem len2{α:Type}{F:List α->Prop}(h:∀ a b,F [a,b]):∀ us:List α,us.length=2->F us
 | [a,b],_=>h a b
theorem len3{α:Type}{F:List α->Prop}(h:∀ a b c,F [a,b,c]):∀ us:List α,us.length=3->F us
 | [a,b,c],_=>h a b c
theorem len4{α:Type}{F:List α->Prop}(h:∀ a b c d,F [a,b,c,d]):∀ us:List α,us.length=4->F us
 | [a,b,c,d],_=>h a b c d
theorem len5{α:Type}{F:List α->Prop}(h:∀ a b c d e,F [a,b,c,d,e]):∀ us:List α,us.length=5->F us
 | [a,b,c,d,e],_=>h a b c d e
theorem L4{Q:List Str}{sc:Scope}(h1:sc.kind=.function:=by rfl)(h2:sc.isCoroutine=false:=by rfl)(h3:sc.isGenerator=false:=by rfl)(h4:N.Nodup:=by decide +kernel)(h5:N.take Q.length=Q:=by rfl)(h6:∀ x∈Q,sc.names.lookup x=some .local\/sc.names.lookup x=some .cell:=by decide +kernel)(h7:∀ y∈sc.names,y.2≠.free:=by decide +kernel):FnScope N Q sc:=⟨h1,h2,h3,h4,h5,h6,h7⟩
theorem Z5{kn:List (Str×NameKind)}{sc:Scope}(h1:sc.kind=.function:=by rfl)(h2:∀ x∈sc.names,x.2≠.cell:=by decide +kernel)(h3:∀ x∈sc.names,x.2=.local->sc.names.lookup x.1=some .local:=by decide +kernel)(h4:∀ x∈sc.names,x.2=.free->kn.lookup x.1=some .cell\/kn.lookup x.1=some .free:=by decide +kernel)(h5:∀ x∈sc.names,x.2=.free->sc.names.lookup x.1=some .free:=by decide +kernel)(h6:N'.length=k+ixs.length:=by rfl)(h7:ixs.map (fun i=>N[i]?)=(N'.drop k).map some:=by decide +kernel)(h8:∀ x∈N'.drop k,(x,NameKind.free)∈sc.names:=by decide +kernel):CompOk N kn sc N' k ixs:=⟨h1,h2,h3,h4,h5,h6,h7,h8⟩
theorem hm(r:Room k A)(h:j<=k:=by decide):Room j A:=r.mono h
structure DF(K:PySem.W.Frag)(n:Str)(s:Stmt):Prop where
 ex:∃ (f:Addr) (oc:Value) (od:Option Addr) (kV dc pm:Value) (an:Option Addr) (cd ct:Value) (sl:Array (Option Value)),E5 K mainGlobals n=some (some (.ref f))/\K.lookup f=some ⟨oc,od,.func (P7 n n (R7 s) (P9 s) (C8 s) .none kV dc pm an cd ct),sl⟩/\U8 K cd n=true/\O8 K (.ref f)=true
theorem df_mk{n:Str}{s:Stmt}{kV dc:Value}{sl:Array (Option Value)}(a:E5 K mainGlobals n=some (some (.ref f)))(l:K.lookup f=some ⟨oc,od,.func (P7 n n (R7 s) (P9 s) (C8 s) .none kV dc pm an cd ct),sl⟩)(c:U8 K cd n=true)(k:O8 K (.ref f)=true):DF K n s:=⟨f,oc,od,kV,dc,pm,an,cd,ct,sl,a,l,c,k⟩
theorem DF.go{P:Program}{w:World}{base:Heap}{n:Str}{s:Stmt}(d:DF K n s)(X:K.In h)(G:h.Ns mainGlobals mg)(_:K.In base)(ok:∀ {f fd},FunD K n n s f fd->FnOk P w K mg base G9 k f fd ps sp)(hl:∀ (kV dc pm:Value) (an:Option Addr) (cd ct:Value) (us:List Value),us.length=ps.length->bindArgs (P7 n n (R7 s) (P9 s) (C8 s) .none kV dc pm an cd ct) ⟨us,[]⟩=pure (ps.zip us):=by first | exact fun _ _ _ _ _ _=>len1 fun _=>rfl | exact fun _ _ _ _ _ _=>len2 fun _ _=>rfl | exact fun _ _ _ _ _ _=>len3 fun _ _ _=>rfl | exact fun _ _ _ _ _ _=>len4 fun _ _ _ _=>rfl | exact fun _ _ _ _ _ _=>len5 fun _ _ _ _ _=>rfl):FO P w K mg base k n ps [] sp:=by
 obtain ⟨f,oc,od,kV,dc,pm,an,cd,ct,sl,a,l,c,kp⟩:=d.ex;exact ⟨_,_,ok (l7 (st:=s) l c),N9 X G a,kp,[],.all (hl kV dc pm an cd ct),.nil⟩
structure Txt(P:Program)(w:World)(K:PySem.W.Frag)(mg:Str->Option Value)(C:Addr)(C_Clash:Addr)(C_NoLetter:Addr)(C_Round:Addr):Prop where
 cl:Cls K C
 na_figures:NoAttr K C "figures"
 na_behind:NoAttr K C "behind"
 na_jobs:NoAttr K C "jobs"
 na_letter_line:NoAttr K C "letter_line"
 na_mark_line:NoAttr K C "mark_line"
 na_made:NoAttr K C "made"
 lore:∃ L,mg "LoreError"=some (.ref L)/\LoreC K L
 na_Clash:NoAttr K C_Clash "piece"
 er_Clash:∃ f,ErrC K C_Clash f
 na_NoLetter:NoAttr K C_NoLetter "piece"
 er_NoLetter:∃ f,ErrC K C_NoLetter f
 na_Round:NoAttr K C_Round "pieces"
 er_Round:∃ f,ErrC K C_Round f
 cn:eE K (.builtin "object.__class__") "__get__"=some (some (.builtin "getset_descriptor.__get__"))
 ct:kC K (.builtin "object.__class__")=some true
 c_LoreError:∃ a,mg "LoreError"=some 'f'/\CatchC K a/\R6 K C_Clash 'f'=some true/\R6 K C_NoLetter 'f'=some true/\R6 K C_Round 'f'=some true
 x_NoDeed:∃ a,mg "NoDeed"=some 'f'/\C5 K (.ref C_Clash) 'f'=some false/\C5 K (.ref C_NoLetter) 'f'=some false/\C5 K (.ref C_Round) 'f'=some false
 x_NoSign:∃ a,mg "NoSign"=some 'f'/\C5 K (.ref C_Clash) 'f'=some false/\C5 K (.ref C_NoLetter) 'f'=some false/\C5 K (.ref C_Round) 'f'=some false
 x_NoName:∃ a,mg "NoName"=some 'f'/\C5 K (.ref C_Clash) 'f'=some false/\C5 K (.ref C_NoLetter) 'f'=some false/\C5 K (.ref C_Round) 'f'=some false
 x_NoRule:∃ a,mg "NoRule"=some 'f'/\C5 K (.ref C_Clash) 'f'=some false/\C5 K (.ref C_NoLetter) 'f'=some false/\C5 K (.ref C_Round) 'f'=some false
 x_NotPlain:∃ a,mg "NotPlain"=some 'f'/\C5 K (.ref C_Clash) 'f'=some false/\C5 K (.ref C_NoLetter) 'f'=some false/\C5 K (.ref C_Round) 'f'=some false
 x_NoText:∃ a,mg "NoText"=some 'f'/\C5 K (.ref C_Clash) 'f'=some false/\C5 K (.ref C_NoLetter) 'f'=some false/\C5 K (.ref C_Round) 'f'=some false
 x_Ring:∃ a,mg "Ring"=some 'f'/\C5 K (.ref C_Clash) 'f'=some false/\C5 K (.ref C_NoLetter) 'f'=some false/\C5 K (.ref C_Round) 'f'=some false
 x_Twice:∃ a,mg "Twice"=some 'f'/\C5 K (.ref C_Clash) 'f'=some false/\C5 K (.ref C_NoLetter) 'f'=some false/\C5 K (.ref C_Round) 'f'=some false
 x_Clash:∃ a,mg "Clash"=some 'f'/\C5 K (.ref C_Clash) 'f'=some true/\C5 K (.ref C_NoLetter) 'f'=some false/\C5 K (.ref C_Round) 'f'=some false
 x_NoLetter:∃ a,mg "NoLetter"=some 'f'/\C5 K (.ref C_Clash) 'f'=some false/\C5 K (.ref C_NoLetter) 'f'=some true/\C5 K (.ref C_Round) 'f'=some false
 x_Round:∃ a,mg "Round"=some 'f'/\C5 K (.ref C_Clash) 'f'=some false/\C5 K (.ref C_NoLetter) 'f'=some false/\C5 K (.ref C_Round) 'f'=some true
 y_ValueError:C5 K (.ref C_Clash) (.type "ValueError")=some true
 y_ValueError_NoLetter:C5 K (.ref C_NoLetter) (.type "ValueError")=some true
 y_ValueError_Round:C5 K (.ref C_Round) (.type "ValueError")=some true
 b_ValueError:mg "ValueError"=none
 b_any:mg "any"=none
 b_dict:mg "dict"=none
 b_enumerate:mg "enumerate"=none
 b_isinstance:mg "isinstance"=none
 b_len:mg "len"=none
 b_list:mg "list"=none
 b_min:mg "min"=none
 b_range:mg "range"=none
 b_set:mg "set"=none
 b_sorted:mg "sorted"=none
 b_tuple:mg "tuple"=none
 b_zip:mg "zip"=none
 g_MARK:∃ t,mg "MARK"=some (.int 0 t)
 g_LETTER:∃ t,mg "LETTER"=some (.int 2 t)
 x_JOBS:∃ a,mg "JOBS"=some 'f'/\ModD P w K a [((Sum.inr ("row" : Str):A7),V.str "letter"),((Sum.inr ("marks" : Str):A7),V.str "mark"),((Sum.inr ("great" : Str):A7),V.str "great"),((Sum.inr ("as" : Str):A7),V.str "as"),((Sum.inr ("over" : Str):A7),V.str "over")]
 x_AGAIN:∃ a,mg "AGAIN"=some 'f'/\∀ H:Hp,D1 K H a [V.str "letter",V.str "mark",V.str "over"]
theorem agL{R:List Str}(nd:R.Nodup)(hx:x∈R)(q:Str):cntIn E R q=cntIn E (R.erase x) q+(C4 E x).count q:=by
 rw [sV];unfold cntIn
 induction E with
 | nil=>rfl
 | cons e E ih=>
  rw [p9,p9,p9,ih];have hm:∀ y,(y∈R.erase x↔y≠x/\y∈R):=fun y=>nd.mem_erase_iff
  by_cases h2:e.2=q
  .by_cases h1:e.1=x
   .have:e.1∉R.erase x:=fun h=>((hm _).mp h).1 h1
    have h3:e.1∈R:=by rw [h1];exact hx
    simp [h2,h3,this,h1,hx]
    have:x∉R.erase x:=fun h=>((hm _).mp h).1 rfl
    simp [this];lia
   .by_cases h3:e.1∈R
    .have:e.1∈R.erase x:=(hm _).mpr ⟨h1,h3⟩
     simp [h2,h1,h3,this];lia
    .have:e.1∉R.erase x:=fun h=>h3 ((hm _).mp h).2
     simp [h2,h1,h3,this]
  .simp [h2]
structure IsRound(E:List 'h')(l:List Str):Prop where
 ne:l≠[]
 nd:l.Nodup
 go:∀ (i:Nat) (a b:Str),l[i]?=some a->l[i+1]?=some b->(a,b)∈E
 back:∀ a b:Str,l.getLast?=some a->l.head?=some b->(a,b)∈E
theorem IsRound.pred{l:List Str}(r:IsRound E l)(hx:x∈l):∃ y∈l,(y,x)∈E:=by
 obtain ⟨i,hi⟩:=jX.mp hx
 cases i with
 | zero=>
  refine ⟨l.getLast r.ne,List.getLast_mem r.ne,r.back _ _ (qX r.ne) ?_⟩;rw [gC];exact hi
 | succ i=>
  have hl:=(F8.mp hi).1;have h1:l[i]?=some l[i]:=E9 'b';exact ⟨l[i],gH _,r.go i _ _ h1 hi⟩
noncomputable def iter (g:Str->Str) (x:Str):Nat->Str
 | 0=>x
 | n+1=>g (iter g x n)
theorem aj7{g:Str->Str}(h:∀ x∈U,g x∈U)(hx:x∈U):∀ n,iter g x n∈U
 | 0=>hx
 | n+1=>h _ (aj7 h hx n)
theorem agM:∀ {l:List Str} {U:List Str},(∀ x∈l,x∈U)->U.length<l.length->¬ l.Nodup:=by
 intro l
 induction l with
 | nil=>intro U _ h;simp at h
 | cons x l ih=>
  intro U h hl nd;obtain ⟨n1,n2⟩:=Y0.mp nd;have hx:=h x K5;refine ih (U:=U.erase x) (fun y hy=>(nN (fun e=>n1 (by rw [<- e];exact hy))).mpr (h y (L8 _ hy))) ?_ n2;rw [dY hx];rw [G8] at hl
  have:=jW hx
  lia
theorem al0(G7:U≠[])(hp:∀ x∈U,∃ y∈U,(y,x)∈E):∃ l,IsRound E l/\∀ x∈l,x∈U:=by
 have hg:∃ g:Str->Str,∀ x∈U,g x∈U/\(g x,x)∈E:=by
  refine ⟨fun x=>if h:x∈U then Classical.choose (hp x h) else x,fun x h=>?_⟩
  have:=Classical.choose_spec (hp x h)
  simp only [h,dif_pos];exact this
 obtain ⟨g,hg⟩:=hg;obtain ⟨x0,bX⟩:=nH U G7;have L5:=aj7 (fun x hx=>(hg x hx).1) bX;have bR:∃ j,∃ i,i<j/\iter g x0 i=iter g x0 j:=by
  refine Classical.byContradiction fun hn=>?_
  refine agM (l:=(U0 (U.length+1)).map (iter g x0)) (U:=U) (fun x hx=>?_) 'c' ?_
  .obtain ⟨n,_,rfl⟩:=D0.mp hx;exact L5 n
  .rw [W3,gE];refine List.Pairwise.imp_of_mem (fun {a b} ha hb aH e=>?_) (W3.mp List.nodup_range)
   rcases Nat.lt_or_gt_of_ne aH with h | h
   .exact hn ⟨b,a,h,e⟩
   .exact hn ⟨a,b,h,e.symm⟩
 have v7:∃ j,(∃ i,i<j/\iter g x0 i=iter g x0 j)/\∀ j'<j,¬ ∃ i,i<j'/\iter g x0 i=iter g x0 j':=by
  obtain ⟨j,hj⟩:=bR;have key:∀ n j,j<=n->(∃ i,i<j/\iter g x0 i=iter g x0 j)->∃ j,(∃ i,i<j/\iter g x0 i=iter g x0 j)/\∀ j'<j,¬ ∃ i,i<j'/\iter g x0 i=iter g x0 j':=by
   intro n
   induction n with
   | zero=>intro j hj ⟨i,hi,_⟩;lia
   | succ n ih=>
    intro j hjn hj
    by_cases h:∃ j'<j,∃ i,i<j'/\iter g x0 i=iter g x0 j'
    .obtain ⟨j',h1,h2⟩:=h;exact ih j' 'b' h2
    .exact ⟨j,hj,fun j' h1 h2=>h ⟨j',h1,h2⟩⟩
  exact key j j (C3 _) hj
 obtain ⟨j,⟨i,fS,xB⟩,hfirst⟩:=v7;have N0:∀ k,k<j-i->((U0 (j-i)).map fun k=>iter g x0 (j-1-k))[k]?=some (iter g x0 (j-1-k)):=fun k hk=>by
  rw [P1,List.getElem?_range hk];rfl
 refine ⟨(U0 (j-i)).map fun k=>iter g x0 (j-1-k),⟨?_,?_,?_,?_⟩,fun x hx=>?_⟩
 .intro e
  have:=congrArg List.length e
  simp at this;lia
 .rw [W3,gE];refine List.Pairwise.imp_of_mem (fun {a b} ha hb aH e=>?_) (W3.mp List.nodup_range);rw [aS] at ha hb
  rcases Nat.lt_or_gt_of_ne aH with h | h
  .exact hfirst (j-1-a) 'b' ⟨j-1-b,by lia,e.symm⟩
  .exact hfirst (j-1-b) 'b' ⟨j-1-a,by lia,e⟩
 .intro k a b ha hb;have hk:k+1<j-i:=by
   have:=(F8.mp hb).1
   simpa using this
  rw [N0 k 'b'] at ha;rw [N0 (k+1) hk] at hb;cases ha;cases hb;have e:j-1-k=(j-1-(k+1))+1:=by lia
  rw [e];exact (hg _ (L5 _)).2
 .intro a b ha hb;have hl:((U0 (j-i)).map fun k=>iter g x0 (j-1-k)).length=j-i:=by simp
  rw [List.getLast?_eq_getElem?,hl,N0 _ 'b'] at ha;rw [gC,N0 0 'b'] at hb;cases ha;cases hb;have e1:j-1-(j-i-1)=i:=by lia
  have e2:j-1-0=j-1:=by lia
  rw [e1,e2,xB,show j=(j-1)+1 by lia];exact (hg _ (L5 _)).2
 .obtain ⟨k,_,rfl⟩:=D0.mp hx;exact L5 _
noncomputable def Wk (E:List 'h') (R:List Str) (s:Str):Nat->Str->Prop
 | 0,x=>x=s
 | k+1,y=>y∈R/\∃ x,Wk E R s k x/\(x,y)∈E
theorem IsRound.wk{R C:List Str}(r:IsRound E C)(hR:∀ x∈C,x∈R)(hz:z∈C):∃ x,Wk E R z (C.length-1) x/\(x,z)∈E:=by
 obtain ⟨i0,qG⟩:=jX.mp hz;have iZ:=(F8.mp qG).1;have mem:∀ {i:Nat} {x:Str},C[i]?=some x->x∈R:=fun h=>hR _ (L7 h)
 have up:∀ (n:Nat) (x:Str),C[i0+n]?=some x->Wk E R z n x:=by
  intro n
  induction n with
  | zero=>
   intro x h;rw [Nat.add_zero,qG] at h;exact (Option.some.inj h).symm
  | succ n ih=>
   intro x h;have hl:=(F8.mp h).1;have h1:C[i0+n]?=some (C[i0+n]'(by lia)):=E9 'b';exact ⟨mem h,_,ih _ h1,r.go _ _ _ h1 h⟩
 have dR:=qX r.ne;have W1:=List.head?_eq_some_head r.ne;have hb:=r.back _ _ dR W1;have wl:Wk E R z (C.length-1-i0) (C.getLast r.ne):=by
  refine up _ _ ?_;rw [show i0+(C.length-1-i0)=C.length-1 by lia,<- List.getLast?_eq_getElem?];exact dR
 cases i0 with
 | zero=>
  refine ⟨_,wl,?_⟩;rw [gC,qG] at W1;rw [Option.some.inj W1];exact hb
 | succ i=>
  have dn:∀ (j:Nat) (x:Str),j<=i->C[j]?=some x->Wk E R z (C.length-(i+1)+j) x:=by
   intro j
   induction j with
   | zero=>
    intro x _ h;rw [gC,h] at W1;have e:C.length-(i+1)+0=(C.length-1-(i+1))+1:=by lia
    rw [e,Option.some.inj W1];exact ⟨hR _ (List.head_mem r.ne),_,wl,hb⟩
   | succ j ih=>
    intro x hj h;have hl:=(F8.mp h).1;have h1:C[j]?=some (C[j]'(by lia)):=E9 'b';exact ⟨mem h,_,ih _ 'b' h1,r.go _ _ _ h1 h⟩
  have h1:C[i]?=some (C[i]'(by lia)):=E9 'b';refine ⟨_,?_,r.go _ _ _ h1 qG⟩
  have:=dn i _ (C3 _) h1
  rwa [show C.length-(i+1)+i=C.length-1 by lia] at this
theorem Wk.fn{R:List Str}{s:Str} : ∀ {k:Nat} {x:Str},Wk E R s k x->∃ v:Nat->Str,v 0=s/\v k=x/\∀ i<k,(v i,v (i+1))∈E
 | 0,x,h=>⟨fun _=>s,rfl,h.symm,fun i hi=>absurd hi (Nat.not_lt_zero _)⟩
 | k+1,y,⟨_,x,w,e⟩=>by
  obtain ⟨v,h0,hk,hv⟩:=Wk.fn w;refine ⟨fun i=>if i<=k then v i else y,by simp [h0],if_neg 'b',fun i hi=>?_⟩
  by_cases h:i+1<=k
  .simp only [h,show i<=k by lia,if_true];exact hv i 'b'
  .have:i=k:=by lia
   subst this;simp only [C3,if_true,h,if_false];rw [hk];exact e
theorem mem_fol{p y:Str} : y∈C4 E p↔(p,y)∈E:=by
 unfold C4;rw [D0]
 constructor
 .rintro ⟨e,he,rfl⟩;rw [N1] at he
  have:e.1=p:=by simpa using he.2
  rw [<- this];exact he.1
 .intro h;exact ⟨(p,y),N1.mpr ⟨h,by simp⟩,rfl⟩
structure BF(E:List 'h')(R:List Str)(z:Str)(n:Nat)(ws cs:List Str)(f:Str->Str)(dep:Str->Nat):Prop where
 cnd:cs.Nodup
 csR:∀ x∈cs,x∈R/\x≠z
 par:∀ x∈cs,(f x=z\/f x∈cs)/\(f x,x)∈E/\dep x=dep (f x)+1
 dz:dep z=0
 wsd:∀ x∈ws,(x=z\/x∈cs)/\dep x=n
 wall:∀ k≤n,∀ x,Wk E R z k x->x=z\/x∈cs
 wlt:∀ k<n,∀ x,Wk E R z k x->x∉ws
 shut:∀ x,(x=z\/x∈cs)->x∉ws->∀ y,(x,y)∈E->y≠z/\(y∈R->y∈cs)
theorem uah(E:List 'h')(R:List Str)(z:Str)(f:Str->Str):BF E R z 0 [z] [] f (fun _=>0):=by
 refine ⟨.nil,by simp,by simp,rfl,fun x hx=>⟨.inl (D3.mp hx),rfl⟩,fun k hk x w=>?_,fun k hk=>absurd hk (Nat.not_lt_zero _),fun x hx hn=>?_⟩
 .have:k=0:=by lia
  subst this;exact .inl w
 .rcases hx with h | h
  .exact absurd (by rw [h];simp) hn
  .cases h
theorem BF.least{R:List Str}{f:Str->Str}{dep:Str->Nat}(b:BF E R z n ws cs f dep){C:List Str}(r:IsRound E C)(hR:∀ x∈C,x∈R)(hz:z∈C):n+1<=C.length:=by
 obtain ⟨x,w,e⟩:=r.wk hR hz;have i4:0<C.length:=jW hz;refine Classical.byContradiction fun h=>?_
 have hk:C.length-1<n:=by lia
 exact (b.shut x (b.wall _ (Nat.le_of_lt hk) x w) (b.wlt _ hk x w) z e).1 rfl
theorem BF.none{R:List Str}{f:Str->Str}{dep:Str->Nat}(b:BF E R z n [] cs f dep){C:List Str}(r:IsRound E C)(hR:∀ x∈C,x∈R)(hz:z∈C):False:=by
 obtain ⟨x,w,e⟩:=r.wk hR hz;have all:∀ k x,Wk E R z k x->x=z\/x∈cs:=by
  intro k
  induction k with
  | zero=>intro x h;exact .inl h
  | succ k ih=>
   rintro y ⟨hy,x,w,e⟩;exact .inr ((b.shut x (ih x w) 'c' y e).2 hy)
 exact (b.shut x (all _ x w) 'c' z e).1 rfl
structure BL(E:List 'h')(R:List Str)(z:Str)(n:Nat)(ws X4:List Str)(pd:Str->Str->Prop)(cs fs:List Str)(f:Str->Str)(dep:Str->Nat):Prop where
 cnd:cs.Nodup
 csR:∀ x∈cs,x∈R/\x≠z
 par:∀ x∈cs,(f x=z\/f x∈cs)/\(f x,x)∈E/\dep x=dep (f x)+1
 dz:dep z=0
 old:∀ x∈X4,x∈cs
 wsd:∀ x∈ws,(x=z\/x∈X4)/\dep x=n
 fsd:∀ x∈fs,x∈cs/\x∉X4/\dep x=n+1
 new:∀ x∈cs,x∈X4\/x∈fs
 len:fs.length<=cs.length
 prs:∀ x y,pd x y->y≠z/\(y∈R->y∈cs)
theorem BF.go{R:List Str}{f:Str->Str}{dep:Str->Nat}(b:BF E R z n ws cs f dep):BL E R z n ws cs (fun x y=>x∈ws.take 0/\y∈C4 E x) cs [] f dep:=
 ⟨b.cnd,b.csR,b.par,b.dz,fun _ h=>h,b.wsd,by simp,fun _ h=>.inl h,J0 _,fun x y h=>by simp at h⟩
theorem BL.weak{R:List Str}{pd pd':Str->Str->Prop}{fs:List Str}{f:Str->Str}{dep:Str->Nat}(b:BL E R z n ws X4 pd cs fs f dep)(h:∀ x y,pd' x y->pd x y):BL E R z n ws X4 pd' cs fs f dep:=
 ⟨b.cnd,b.csR,b.par,b.dz,b.old,b.wsd,b.fsd,b.new,b.len,fun x y q=>b.prs x y (h x y q)⟩
theorem BL.skip{R:List Str}{pd pd':Str->Str->Prop}{fs:List Str}{f:Str->Str}{dep:Str->Nat}(b:BL E R z n ws X4 pd cs fs f dep)(h0:y0≠z)(h1:y0∈R->y0∈cs)(h:∀ x y,pd' x y->pd x y\/y=y0):BL E R z n ws X4 pd' cs fs f dep:=
 ⟨b.cnd,b.csR,b.par,b.dz,b.old,b.wsd,b.fsd,b.new,b.len,fun x y q=>by
  rcases h x y q with q | rfl
  .exact b.prs x y q
  .exact ⟨h0,h1⟩⟩
theorem BL.put{R:List Str}{pd pd':Str->Str->Prop}{fs:List Str}{f:Str->Str}{dep:Str->Nat}(b:BL E R z n ws X4 pd cs fs f dep){p:Str}(hp:p∈ws)(he:(p,y0)∈E)(h0:y0≠z)(hR:y0∈R)(hn:y0∉cs)(h:∀ x y,pd' x y->pd x y\/y=y0) :
  BL E R z n ws X4 pd' (cs++[y0]) (fs++[y0]) (fun t=>if t=y0 then p else f t) (fun t=>if t=y0 then n+1 else dep t):=by
 have hz:z≠y0:=fun e=>h0 e.symm
 have inR:∀ {x:Str},x∈cs->x≠y0:=fun hx e=>hn (by rw [<- e];exact hx)
 obtain ⟨U6,v1⟩:=b.wsd p hp;have hpy:p≠y0:=by
  rcases U6 with q | q
  .rw [q];exact hz
  .exact inR (b.old p q)
 refine ⟨?_,fun x hx=>?_,fun x hx=>?_,by rw [if_neg hz];exact b.dz,fun x hx=>O6 _ (b.old x hx),fun x hx=>?_,fun x hx=>?_,fun x hx=>?_,by rw [D4,D4];exact Nat.add_le_add_right b.len _,fun x y q=>?_⟩
 .rw [X8];refine ⟨b.cnd,by simp,fun a ha c hc e=>hn ?_⟩;rw [<- D3.mp hc,<- e];exact ha
 .rcases D8.mp hx with q | q
  .exact b.csR x q
  .rw [D3.mp q];exact ⟨hR,h0⟩
 .rcases D8.mp hx with q | q
  .obtain ⟨a1,a2,a3⟩:=b.par x q;rw [if_neg (inR q),if_neg (inR q)];have hf:f x≠y0:=by
    rcases a1 with r | r
    .rw [r];exact hz
    .exact inR r
   rw [if_neg hf];exact ⟨a1.imp_right fun r=>O6 _ r,a2,a3⟩
  .have e:=D3.mp q;rw [if_pos e,if_pos e,if_neg hpy,e,v1];exact ⟨U6.imp_right fun r=>O6 _ (b.old p r),he,rfl⟩
 .obtain ⟨a1,a2⟩:=b.wsd x hx;refine ⟨a1,?_⟩;rw [if_neg]
  .exact a2
  .rcases a1 with r | r
   .rw [r];exact hz
   .exact inR (b.old x r)
 .rcases D8.mp hx with q | q
  .obtain ⟨a1,a2,a3⟩:=b.fsd x q;exact ⟨O6 _ a1,a2,by rw [if_neg (inR a1)];exact a3⟩
  .rw [D3.mp q];exact ⟨by simp,fun r=>hn (b.old _ r),by rw [if_pos rfl]⟩
 .rcases D8.mp hx with q | q
  .exact (b.new x q).imp_right fun r=>O6 _ r
  .exact .inr (O5 _ q)
 .rcases h x y q with q | rfl
  .exact ⟨(b.prs x y q).1,fun r=>O6 _ ((b.prs x y q).2 r)⟩
  .exact ⟨h0,fun _=>by simp⟩
theorem BL.done{R:List Str}{f0:Str->Str}{dep0:Str->Nat}{fs:List Str}{f:Str->Str}{dep:Str->Nat}(b0:BF E R z n ws X4 f0 dep0)(b:BL E R z n ws X4 (fun x y=>x∈ws.take ws.length/\y∈C4 E x) cs fs f dep):BF E R z (n+1) fs cs f dep:=by
 have hpr:∀ x∈ws,∀ y,(x,y)∈E->y≠z/\(y∈R->y∈cs):=fun x hx y e=>b.prs x y ⟨by rw [J7];exact hx,mem_fol.mpr e⟩
 refine ⟨b.cnd,b.csR,b.par,b.dz,fun x hx=>⟨.inr (b.fsd x hx).1,(b.fsd x hx).2.2⟩,fun k hk x w=>?_,fun k hk x w hx=>?_,fun x hx hn y e=>?_⟩
 .by_cases h:k<=n
  .exact (b0.wall k h x w).imp_right (b.old x)
  .have:k=n+1:=by lia
   subst this;obtain ⟨hx,u,w',e⟩:=w;have hu:=b0.wall n (C3 _) u w'
   by_cases hw:u∈ws
   .exact .inr ((hpr u hw x e).2 hx)
   .exact .inr (b.old x ((b0.shut u hu hw x e).2 hx))
 .obtain ⟨a1,a2,_⟩:=b.fsd x hx
  rcases b0.wall k (by lia) x w with q | q
  .exact (b.csR x a1).2 q
  .exact a2 q
 .have bX:x=z\/x∈X4:=by
   rcases hx with q | q
   .exact .inl q
   .rcases b.new x q with r | r
    .exact .inr r
    .exact absurd r hn
  by_cases hw:x∈ws
  .exact hpr x hw y e
  .obtain ⟨a,c⟩:=b0.shut x bX hw y e;exact ⟨a,fun q=>b.old y (c q)⟩
structure Back(cs:List Str)(z:Str)(f:Str->Str)(x:Str)(n:Nat):Prop where
 mid:∀ k<n,iter f x k∈cs/\iter f x k≠z
 fin:iter f x n=z
noncomputable def backL (f:Str->Str) (x:Str) (n:Nat):List Str:=((U0 (n+1)).map (iter f x)).reverse
theorem BL.back{R:List Str}{pd:Str->Str->Prop}{fs:List Str}{f:Str->Str}{dep:Str->Nat}(b:BL E R z n ws X4 pd cs fs f dep)(hz:z∈R){p:Str}(hp:p∈ws)(he:(p,z)∈E):Back cs z f p n/\IsRound E (backL f p n)/\(∀ x∈backL f p n,x∈R)/\z∈backL f p n/\(backL f p n).length=n+1:=by
 have key:∀ k≤n,(iter f p k=z\/iter f p k∈cs)/\dep (iter f p k)=n-k:=by
  intro k
  induction k with
  | zero=>intro _;obtain ⟨a,c⟩:=b.wsd p hp;exact ⟨a.imp_right (b.old p),c⟩
  | succ k ih=>
   intro hk;obtain ⟨a,c⟩:=ih 'b';have hc:iter f p k∈cs:=by
    rcases a with q | q
    .rw [q,b.dz] at c;lia
    .exact q
   obtain ⟨a1,_,a3⟩:=b.par _ hc;refine ⟨a1,?_⟩;show dep (f (iter f p k))=n-(k+1);lia
 have mid:∀ k<n,iter f p k∈cs/\iter f p k≠z:=fun k hk=>by
  obtain ⟨a,c⟩:=key k 'b';have G7:iter f p k≠z:=fun e=>by rw [e,b.dz] at c;lia
  exact ⟨a.resolve_left G7,G7⟩
 have fin:iter f p n=z:=by
  obtain ⟨a,c⟩:=key n (C3 _)
  rcases a with q | q
  .exact q
  .obtain ⟨_,_,a3⟩:=b.par _ q;lia
 have A6:(backL f p n).length=n+1:=by unfold backL;simp
 have N0:∀ i≤n,(backL f p n)[i]?=some (iter f p (n-i)):=fun i hi=>by
  unfold backL;rw [List.getElem?_reverse (by simp;lia),A3,gF,P1,List.getElem?_range 'b',show n+1-1-i=n-i by lia];rfl
 refine ⟨⟨mid,fin⟩,⟨fun e=>by rw [e] at A6;simp at A6,?_,fun i a c ha hc=>?_,fun a c ha hc=>?_⟩,fun x hx=>?_,?_,A6⟩
 .unfold backL;refine (List.reverse_perm _).nodup_iff.mpr ?_;rw [W3,gE];refine List.Pairwise.imp_of_mem (fun {i j} hi hj fS e=>fS ?_) (W3.mp List.nodup_range);rw [aS] at hi hj;have h1:=(key i 'b').2;have h2:=(key j 'b').2;rw [e] at h1;lia
 .have hi:i+1<=n:=by have:=(F8.mp hc).1;lia
  rw [N0 i 'b'] at ha;rw [N0 (i+1) hi] at hc;cases ha;cases hc
  have:=(b.par _ (mid (n-(i+1)) 'b').1).2.1
  rw [show n-i=(n-(i+1))+1 by lia];exact this
 .rw [List.getLast?_eq_getElem?,A6,Nat.add_sub_cancel,N0 n (C3 _),Nat.sub_self] at ha;rw [gC,N0 0 (J0 _),Nat.sub_zero,fin] at hc;cases ha;cases hc;exact he
 .obtain ⟨i,hi⟩:=jX.mp hx;have hil:=(F8.mp hi).1;rw [N0 i 'b'] at hi;cases hi
  rcases (key (n-i) (by lia)).1 with q | q
  .rw [q];exact hz
  .exact (b.csR _ q).1
 .have:=N0 0 (J0 _)
  rw [Nat.sub_zero,fin] at this;exact L7 this
theorem al1(f:Str->V)(z:Str)(nd:ts.Nodup):dropK (A5 ts f) (Sum.inr z:A7)=A5 (ts.erase z) f:=by
 rw [List.Nodup.erase_eq_filter nd];unfold dropK A5;rw [List.filter_map]
 congr 1
 refine List.filter_congr fun t _=>?_
 show decide ((Sum.inr t:A7)≠Sum.inr z)=(t != z)
 by_cases h:t=z
 .subst h;simp
 .have:(t != z)=true:=by simpa using h
  rw [this];exact decide_eq_true (fun e=>h (Sum.inr.inj e))
noncomputable def Same2 (d c:Addr) (H H':Hp):Prop:=∀ b o,b≠d->b≠c->H b=some o->H' b=some o
noncomputable def vD (K:PySem.W.Frag) (C:Addr) (fld:Str):Sp:=fun vs H Q _=>∃ (m:Nat) (x l f:Addr) (zs:List Str),vs=[.ref x,.ref l]/\H x=some (xm m x C)/\ErrC K C f/\NoAttr K C fld/\H l=some (.lst (zs.map V.str))/\zs.length<=500/\(∀ z∈zs,X1 z)/\
 ∀ p dx,H p=none->A0 H p (.lst (zs.map V.str)) dx=none->dx≠x->Q .non (A0 (A0 (A0 H p (.lst (zs.map V.str))) x (xo m x C dx)) dx (.xd [(fld,.ref p)]))
noncomputable def spWB:Sp:=fun vs H Q _=>∃ (c:Addr) (z x:Str) (cs:List Str) (f:Str->Str) (n:Nat),vs=[.ref c,.str z,.str x]/\H c=some (.dK (A5 cs fun t=>.str (f t)))/\Back cs z f x n/\n<=1000/\
 ∀ (l:Addr) (H':Hp),H l=none->Same H H'->H' l=some (.lst ((backL f x n).map V.str))->Q (.ref l) H'
structure Best(E:List 'h')(R:List Str)(z:Str)(g:List Str):Prop where
 rnd:IsRound E g
 inR:∀ x∈g,x∈R
 mem:z∈g
 least:∀ C,IsRound E C->(∀ x∈C,x∈R)->z∈C->g.length<=C.length
noncomputable def spRFG:Sp:=fun vs H Q _=>∃ (d:Addr) (z:Str) (m:Int) (R:List Str) (ad:Str->Addr) (E:List 'h'),vs=[.ref d,.str z,.int m]/\H d=some (.dK (A5 R fun t=>.ref (ad t)))/\z∈R/\R.length<=1000/\(∀ t∈R,H (ad t)=some (.lst ((C4 E t).map V.str)))/\m<=1000/\
 ∀ (l:Addr) (g:List Str) (H':Hp),H l=none->Same H H'->H' l=some (.lst (g.map V.str))->((Best E R z g/\(g.length:Int)<=m)\/(g=[]/\∀ C,IsRound E C->(∀ x∈C,x∈R)->z∈C->m<(C.length:Int)))->Q (.ref l) H'
noncomputable def aj9:Sp:=fun vs H Q _=>∃ (d c:Addr) (z:Str) (R ts:List Str) (ad:Str->Addr) (E:List 'h'),vs=[.ref d,.ref c,.str z]/\H d=some (.dK (A5 R fun t=>.ref (ad t)))/\H c=some (.dK (A5 ts fun t=>.int (cntIn E R t:Nat)))/\d≠c/\R.Nodup/\(∀ t∈R,t∈ts)/\ts.length<=1000/\R.length<=1000/\(∀ e∈E,e.2∈ts)/\(∀ t∈ts,H (ad t)=some (.lst ((C4 E t).map V.str)))/\z∈R/\
 ∀ (R':List Str) (H':Hp),(∀ t∈R',t∈R)->R'.Nodup->R'.length<=R.length->z∉R'->(∀ C,IsRound E C->(∀ x∈C,x∈R)->z∉C->∀ x∈C,x∈R')->Same2 d c H H'->H' d=some (.dK (A5 R' fun t=>.ref (ad t)))->H' c=some (.dK (A5 ts fun t=>.int (cntIn E R' t:Nat)))->Q .non H'
theorem aka{R C:List Str}(r:IsRound E C)(h:∀ x∈C,x∈R)(hx:x∈C):cntIn E R x≠0:=by
 obtain ⟨y,hy,he⟩:=r.pred hx;unfold cntIn;intro h0
 have:=List.countP_eq_zero.mp h0 (y,x) he
 simp [h y hy] at this
structure TK(E:List 'h')(R:List Str)(z:Str)(R' ls:List Str):Prop where
 a:∀ x∈ls,x=z\/cntIn E R' x=0
 b:ls=[z]\/z∉R'
 c:∀ C,IsRound E C->(∀ x∈C,x∈R)->z∉C->∀ x∈C,x∈R'
theorem TK.step{R:List Str}{R' l0:List Str}(t:TK E R z R' (l0++[x]))(nd:R'.Nodup){ls:List Str}(h:∀ y∈ls,cntIn E (R'.erase x) y=0):TK E R z (R'.erase x) ls:=by
 refine ⟨fun y hy=>.inr (h y hy),.inr fun hm=>?_,fun C r hR hz y hy=>?_⟩
 .obtain ⟨h1,h2⟩:=nd.mem_erase_iff.mp hm
  rcases t.b with q | q
  .have e:x=z:=by
    have:=congrArg List.getLast? q
    simpa using this
   exact h1 e.symm
  .exact q h2
 .have hyR:=t.c C r hR hz;refine nd.mem_erase_iff.mpr ⟨fun e=>?_,hyR y hy⟩
  rcases t.a x (by simp) with q | q
  .exact hz (by rw [<- q,<- e];exact hy)
  .exact aka r hyR (by rw [<- e];exact hy) q
structure Least(E:List 'h')(g:List Str):Prop where
 rnd:IsRound E g
 least:∀ C,IsRound E C->g.length<=C.length
noncomputable def vE:Sp:=fun vs H Q _=>∃ (a:Addr) (rs:List Addr) (zss:List (List Str)),vs=[.ref a]/\IsRows H a rs zss/\zss.flatten.length<=1000/\
 ∀ (l:Addr) (g:List Str) (H':Hp),Same H H'->H' l=some (.lst (g.map V.str))->(Least (edges zss) g\/(g=[]/\∀ C,¬ IsRound (edges zss) C))->Q (.ref l) H'
theorem vF{C:List Str}(r:IsRound (edges zss) C):∀ x∈C,x∈toldL zss:=fun x hx=>by
 obtain ⟨y,_,he⟩:=r.pred hx;exact (bE he).2
theorem vG{l m:List Str}(nd:l.Nodup)(h:∀ x∈l,x∈m):l.length<=m.length:=u4 nd h
noncomputable def vH (CR:Addr):Sp:=fun vs H Q E=>∃ (a:Addr) (rs:List Addr) (zss:List (List Str)),vs=[.ref a]/\IsRows H a rs zss/\zss.flatten.length<=500/\(∀ zs∈zss,∀ z∈zs,X1 z)/\
 (∀ l line H',H l=none->Same H H'->H' l=some (.lst (line.map V.str))->R1 (edges zss) (toldL zss) line->(∀ p∈toldL zss,p∈line)->Q (.ref l) H')/\
 (∀ (dx l:Addr) (g:List Str) (H':Hp),Same H H'->H' dx=some (.xd [("pieces",.ref l)])->H' l=some (.lst (g.map V.str))->Least (edges zss) g->E (.ref CR) (some dx) H')
theorem aok{x:Addr}{o:HO}(nx:H x=none)(np:A0 H x (xm m x C) p=none)(nd:A0 (A0 H x (xm m x C)) p o dx=none)(ne:dx≠x) :
  A0 (A0 (A0 (A0 H x (xm m x C)) p o) x (xo m x C dx)) dx (.xd [(fld,.ref p)]) x=some (xo m x C dx)/\Same H (X0 (A0 (A0 (A0 (A0 H x (xm m x C)) p o) x (xo m x C dx)) dx (.xd [(fld,.ref p)])) x)/\X0 (A0 (A0 (A0 (A0 H x (xm m x C)) p o) x (xo m x C dx)) dx (.xd [(fld,.ref p)])) x dx=some (.xd [(fld,.ref p)])/\X0 (A0 (A0 (A0 (A0 H x (xm m x C)) p o) x (xo m x C dx)) dx (.xd [(fld,.ref p)])) x p=some o:=by
 have xC:p≠x:=fun e=>by rw [e,A1] at np;cases np
 have hdp:dx≠p:=fun e=>by rw [e,A1] at nd;cases nd
 rw [A4 xC] at np;rw [A4 hdp,A4 ne] at nd;refine ⟨by rw [A4 ne.symm,A1],fun b o h=>?_,by rw [g7 ne,A1],by rw [g7 xC,A4 hdp.symm,A4 xC,A1]⟩;have h1:b≠x:=O3 h nx;rw [g7 h1,A4 (O3 h nd),A4 h1,A4 (O3 h np),A4 h1];exact h
structure SH(E:List 'h')(ts R done g:List Str)(mo:Int):Prop where
 nd:R.Nodup
 sub:∀ t∈R,t∈ts
 best:(g=[]/\mo=ts.length)\/(IsRound E g/\mo=(g.length:Int)-1)
 gts:∀ x∈g,x∈ts
 gone:∀ t∈done,t∉R
 all:∀ C,IsRound E C->(∀ x∈C,x∈R)\/(g≠[]/\g.length<=C.length)
theorem uae(nd:ts.Nodup)(rt:∀ C,IsRound E C->∀ x∈C,x∈ts):SH E ts ts (ts.take 0) [] (ts.length:Int):=⟨nd,fun _ h=>h,.inl ⟨rfl,rfl⟩,by simp,by simp,fun C r=>.inl (rt C r)⟩
theorem SH.le{R done g:List Str}(s:SH E ts R done g mo):mo<=ts.length:=by
 rcases s.best with ⟨_,h⟩ | ⟨r,h⟩
 .lia
 .have:=u4 r.nd s.gts
  lia
theorem SH.pass{R done g:List Str}(s:SH E ts R done g mo){t:Str}(h:t∉R):SH E ts R (done++[t]) g mo:=⟨s.nd,s.sub,s.best,s.gts,fun u hu=>by
 rcases D8.mp hu with q | q
 .exact s.gone u q
 .rw [D3.mp q];exact h,s.all⟩
theorem SH.found{R done g R2:List Str}{t:Str}(s:SH E ts R done g mo)(b:Best E R t g')(dO:(g'.length:Int)<=mo)(h1:∀ x∈R2,x∈R)(h2:R2.Nodup)(h3:t∉R2)(h4:∀ C,IsRound E C->(∀ x∈C,x∈R)->t∉C->∀ x∈C,x∈R2):SH E ts R2 (done++[t]) g' ((g'.length:Int)-1):=by
 refine ⟨h2,fun x hx=>s.sub x (h1 x hx),.inr ⟨b.rnd,rfl⟩,fun x hx=>s.sub x (b.inR x hx),fun u hu=>?_,fun C r=>?_⟩
 .rcases D8.mp hu with q | q
  .exact fun h=>s.gone u q (h1 u h)
  .rw [D3.mp q];exact h3
 .rcases s.all C r with q | ⟨q1,q2⟩
  .by_cases ht:t∈C
   .exact .inr ⟨b.rnd.ne,b.least C r q ht⟩
   .exact .inl (h4 C r q ht)
  .refine .inr ⟨b.rnd.ne,?_⟩
   rcases s.best with ⟨e,_⟩ | ⟨_,e⟩
   .exact absurd e q1
   .lia
theorem SH.not{R done g R2:List Str}{t:Str}(s:SH E ts R done g mo)(u7:∀ C,IsRound E C->(∀ x∈C,x∈R)->t∈C->mo<(C.length:Int))(h1:∀ x∈R2,x∈R)(h2:R2.Nodup)(h3:t∉R2)(h4:∀ C,IsRound E C->(∀ x∈C,x∈R)->t∉C->∀ x∈C,x∈R2):SH E ts R2 (done++[t]) g mo:=by
 refine ⟨h2,fun x hx=>s.sub x (h1 x hx),s.best,s.gts,fun u hu=>?_,fun C r=>?_⟩
 .rcases D8.mp hu with q | q
  .exact fun h=>s.gone u q (h1 u h)
  .rw [D3.mp q];exact h3
 .rcases s.all C r with q | q
  .by_cases ht:t∈C
   .have hl:=u7 C r q ht
    rcases s.best with ⟨_,e⟩ | ⟨rg,e⟩
    .have:=u4 r.nd fun x hx=>s.sub x (q x hx)
     lia
    .exact .inr ⟨rg.ne,by lia⟩
   .exact .inl (h4 C r q ht)
  .exact .inr q
theorem SH.fin{R g:List Str}(s:SH E ts R ts g mo)(rt:∀ C,IsRound E C->∀ x∈C,x∈ts):Least E g\/(g=[]/\∀ C,¬ IsRound E C):=by
 have key:∀ C,IsRound E C->g≠[]/\g.length<=C.length:=fun C r=>by
  rcases s.all C r with q | q
  .obtain ⟨x,hx⟩:=nH C r.ne;exact absurd (q x hx) (s.gone x (rt C r x hx))
  .exact q
 rcases s.best with ⟨e,_⟩ | ⟨r,_⟩
 .exact .inr ⟨e,fun C r=>(key C r).1 e⟩
 .exact .inl ⟨r,fun C r'=>(key C r').2⟩
theorem iV{x:Addr}{v:V}(nx:H x=none)(nd:A0 H x (xm m x C) dx=none)(ne:dx≠x) :
  A0 (A0 (A0 H x (xm m x C)) x (xo m x C dx)) dx (.xd [(fld,v)]) x=some (xo m x C dx)/\Same H (X0 (A0 (A0 (A0 H x (xm m x C)) x (xo m x C dx)) dx (.xd [(fld,v)])) x)/\X0 (A0 (A0 (A0 H x (xm m x C)) x (xo m x C dx)) dx (.xd [(fld,v)])) x dx=some (.xd [(fld,v)]):=by
 rw [A4 ne] at nd;refine ⟨by rw [A4 ne.symm,A1],fun b o h=>?_,by rw [g7 ne,A1]⟩;have h1:b≠x:=O3 h nx;rw [g7 h1,A4 (O3 h nd),A4 h1,A4 h1];exact h
noncomputable def iW (K:PySem.W.Frag) (C:Addr) (fld:Str):Sp:=fun vs H Q _=>∃ m x z f,vs=[.ref x,.str z]/\H x=some (xm m x C)/\ErrC K C f/\NoAttr K C fld/\z.length<=1000/\P8 z=true/\∀ dx,H dx=none->dx≠x->Q .non (A0 (A0 H x (xo m x C dx)) dx (.xd [(fld,.str z)]))
noncomputable def XP (CN:Addr) (H:Hp) (E:XK) (p:Str):Prop:=∀ dx H',Same H H'->H' dx=some (.xd [("piece",.str p)])->E (.ref CN) (some dx) H'
noncomputable def jobV (ks:List Str) (g:Str->V) (p:Str):V:=if p∈ks then g p else .non
noncomputable def V2 (ks:List Str) (g:Str->V) (p:Str):Bool:=!decide (jobV ks g p=V.str "letter")
noncomputable def fA (ks:List Str) (g:Str->V) (p:Str):Bool:=!(decide (jobV ks g p=V.str "letter") || decide (jobV ks g p=V.str "mark"))
noncomputable def misL (ks:List Str) (g:Str->V) (z:Rl):List Str:=if z.1=("great" : Str) then (z.2.take 1).filter (V2 ks g) else if z.1=("as" : Str) then ((z.2.drop 1).take 1).filter (V2 ks g)++(z.2.drop 2).filter (fA ks g) else []
theorem vI{g:Str->V}{p:Str} : (if p∈ks then some (g p) else none).getD V.non=jobV ks g p:=by
 unfold jobV
 by_cases h:p∈ks
 .rw [if_pos h,if_pos h];rfl
 .rw [if_neg h,if_neg h];rfl
theorem pO{g:Str->V}(hg:∀ p,∃ s,g p=V.str s)(p:Str):jobV ks g p=.non\/∃ s,jobV ks g p=.str s:=by
 unfold jobV
 by_cases h:p∈ks
 .rw [if_pos h];exact .inr (hg p)
 .rw [if_neg h];exact .inl rfl
theorem ams{v:V}{c:Str}(hv:v=.non\/∃ s,v=.str s)(hc:P8 c=true)(q:Q (.bl (!decide (v=.str c))) H):rNeU K v (.str c) H Q:=by
 rcases hv with rfl | ⟨s,rfl⟩
 .exact ⟨_,_,.non,.str _ hc,D5 (Nat.min_le_left _ _) 'g',q⟩
 .show Q (.bl (!decide (s=c))) H;rw [show decide (s=c)=decide (V.str s=V.str c) from decide_eq_decide.mpr ⟨fun e=>by rw [e],fun e=>V.str.inj e⟩];exact q
theorem al2{g:Str->V}(hg:∀ p,∃ s,g p=V.str s)(p:Str):flatV (jobV ks g p)=true:=by
 rcases pO (ks:=ks) hg p with e | ⟨s,e⟩ <;> rw [e] <;> rfl
theorem arc{g:Str->V}(hg:∀ p,∃ s,g p=V.str s)(p:Str):y7 (jobV ks g p) [V.str (Str.ofString "letter"),V.str (Str.ofString "mark")]=(decide (jobV ks g p=V.str "letter") || decide (jobV ks g p=V.str "mark")):=by
 rcases pO (ks:=ks) hg p with e | ⟨s,e⟩
 .rw [e];decide +kernel
 .rw [e];have h:∀ c:Str,decide (V.str s=V.str c)=decide (s=c):=fun c=>decide_eq_decide.mpr ⟨fun e=>V.str.inj e,fun e=>by rw [e]⟩
  rw [h,h];rw [show y7 (V.str s) [V.str (Str.ofString "letter"),V.str (Str.ofString "mark")]=y7 (V.str s) (([Str.ofString "letter",Str.ofString "mark"]:List Str).map V.str) from rfl,oH,eG]
  simp
noncomputable def amt (K:PySem.W.Frag):Sp:=fun vs H Q _=>∃ (t d:Addr) (z:Rl) (ks:List Str) (g:Str->V),vs=[.ref t,.ref d]/\H t=some (tupR z)/\H d=some (.dK (A5 ks g))/\(∀ p,∃ s,g p=V.str s)/\z.2.length<=1000/\∀ p H',H p=none->Same H H'->H' p=some (.lst ((misL ks g z).map V.str))->Q (.ref p) H'
noncomputable def vJ (K:PySem.W.Frag) (CN:Addr):Sp:=fun vs H Q E=>∃ (a d:Addr) (ts:List Addr) (R:List Rl) (ks:List Str) (g:Str->V),vs=[.ref a,.ref d]/\IsRules H a ts R/\H d=some (.dK (A5 ks g))/\(∀ p,∃ s,g p=V.str s)/\(∀ z∈R,z.2.length<=1000/\∀ p∈z.2,p.length<=1000/\P8 p=true)/\
 ((R.flatMap (misL ks g)).head?=none->∀ H',Same H H'->Q .non H')/\(∀ p,(R.flatMap (misL ks g)).head?=some p->XP CN H E p)
theorem al3(g:Str->Str)(p:Str):∃ s,jobG g p=V.str s:=by
 unfold jobG
 split
 .exact ⟨_,rfl⟩
 .exact ⟨_,rfl⟩
noncomputable def misR (g:Str->Str) (R:List Rl):List Str:=R.flatMap (misL (keysP (A9 R)++T0 R) (jobG g))
theorem aol{g:Str->V}{z:Rl}{p:Str}(h:p∈misL ks g z):p∈z.2:=by
 unfold misL at h
 split at h
 .exact jY (N1.mp h).1
 split at h
 .rcases D8.mp h with h | h
  .exact List.mem_of_mem_drop (jY (N1.mp h).1)
  .exact List.mem_of_mem_drop (N1.mp h).1
 .cases h
theorem pP{l:List Str}(r:R1 E ts l){e:Str×Str}(he:e∈E)(h2:e.2∈l):l.idxOf e.1<l.idxOf e.2:=by
 obtain ⟨pre,post,rfl⟩:=List.append_of_mem h2;obtain ⟨_,hn,hc⟩:=kU (r pre e.2 post rfl);have h1:e.1∈pre:=cnt_zero.mp hc e he rfl;rw [List.idxOf_append,if_pos h1,List.idxOf_append,if_neg hn]
 have:=dZ.mpr h1
 lia
noncomputable def job1 (PL:List 'h') (p:Str):Str:=((PL.find? fun e=>decide (e.1=p)).map (·.2)).getD ""
noncomputable def U5 (fg:Bool) (ks:List Str) (g:Str->Str) (p j:Str):Bool:=(decide (p∈ks)&&(!decide (g p=j) || !decide (j∈W8))) || (fg&&p.cps.toList.any figO)
noncomputable def clGo (fg:Bool):List 'h'->List 'h'->Option Str
 | _,[]=>none
 | pre,e::r=>if U5 fg (keysP pre) (job1 pre) e.1 e.2=true then some e.1 else clGo fg (pre++[e]) r
noncomputable def aA (fg:Bool) (PL:List 'h'):Option Str:=clGo fg [] PL
theorem pQ{fg:Bool} : ∀ {xs pre r:List 'h'},clGo fg pre xs=none->clGo fg pre (xs++r)=clGo fg (pre++xs) r
 | [],pre,r,_=>by rw [q5,K7]
 | e::xs,pre,r,h=>by
  unfold clGo at h
  split at h
  .cases h
  .rename_i hb
   rw [List.cons_append];show (if U5 fg (keysP pre) (job1 pre) e.1 e.2=true then some e.1 else clGo fg (pre++[e]) (xs++r))=_;rw [if_neg hb,pQ h,X9];rfl
theorem ahE{fg:Bool} : ∀ {xs pre r:List 'h'},clGo fg pre (xs++r)=none->clGo fg pre xs=none
 | [],_,_,_=>rfl
 | e::xs,pre,r,h=>by
  rw [List.cons_append] at h;unfold clGo at h ⊢
  split at h
  .cases h
  .rename_i hb
   rw [if_neg hb];exact ahE h
theorem al4{fg:Bool}{r:List 'h'}{e:Str×Str}(h:clGo fg [] pre=none)(hb:U5 fg (keysP pre) (job1 pre) e.1 e.2=true):aA fg (pre++e::r)=some e.1:=by
 unfold aA;rw [pQ h,q5];unfold clGo;rw [if_pos hb]
theorem al5{fg:Bool}{e:Str×Str}(h:clGo fg [] pre=none)(hb:U5 fg (keysP pre) (job1 pre) e.1 e.2=false):clGo fg [] (pre++[e])=none:=by
 rw [pQ h,q5];unfold clGo;rw [if_neg (by rw [hb];exact K4)];rfl
theorem vK{r:List 'h'}{p:Str}(h:p∈keysP pre):job1 (pre++r) p=job1 pre p:=by
 unfold job1;rw [List.find?_append];obtain ⟨e,he,e1⟩:=D0.mp ((eT _ _).mp h);cases hf:pre.find? fun e=>decide (e.1=p) with
 | none=>exact absurd e1 (by simpa using List.find?_eq_none.mp hf e he)
 | some x=>rfl
theorem ahF{r:List 'h'}{p j:Str}(h:p∉keysP pre):job1 (pre++(p,j)::r) p=j:=by
 unfold job1;rw [List.find?_append]
 have:(pre.find? fun e=>decide (e.1=p))=none:=List.find?_eq_none.mpr fun e he=>by
  rw [decide_eq_true_iff];exact fun e1=>h ((eT _ _).mpr (D0.mpr ⟨e,he,e1⟩))
 rw [this]
 simp
theorem ahG{p:Str}(h:p∈keysP PL):(p,job1 PL p)∈PL:=by
 obtain ⟨e,he,e1⟩:=D0.mp ((eT _ _).mp h);unfold job1;cases hf:PL.find? fun e=>decide (e.1=p) with
 | none=>exact absurd e1 (by simpa using List.find?_eq_none.mp hf e he)
 | some x=>
  have h1:=List.mem_of_find?_eq_some hf;have h2:x.1=p:=by simpa using List.find?_some hf
  show (p,x.2)∈PL;rw [<- h2];exact h1
theorem amu{fg:Bool}{g:Str->Str}{p j:Str}(h:U5 fg ks g p j=false):(p∈ks->g p=j/\j∈W8)/\(fg=true->∀ c∈p.cps.toList,figO c=false):=by
 unfold U5 at h;rw [Bool.or_eq_false_iff] at h;refine ⟨fun hp=>?_,fun hf c hc=>?_⟩
 .have h1:=h.1;rw [decide_eq_true hp,Bool.true_and,Bool.or_eq_false_iff] at h1;exact ⟨by simpa using h1.1,by simpa using h1.2⟩
 .have h2:=h.2;rw [hf,Bool.true_and,List.any_eq_false] at h2
  simpa using h2 c hc
theorem vL{fg:Bool}(h:aA fg PL=none)(hl:∀ e∈PL,e.1.length<=1000):NC fg (job1 PL) PL:=fun i p j e=>by
 have hi:=(F8.mp e).1;have es:PL=PL.take i++(p,j)::PL.drop (i+1):=by
  have:=(F8.mp e).2
  rw [<- this,<- nI hi,X7]
 have hp:clGo fg [] (PL.take i++(p,j)::PL.drop (i+1))=none:=by rw [<- es];exact h
 have h1:=ahE hp;rw [pQ h1,q5] at hp;unfold clGo at hp;have hb:U5 fg (keysP (PL.take i)) (job1 (PL.take i)) p j=false:=by
  cases q:U5 fg (keysP (PL.take i)) (job1 (PL.take i)) p j with
  | false=>rfl
  | true=>
   have q':U5 fg (keysP (PL.take i)) (job1 (PL.take i)) (p,j).1 (p,j).2=true:=q;rw [if_pos q'] at hp;cases hp
 obtain ⟨n1,n2⟩:=amu hb;refine ⟨?_,fun hk=>(n1 ((eT _ _).mpr hk)).2,n2,hl _ (L7 e)⟩
 by_cases hk:p∈keysP (PL.take i)
 .rw [es,vK hk,(n1 hk).1]
 .rw [es,ahF hk]
noncomputable def ahH:Sp:=fun vs H Q _=>∃ (d:Addr) (p j:Str) (fg:Bool) (ks:List Str) (g:Str->Str),vs=[.ref d,.str p,.str j,.bl fg]/\H d=some (.dK (A5 ks fun t=>.str (g t)))/\p.length<=1000/\∀ H',Same H H'->Q (.bl (U5 fg ks g p j)) H'
noncomputable def vM (K:PySem.W.Frag) (CC:Addr):Sp:=fun vs H Q E=>∃ (a:Addr) (ts:List Addr) (R:List Rl),vs=[.ref a]/\IsRules H a ts R/\R.length<=1000/\(A9 R).length<=10000/\(∀ e∈A9 R,e.1.length<=1000/\P8 e.1=true)/\(" " : Str)∉(A9 R).map (·.1)/\
 (aA (hasW R "figures") (A9 R)=none->∀ d H',H d=none->Same H H'->H' d=some (.dK (A5 (keysP (A9 R)++T0 R) (jobG (job1 (A9 R)))))->Q (.ref d) H')/\(∀ p,aA (hasW R "figures") (A9 R)=some p->XP CC H E p)
noncomputable def vN (K:PySem.W.Frag) (CR:Addr):Sp:=fun vs H Q E=>∃ (a:Addr) (ts:List Addr) (R:List Rl) (w:Str),vs=[.ref a,.str w]/\IsRules H a ts R/\R.length<=1000/\(rowsW R w).flatten.length<=500/\(∀ zs∈rowsW R w,∀ z∈zs,X1 z)/\
 (∀ l L H',H l=none->Same H H'->H' l=some (.lst (L.map V.str))->W9 R w L->Q (.ref l) H')/\
 (∀ (dx l:Addr) (g:List Str) (H':Hp),Same H H'->H' dx=some (.xd [("pieces",.ref l)])->H' l=some (.lst (g.map V.str))->Least (edges (rowsW R w)) g->E (.ref CR) (some dx) H')
structure Raw(R:List Rl):Prop where
 len:R.length<=1000
 plen:(A9 R).length<=10000
 nb:(" " : Str)∉(A9 R).map (·.1)
 zl:∀ z∈R,z.2.length<=1000
 ok:∀ z∈R,∀ p∈z.2,X1 p
 ne:∀ z∈R,z.1=("as" : Str)\/z.1=("great" : Str)->z.2≠[]
 f1:(rowsW R "row").flatten.length<=500
 f2:(rowsW R "marks").flatten.length<=500
noncomputable def o0 (R:List Rl):Option Str:=aA (hasW R "figures") (A9 R)
noncomputable def gR (R:List Rl):Str->Str:=job1 (A9 R)
theorem ahI{e:Str×Str}(h:e∈A9 R):∃ z∈R,e.1∈z.2:=by
 unfold A9 at h;obtain ⟨z,hz,he⟩:=U7.mp h;refine ⟨z,hz,?_⟩;obtain ⟨p,hp,rfl⟩:=D0.mp he;obtain ⟨t1,t2,t3⟩:=@eW z;unfold K2 at hp
 split at hp
 .exact List.mem_of_mem_drop hp
 split at hp
 .exact jY hp
 split at hp
 .exact hp
 .cases hp
theorem Raw.short(h:Raw R):∀ e∈A9 R,e.1.length<=1000/\P8 e.1=true:=fun e he=>by
 obtain ⟨z,hz,hp⟩:=ahI he
 have:=h.ok z hz _ hp
 exact ⟨D5 this.1 'g',this.2⟩
theorem Raw.rows(h:Raw R)(w:Str):∀ zs∈rowsW R w,∀ z∈zs,X1 z:=fun zs F7 z hz=>by
 unfold rowsW at F7;obtain ⟨r,hr,rfl⟩:=D0.mp F7;exact h.ok r (N1.mp hr).1 z hz
theorem akb{α:Type}{l:List α}(h:l.head?=none):l=[]:=by cases l with | nil=>rfl | cons a l=>cases h
theorem vO{p j:Str}(hn:j≠"over")(h:jobV (keysP (A9 R)++T0 R) (jobG (gR R)) p=V.str j):(p,j)∈A9 R:=by
 unfold jobV at h
 split at h
 .rename_i hm
  unfold jobG at h
  split at h
  .exact absurd (V.str.inj h).symm hn
  .rename_i hb
   rcases D8.mp hm with hm | hm
   .rw [<- V.str.inj h];exact ahG hm
   .unfold T0 at hm
    split at hm
    .exact absurd (D3.mp hm) hb
    .cases hm
 .cases h
theorem Raw.good(h:Raw R)(hc:o0 R=none)(hm:(misR (gR R) R).head?=none)(hL:W9 R "row" L)(hM:W9 R "marks" M):GoodR (gR R) (L.idxOf ·) (M.idxOf ·) R:=by
 have xD:∀ z∈R,misL (keysP (A9 R)++T0 R) (jobG (gR R)) z=[]:=fun z hz=>List.flatMap_eq_nil_iff.mp (akb hm) z hz
 have nl:∀ {p:Str},¬ (V2 (keysP (A9 R)++T0 R) (jobG (gR R)) p=true)->(p,("letter" : Str))∈A9 R:=fun {p} q=>by
  unfold V2 at q;simp only [cN,decide_eq_false_iff_not,Classical.not_not] at q;exact vO 'e' q
 refine ⟨h.len,h.plen,vL hc fun e he=>(h.short e he).1,h.nb,h.zl,h.ne,fun z hz e p hp=>nl fun q=>?_,fun z hz e p hp=>nl fun q=>?_,fun z hz e p hp=>Classical.byContradiction fun q=>?_,D5 h.f1 'g',D5 h.f2 'g',fun e he=>pP hL.1 he (hL.2 _ (bE he).2),fun e he=>pP hM.1 he (hM.2 _ (bE he).2)⟩
 .have:=xD z hz
  unfold misL at this;rw [if_pos e] at this;exact absurd q (by simpa using cF.mp this p hp)
 .have:=xD z hz
  unfold misL at this;rw [if_neg (by rw [e];decide +kernel),if_pos e] at this;exact absurd q (by simpa using cF.mp (List.append_eq_nil_iff.mp this).1 p hp)
 .have:=xD z hz
  unfold misL at this;rw [if_neg (by rw [e];decide +kernel),if_pos e] at this;have h2:=cF.mp (List.append_eq_nil_iff.mp this).2 p hp;unfold fA at h2;simp only [cN,Bool.or_eq_false_iff,decide_eq_false_iff_not,not_and,Classical.not_not] at h2
  by_cases q2:jobV (keysP (A9 R)++T0 R) (jobG (gR R)) p=V.str "letter"
  .exact q (.inl (vO 'e' q2))
  .exact q (.inr (vO 'e' (h2 q2)))
noncomputable def vP (C CC CN CR:Addr):Sp:=fun vs H Q E=>∃ (x dx a:Addr) (ts:List Addr) (R:List Rl),vs=[.ref x,.ref a]/\H x=some (.ins C dx [])/\IsRules H a ts R/\Raw R/\
 (o0 R=none->(misR (gR R) R).head?=none->∀ j ll ml md L M H',H j=none->H ll=none->H ml=none->H md=none->SameBut x H H'->IsOrd C H' x j ll ml md (gR R) R L M->Q .non H')/\
 (∀ p,o0 R=some p->∀ dx' H',SameBut x H H'->H' dx'=some (.xd [("piece",.str p)])->E (.ref CC) (some dx') H')/\
 (∀ p,o0 R=none->(misR (gR R) R).head?=some p->∀ dx' H',SameBut x H H'->H' dx'=some (.xd [("piece",.str p)])->E (.ref CN) (some dx') H')/\
 (o0 R=none->(misR (gR R) R).head?=none->∀ w:Str,(w="row"\/(w="marks"/\∃ L,W9 R "row" L))->∀ (dx' l:Addr) (g:List Str) (H':Hp),SameBut x H H'->H' dx'=some (.xd [("pieces",.ref l)])->H' l=some (.lst (g.map V.str))->Least (edges (rowsW R w)) g->E (.ref CR) (some dx') H')
theorem aom{α β:Type}(f:α->β)(xs:List α)(i:Int):J5 (xs.map f) i=(J5 xs i).map f:=by
 unfold J5;rw [A3]
 cases l6 xs.length i with
 | none=>rfl
 | some j=>
  show (xs.map f)[j]?=(xs[j]?).map f;rw [P1]
noncomputable def stpN (ns:List Int):Int:=((J5 [1,2,4,5,7,8,10,11,13,23,44,91] (cellF ns 1 % 12)).getD 0:Int)
noncomputable def sgnF (ns:List Int) (k:Int):Nat:=(J5 SG ((cellF ns 0+k*stpN ns) % 93)).getD 33
noncomputable def pR (K:PySem.W.Frag):Sp:=fun vs H Q _=>∃ (a:Addr) (ns:List Int) (k:Int),vs=[.ref a,.int k]/\D6 K H a (ns.map V.int)/\0<=k/\∀ H',Same H H'->Q (.str (one (sgnF ns k))) H'
theorem aon(ns:List Int):J5 ([1,2,4,5,7,8,10,11,13,23,44,91]:List Int) (cellF ns 1 % 12)=some (stpN ns)/\0<=stpN ns/\stpN ns<=91:=by
 obtain ⟨v,h1,h2⟩:=oF (xs:=([1,2,4,5,7,8,10,11,13,23,44,91]:List Int)) (i:=cellF ns 1 % 12) 'b' (by simp only [G8,T8];lia);unfold stpN;rw [h1];exact ⟨rfl,(show ∀ s∈([1,2,4,5,7,8,10,11,13,23,44,91]:List Int),0<=s/\s<=91 by decide) v h2⟩
theorem akc(ns:List Int)(k:Int):J5 SG ((cellF ns 0+k*stpN ns) % 93)=some (sgnF ns k)/\signB (sgnF ns k)=true:=by
 obtain ⟨c,h1,h2⟩:=SS_at (i:=(cellF ns 0+k*stpN ns) % 93) 'b' 'b';rw [SS_eq] at h1;unfold sgnF;rw [h1];exact ⟨rfl,h2⟩
theorem al6(ns:List Int):stpN ns∈([1,2,4,5,7,8,10,11,13,23,44,91]:List Int):=by
 obtain ⟨v,h1,h2⟩:=oF (xs:=([1,2,4,5,7,8,10,11,13,23,44,91]:List Int)) (i:=cellF ns 1 % 12) 'b' (by simp only [G8,T8];lia);unfold stpN;rw [h1];exact h2
theorem al7:∀ s∈([1,2,4,5,7,8,10,11,13,23,44,91]:List Int),∃ t∈(U0 93).map Int.ofNat,s*t % 93=1:=by decide +kernel
theorem SG_nd:SG.Nodup:=by decide +kernel
theorem sG:SG.length=93:=by decide +kernel
theorem aoo{k l:Int}(h0:0<=k)(h1:k<93)(h2:0<=l)(h3:l<93)(h:sgnF ns k=sgnF ns l):k=l:=by
 have hl:((SG.length:Nat):Int)=93:=by rw [sG];rfl
 have e:=aqS SG_nd (i:=(cellF ns 0+k*stpN ns) % 93) (j:=(cellF ns 0+l*stpN ns) % 93) 'b' 'b' 'b' 'b' h;obtain ⟨t,_,ht⟩:=al7 _ (al6 ns);exact aia ht e h0 h1 h2 h3
noncomputable def sgP (ns:List Int) (k:Int):Str:=one (sgnF ns k)
theorem bI : ∀ bs:List Bool,DnAll K H (bs.map V.bl) (bs.map aX)
 | []=>.nil
 | b::bs=>.cons (.bl b) (bI bs)
theorem forEs{l:Addr}{Y:L2.St}(Pv:Nat->L2.St->Hp->Prop)(h0:Pv 0 Y H)(hl:∀ i Y H,Pv i Y H->H l=some (.lst xs))(hs:∀ (P':Nat->L2.St->Hp->Prop) (B':L2.St->Hp->Prop),(∀ i Y H,Pv i Y H->P' i Y H)->∀ i x t Y H,xs[i]?=some x->Pv i Y H->H t=none->g (.ref t) Y (A0 H t (.tup [.int i,x])) fun σ2 H2=>tb { D with nx:=P' (i+1),ct:=P' (i+1),bk:=B' } σ2 H2)(hd:∀ Y H,Pv xs.length Y H->D.nx Y H):ForIt (iH l) g tb D Y H:=forE Pv h0 hl (hs Pv _ fun _ _ _ h=>h) hd
theorem IsRound.step{g:List Str}(r:IsRound E g)(i:Nat)(hi:i<g.length):∃ x y,J5 (g.map V.str) (0+(i:Int)-1)=some (V.str x)/\J5 (g.map V.str) (0+(i:Int))=some (V.str y)/\(x,y)∈E:=by
 have hy:g[i]?=some g[i]:=E9 hi;have ay:J5 (g.map V.str) (0+(i:Int))=some (V.str g[i]):=by
  rw [Int.zero_add];exact t5 (by rw [P1,hy];rfl)
 cases i with
 | zero=>
  refine ⟨g.getLast r.ne,g[0],?_,ay,r.back _ _ (qX r.ne) (by rw [gC];exact hy)⟩;have e:g.map V.str=g.dropLast.map V.str++[V.str (g.getLast r.ne)]:=by
   conv=>lhs;rw [<- List.dropLast_concat_getLast r.ne]
   rw [E2];rfl
  rw [e];exact zM _ _
 | succ i=>
  have hx:g[i]?=some (g[i]'(by lia)):=E9 'b';refine ⟨_,_,?_,ay,r.go i _ _ hx hy⟩;rw [show 0+((i+1:Nat):Int)-1=((i:Nat):Int) by lia];exact t5 (by rw [P1,hx];rfl)
noncomputable def Pc (p:Str):Prop:=X1 p/\p≠" "
theorem pc_of{p:Str}(h:kL p=true):Pc p:=by
 obtain ⟨h1,h2,h3⟩:=ai3 h;refine ⟨⟨by lia,h1⟩,fun e=>?_⟩;rw [e] at h;exact absurd h 'e'
structure RL(z:Rl):Prop where
 w:z.1∈(["row", "marks", "great", "as", "over", "behind", "blanks", "forget", "figures"]:List Str)
 l:z.2.length<=3
 p:∀ p∈z.2,Pc p
 a:z.1=("as" : Str)\/z.1=("great" : Str)->z.2≠[]
 f:z.1=("figures" : Str)->z.2=[]
theorem RL.of{w:Str}(hw:w="row"\/w="marks"\/w="great"\/w="as"\/w="over")(h0:ps≠[])(hl:ps.length<=3)(hp:∀ p∈ps,Pc p):RL (w,ps):=
 ⟨by simp only [F9];rcases hw with h | h | h | h | h <;> simp [h],hl,hp,fun _=>h0,fun e=>by
  have e:w="figures":=e;rw [e] at hw;exact absurd hw 'e'⟩
theorem afY(z:Rl):(K2 z).length<=z.2.length:=by
 unfold K2
 split
 .rw [f7];lia
 split
 .rw [K6];lia
 split
 .exact C3 _
 .exact J0 _
theorem ard(hz:∀ z∈R,RL z)(hl:R.length<=50):Raw R:=by
 have len:∀ {f:Rl->List 'h'},(∀ z,(f z).length<=z.2.length)->(R.flatMap f).length<=3*R.length:=fun {f} hf=>by
  clear hl
  induction R with
  | nil=>exact J0 _
  | cons z R ih=>
   rw [cI,D4,G8];have h1:=hf z;have h2:=(hz z K5).l;have h3:=ih fun z' h'=>hz z' (L8 _ h')
   lia
 have rows:∀ w:Str,(rowsW R w).flatten.length<=3*R.length:=fun w=>by
  clear hl len
  induction R with
  | nil=>exact J0 _
  | cons z R ih=>
   have h2:=(hz z K5).l;have h3:=ih fun z' h'=>hz z' (L8 _ h')
   unfold rowsW at h3 ⊢
   rw [List.filter_cons,G8]
   split
   .rw [J3,cH,D4];lia
   .lia
 have pl:(A9 R).length<=3*R.length:=len fun z=>by rw [A3];exact afY z
 have r1:=rows "row";have r2:=rows "marks";refine ⟨by lia,by lia,fun hb=>?_,fun z h=>D5 (hz z h).l 'g',fun z h p hp=>((hz z h).p p hp).1,fun z h=>(hz z h).a,by lia,by lia⟩;obtain ⟨e,he,e1⟩:=D0.mp hb;obtain ⟨z,h,hp⟩:=ahI he;exact ((hz z h).p _ hp).2 e1
noncomputable def C6 (ns:List Int) (i:Nat):Str:=sgP ns (i:Int)
theorem pS(hi:i<93)(hj:j<93)(h:C6 ns i=C6 ns j):i=j:=by
 have e:[sgnF ns (i:Int)]=[sgnF ns (j:Int)]:=congrArg (fun z:Str=>z.cps.toList) h
 have:=aoo 'b' 'b' 'b' 'b' (List.singleton_inj.mp e)
 lia
theorem pc_sg(ns:List Int)(i:Nat):Pc (C6 ns i):=pc_of (by
 show kL (one (sgnF ns (i:Int)))=true;simp [kL,one,(akc ns (i:Int)).2,Str.length])
inductive RM (ns:List Int) (n:Nat):Rl->Prop
 | row (is:List Nat):is≠[]->is.length<=3->(∀ i∈is,i<7)->RM ns n (("row" : Str),is.map (C6 ns))
 | marks (is:List Nat):is≠[]->is.length<=3->(∀ i∈is,7<=i/\i<10)->RM ns n (("marks" : Str),is.map (C6 ns))
 | great:RM ns n (("great" : Str),[C6 ns 0,C6 ns (20+n)])
structure Bs(ns:List Int)(B:List Rl):Prop where
 at_:∀ i z,B[i]?=some z->RM ns i z
 len:B.length<=40
theorem Bs.nil(ns:List Int):Bs ns []:=⟨fun i z h=>by simp at h,by simp⟩
theorem Bs.snoc(h:Bs ns B){z:Rl}(hz:RM ns B.length z)(hl:B.length<40):Bs ns (B++[z]):=by
 refine ⟨fun i y e=>?_,by rw [D4];simp;lia⟩
 by_cases hi:i<B.length
 .rw [jV hi] at e;exact h.at_ i y e
 .rw [jU 'b'] at e
  have:i-B.length=0:=by
   have:=(F8.mp e).1
   simp at this;lia
  rw [this] at e;simp at e;rw [<- e,show i=B.length by lia];exact hz
noncomputable def row0 (ns:List Int):Rl:=(("row" : Str),[C6 ns 0])
noncomputable def Z6 (ns:List Int):Rl:=(("as" : Str),[C6 ns 12,C6 ns 13])
noncomputable def overR (ns:List Int):Rl:=(("over" : Str),[C6 ns 0])
structure Dw(ns:List Int)(a o:Bool)(R:List Rl):Prop where
 ex:∃ B,Bs ns B/\R.Perm ((B++[row0 ns])++((if a then [Z6 ns] else [])++if o then [overR ns] else []))
theorem iX{z:Rl}(h:RM ns n z):(∃ is:List Nat,z.1="row"/\K2 z=is.map (C6 ns)/\z.2=is.map (C6 ns)/\is.length<=3/\is≠[]/\∀ i∈is,i<7)\/(∃ is:List Nat,z.1="marks"/\K2 z=is.map (C6 ns)/\z.2=is.map (C6 ns)/\is.length<=3/\is≠[]/\∀ i∈is,7<=i/\i<10)\/(z=(("great" : Str),[C6 ns 0,C6 ns (20+n)])/\K2 z=[C6 ns (20+n)]):=by
 cases h with
 | row is h0 h1 h2=>exact .inl ⟨is,rfl,rfl,rfl,h1,h0,h2⟩
 | marks is h0 h1 h2=>exact .inr (.inl ⟨is,rfl,rfl,rfl,h1,h0,h2⟩)
 | great=>exact .inr (.inr ⟨rfl,rfl⟩)
noncomputable def jb (i:Nat):Str:=if i<7 then "letter" else if i<10 then "mark" else if i<20 then "as" else "great"
theorem Bs.mem(h:Bs ns B){z:Rl}(hz:z∈B):∃ n,n<40/\RM ns n z:=by
 obtain ⟨i,hi,e⟩:=List.getElem_of_mem hz;exact ⟨i,Q6 hi h.len,h.at_ i z (by rw [E9 hi,e])⟩
theorem pair_rule{e:Str×Str} : e∈A9 R↔∃ z∈R,∃ p∈K2 z,e=(p,jobD z.1):=by
 unfold A9;rw [U7]
 constructor
 .rintro ⟨z,hz,h⟩;obtain ⟨p,hp,e⟩:=D0.mp h;exact ⟨z,hz,p,hp,e.symm⟩
 .rintro ⟨z,hz,p,hp,e⟩;exact ⟨z,hz,D0.mpr ⟨p,hp,e.symm⟩⟩
theorem Bs.pairs(h:Bs ns B){e:Str×Str}(he:e∈A9 B):∃ i,i<60/\i≠13/\e=(C6 ns i,jb i):=by
 obtain ⟨z,hz,p,hp,rfl⟩:=pair_rule.mp he;obtain ⟨n,hn,hr⟩:=h.mem hz
 rcases iX hr with ⟨is,h1,h2,_,_,_,h3⟩ | ⟨is,h1,h2,_,_,_,h3⟩ | ⟨h1,h2⟩
 .rw [h2] at hp;obtain ⟨i,hi,rfl⟩:=D0.mp hp
  have:=h3 i hi
  exact ⟨i,by lia,by lia,by rw [h1];unfold jb;rw [if_pos this];rfl⟩
 .rw [h2] at hp;obtain ⟨i,hi,rfl⟩:=D0.mp hp
  have:=h3 i hi
  exact ⟨i,by lia,by lia,by rw [h1];unfold jb;rw [if_neg 'b',if_pos this.2];rfl⟩
 .rw [h2] at hp;rw [D3.mp hp,h1];exact ⟨20+n,by lia,by lia,by unfold jb;rw [if_neg 'b',if_neg 'b',if_neg 'b'];rfl⟩
theorem pT{A:List Rl}(h:A.Perm B):(A9 A).Perm (A9 B):=h.flatMap_right _
theorem n6(A B:List Rl):A9 (A++B)=A9 A++A9 B:=by unfold A9;rw [e9]
theorem Dw.pairs{a:Bool}(h:Dw ns a o R){e:Str×Str}(he:e∈A9 R):(∃ i,i<60/\i≠13/\e=(C6 ns i,jb i))\/(o=true/\e=(C6 ns 0,("over" : Str))):=by
 obtain ⟨B,hB,hp⟩:=h.ex;have he:=(pT hp).mem_iff.mp he;rw [n6,n6,n6] at he
 rcases D8.mp he with he | he
 .rcases D8.mp he with he | he
  .exact .inl (hB.pairs he)
  .have h2:A9 [row0 ns]=[(C6 ns 0,("letter" : Str))]:=rfl;rw [h2] at he
   have:=D3.mp he
   exact .inl ⟨0,by lia,by lia,this⟩
 .rcases D8.mp he with he | he
  .cases a
   .simp [A9] at he
   .have:e=(C6 ns 12,("as" : Str)):=by
     rw [if_pos rfl] at he;have h2:A9 [Z6 ns]=[(C6 ns 12,("as" : Str))]:=by unfold A9 Z6;rfl
     rw [h2] at he;exact D3.mp he
    exact .inl ⟨12,by lia,by lia,this⟩
  .cases o
   .simp [A9] at he
   .have:e=(C6 ns 0,("over" : Str)):=by
     rw [if_pos rfl] at he;have h2:A9 [overR ns]=[(C6 ns 0,("over" : Str))]:=by unfold A9 overR;rfl
     rw [h2] at he;exact D3.mp he
    exact .inr ⟨rfl,this⟩
noncomputable def onceL (PL:List 'h'):List Str:=(PL.filter fun e=>!decide (e.2∈W8)).map (·.1)
theorem lH(A B:List 'h'):onceL (A++B)=onceL A++onceL B:=by unfold onceL;rw [f6,E2]
theorem akd{A B:List 'h'}(h:A.Perm B):(onceL A).Perm (onceL B):=(h.filter _).map _
theorem Bs.once : ∀ {B:List Rl},Bs ns B->(onceL (A9 B)).Nodup/\∀ p∈onceL (A9 B),∃ n,n<B.length/\p=C6 ns (20+n):=by
 suffices ∀ n (B:List Rl),B.length=n->Bs ns B->(onceL (A9 B)).Nodup/\∀ p∈onceL (A9 B),∃ n,n<B.length/\p=C6 ns (20+n) from fun {B}=>this _ B rfl
 intro n
 induction n with
 | zero=>intro B hl _;rw [nJ.mp hl];exact ⟨.nil,fun p hp=>by simp [onceL,A9] at hp⟩
 | succ n ih=>
  intro B hl h;obtain ⟨z,hz⟩:∃ z,B[n]?=some z:=⟨_,E9 'b'⟩
  have e:B=B.take n++[z]:=by rw [<- J9 hz,<- hl,J7]
  have C7:(B.take n).length=n:=by rw [K6];lia
  have hB:Bs ns (B.take n):=⟨fun i y q=>h.at_ i y (by
   have hi:=(F8.mp q).1;rw [List.getElem?_take_of_lt 'b'] at q;exact q),by have:=h.len;lia⟩
  obtain ⟨i1,i2⟩:=ih _ C7 hB;have hzR:=h.at_ n z hz;have hl40:=h.len;have key:onceL (A9 [z])=[]\/onceL (A9 [z])=[C6 ns (20+n)]:=by
   have e1:A9 [z]=(K2 z).map fun p=>(p,jobD z.1):=by unfold A9;simp
   rw [e1]
   rcases iX hzR with ⟨is,h1,h2,_⟩ | ⟨is,h1,h2,_⟩ | ⟨h1,h2⟩
   .left;unfold onceL;rw [h1];rw [cF.mpr];rfl
    intro x hx;obtain ⟨p,_,rfl⟩:=D0.mp hx;show ¬ (!decide (jobD "row"∈W8))=true;decide +kernel
   .left;unfold onceL;rw [h1];rw [cF.mpr];rfl
    intro x hx;obtain ⟨p,_,rfl⟩:=D0.mp hx;show ¬ (!decide (jobD "marks"∈W8))=true;decide +kernel
   .right;rw [h2,h1];unfold onceL
    show List.map _ (List.filter _ [(C6 ns (20+n),jobD "great")])=_;rw [p0 (by show (!decide (jobD "great"∈W8))=true;decide +kernel)];rfl
  rw [e,n6,lH]
  rcases key with k | k <;> rw [k]
  .rw [K7];exact ⟨i1,fun p hp=>by obtain ⟨m,hm,q⟩:=i2 p hp;exact ⟨m,by rw [D4];lia,q⟩⟩
  .refine ⟨?_,fun p hp=>?_⟩
   .rw [X8];refine ⟨i1,by simp,fun x hx y hy q=>?_⟩;rw [D3.mp hy] at q;obtain ⟨m,hm,q2⟩:=i2 x hx
    have:=pS 'b' 'b' (q2.symm.trans q)
    lia
   .rcases D8.mp hp with hp | hp
    .obtain ⟨m,hm,q⟩:=i2 p hp;exact ⟨m,by rw [D4];lia,q⟩
    .exact ⟨n,by rw [D4,C7];simp,D3.mp hp⟩
theorem Dw.once{a:Bool}(h:Dw ns a o R):(onceL (A9 R)).Nodup:=by
 obtain ⟨B,hB,hp⟩:=h.ex;refine ((akd (pT hp)).nodup_iff).mpr ?_;rw [n6,n6,n6,lH,lH,lH];have e1:onceL (A9 [row0 ns])=[]:=by
  have:A9 [row0 ns]=[(C6 ns 0,("letter" : Str))]:=rfl
  rw [this];unfold onceL;rw [p5 (by show ¬ (!decide (("letter" : Str)∈W8))=true;decide +kernel)];rfl
 have e2:onceL (A9 (if o then [overR ns] else []))=[]:=by
  cases o
  .rfl
  .have:A9 (if true=true then [overR ns] else [])=[(C6 ns 0,("over" : Str))]:=rfl
   rw [this];unfold onceL;rw [p5 (by show ¬ (!decide (("over" : Str)∈W8))=true;decide +kernel)];rfl
 rw [e1,e2,K7,K7];obtain ⟨b1,b2⟩:=hB.once
 have:=hB.len
 cases a
 .simpa [A9,onceL] using b1
 .have e3:onceL (A9 (if true=true then [Z6 ns] else []))=[C6 ns 12]:=by
   have:A9 (if true=true then [Z6 ns] else [])=[(C6 ns 12,("as" : Str))]:=rfl
   rw [this];unfold onceL;rw [p0 (by show (!decide (("as" : Str)∈W8))=true;decide +kernel)];rfl
  rw [e3,X8];refine ⟨b1,by simp,fun x hx y hy q=>?_⟩;rw [D3.mp hy] at q;obtain ⟨m,hm,q2⟩:=b2 x hx
  have:=pS 'b' 'b' (q2.symm.trans q)
  lia
theorem af8{fg:Bool} : ∀ {xs pre:List 'h'} {q:Str},clGo fg pre xs=some q->∃ ys e zs,xs=ys++e::zs/\U5 fg (keysP (pre++ys)) (job1 (pre++ys)) e.1 e.2=true/\e.1=q
 | [],pre,q,h=>by cases h
 | e::xs,pre,q,h=>by
  unfold clGo at h
  split at h
  .rename_i hb
   exact ⟨[],e,xs,rfl,by rw [K7];exact hb,Option.some.inj h⟩
  .obtain ⟨ys,e',zs,h1,h2,h3⟩:=af8 h;exact ⟨e::ys,e',zs,by rw [h1];rfl,by rw [X9] at h2;exact h2,h3⟩
theorem ake(hn:(onceL PL).Nodup)(h:aA false PL=some q):∃ j j',(q,j)∈PL/\(q,j')∈PL/\j≠j':=by
 obtain ⟨ys,e,zs,h1,h2,rfl⟩:=af8 h;rw [q5] at h2;unfold U5 at h2;simp only [Bool.false_and,Bool.or_false,W4,decide_eq_true_eq,Bool.or_eq_true,cN,decide_eq_false_iff_not] at h2;have hm:=ahG h2.1;have L5:(e.1,job1 ys e.1)∈PL:=by rw [h1];exact O6 _ hm
 have xE:(e.1,e.2)∈PL:=by rw [h1];simp
 by_cases hj:job1 ys e.1=e.2
 .have hna:=h2.2.resolve_left (fun z=>z hj)
  exfalso
  rw [h1,lH,X8] at hn;refine hn.2.2 e.1 ?_ e.1 ?_ rfl
  .exact D0.mpr ⟨(e.1,job1 ys e.1),N1.mpr ⟨hm,by simpa [hj] using hna⟩,rfl⟩
  .exact D0.mpr ⟨e,N1.mpr ⟨K5,by simpa using hna⟩,rfl⟩
 .exact ⟨_,_,L5,xE,hj⟩
theorem Dw.nofig{a:Bool}(h:Dw ns a o R){w:Str}(hw:w≠"row"/\w≠"marks"/\w≠"great"/\w≠"as"/\w≠"over"):hasW R w=false:=by
 obtain ⟨B,hB,hp⟩:=h.ex;unfold hasW;rw [List.any_eq_false];intro z hz;rw [decide_eq_true_iff];intro e
 rcases D8.mp (hp.mem_iff.mp hz) with hz | hz
 .rcases D8.mp hz with hz | hz
  .obtain ⟨n,_,hr⟩:=hB.mem hz
   rcases iX hr with ⟨is,h1,_⟩ | ⟨is,h1,_⟩ | ⟨h1,_⟩
   .exact hw.1 (e.symm.trans h1)
   .exact hw.2.1 (e.symm.trans h1)
   .rw [h1] at e;exact hw.2.2.1 e.symm
  .rw [D3.mp hz] at e;exact hw.1 e.symm
 .rcases D8.mp hz with hz | hz
  .cases a
   .simp at hz
   .rw [if_pos rfl] at hz;rw [D3.mp hz] at e;exact hw.2.2.2.1 e.symm
  .cases o
   .simp at hz
   .rw [if_pos rfl] at hz;rw [D3.mp hz] at e;exact hw.2.2.2.2 e.symm
theorem Dw.fg{a:Bool}(h:Dw ns a o R):hasW R "figures"=false:=h.nofig 'e'
theorem Dw.let0{a:Bool}(h:Dw ns a o R):(C6 ns 0,("letter" : Str))∈A9 R:=by
 obtain ⟨B,hB,hp⟩:=h.ex;refine (pT hp).mem_iff.mpr ?_;rw [n6,n6];exact O6 _ (O5 _ (D3.mpr rfl))
theorem Dw.clash{a:Bool}(h:Dw ns a o R)(hl:∀ e∈A9 R,e.1.length<=1000):o0 R=if o then some (C6 ns 0) else none:=by
 unfold o0;rw [h.fg];cases hc:aA false (A9 R) with
 | some q=>
  obtain ⟨j,j',h1,h2,h3⟩:=ake h.once hc;have hq:∀ {x y:Nat},x<60->y<60->q=C6 ns x->q=C6 ns y->x=y:=fun hx hy e1 e2=>pS 'b' 'b' (e1.symm.trans e2)
  rcases h.pairs h1 with ⟨x,hx,_,e1⟩ | ⟨ho,e1⟩
  .rcases h.pairs h2 with ⟨y,hy,_,e2⟩ | ⟨ho,e2⟩
   .exfalso
    have a1:=congrArg Prod.fst e1;have a2:=congrArg Prod.snd e1;have b1:=congrArg Prod.fst e2;have b2:=congrArg Prod.snd e2;simp only at a1 a2 b1 b2;have e:=hq hx hy a1 b1;exact h3 (by rw [a2,b2,e])
   .rw [ho,if_pos rfl,show q=C6 ns 0 from congrArg Prod.fst e2]
  .rw [ho,if_pos rfl,show q=C6 ns 0 from congrArg Prod.fst e1]
 | none=>
  cases o with
  | false=>rfl
  | true=>
   exfalso
   have nc:=vL hc hl;have h1:=eV nc h.let0;have h2:=eV nc (show (C6 ns 0,("over" : Str))∈A9 R by
    obtain ⟨B,hB,hp⟩:=h.ex;refine (pT hp).mem_iff.mpr ?_;rw [n6,n6 (if a=true then [Z6 ns] else [])];exact O5 _ (O5 _ (D3.mpr rfl)))
   rw [h1] at h2;exact absurd h2 'e'
theorem Dw.rl{a:Bool}(h:Dw ns a o R):∀ z∈R,RL z:=by
 obtain ⟨B,hB,hp⟩:=h.ex;have one:∀ {w:Str} {is:List Nat},(w="row"\/w="marks"\/w="great"\/w="as"\/w="over")->is≠[]->is.length<=3->RL (w,is.map (C6 ns)):=fun hw h0 h1=>RL.of hw (fun e=>h0 (aP.mp e)) (by rw [A3];exact h1) fun p hp=>by
  obtain ⟨i,_,rfl⟩:=D0.mp hp;exact pc_sg ns i
 intro z hz
 rcases D8.mp (hp.mem_iff.mp hz) with hz | hz
 .rcases D8.mp hz with hz | hz
  .obtain ⟨n,_,hr⟩:=hB.mem hz;cases hr with
   | row is h0 h1 h2=>exact one 'c' h0 h1
   | marks is h0 h1 h2=>exact one 'c' h0 h1
   | great=>exact one (w:="great") (is:=[0,20+n]) 'c' 'c' 'c'
  .rw [D3.mp hz];exact one (w:="row") (is:=[0]) 'c' 'c' 'c'
 .rcases D8.mp hz with hz | hz
  .cases a
   .simp at hz
   .rw [if_pos rfl] at hz;rw [D3.mp hz];exact one (w:="as") (is:=[12,13]) 'c' 'c' 'c'
  .cases o
   .simp at hz
   .rw [if_pos rfl] at hz;rw [D3.mp hz];exact one (w:="over") (is:=[0]) 'c' 'c' 'c'
theorem Dw.len{a:Bool}(h:Dw ns a o R):R.length<=50:=by
 obtain ⟨B,hB,hp⟩:=h.ex
 have:=hB.len
 rw [hp.length_eq,D4,D4,D4];have h1:(if a=true then [Z6 ns] else []).length<=1:=by cases a <;> simp
 have h2:(if o=true then [overR ns] else []).length<=1:=by cases o <;> simp
 simp only [G8,T8];lia
theorem Dw.raw{a:Bool}(h:Dw ns a o R):Raw R:=ard h.rl h.len
theorem Dw.cl{a:Bool}(h:Dw ns a o R):o0 R=if o then some (C6 ns 0) else none:=h.clash fun e he=>(h.raw.short e he).1
theorem w_rg:¬ (("row" : Str)="great"):=by decide +kernel
theorem w_ra:¬ (("row" : Str)="as"):=by decide +kernel
theorem w_ag:¬ (("as" : Str)="great"):=by decide +kernel
theorem w_ar:¬ (("as" : Str)="row"):=by decide +kernel
theorem w_am:¬ (("as" : Str)="marks"):=by decide +kernel
theorem w_rm:¬ (("row" : Str)="marks"):=by decide +kernel
theorem w_gr:¬ (("great" : Str)="row"):=by decide +kernel
theorem w_gm:¬ (("great" : Str)="marks"):=by decide +kernel
theorem Dw.mis{a:Bool}(h:Dw ns a false R):(misR (gR R) R).head?=if a then some (C6 ns 13) else none:=by
 have hc:aA (hasW R "figures") (A9 R)=none:=h.cl;have nc:=vL hc fun e he=>(h.raw.short e he).1
 have hb:T0 R=[]:=by unfold T0;rw [h.nofig 'e'];rfl
 have l0:V2 (keysP (A9 R)++T0 R) (jobG (gR R)) (C6 ns 0)=false:=by
  unfold V2 jobV;rw [if_pos (O6 _ ((eT _ _).mpr (D0.mpr ⟨_,h.let0,rfl⟩)))];unfold jobG;rw [if_neg (pc_sg ns 0).2,show gR R (C6 ns 0)="letter" from eV nc h.let0];rfl
 have l13:V2 (keysP (A9 R)++T0 R) (jobG (gR R)) (C6 ns 13)=true:=by
  unfold V2 jobV;rw [hb,K7,if_neg]
  .rfl
  .intro z;obtain ⟨e,he,e1⟩:=D0.mp ((eT _ _).mp z)
   rcases h.pairs he with ⟨i,hi,h13,e2⟩ | ⟨ho,_⟩
   .rw [e2] at e1;exact h13 (pS 'b' 'b' e1)
   .cases ho
 unfold misR;obtain ⟨B,hB,hp⟩:=h.ex;have hf:=hp.flatMap_right (misL (keysP (A9 R)++T0 R) (jobG (gR R)));generalize hks:keysP (A9 R)++T0 R=ks at l0 l13 hf;generalize jobG (gR R)=g at l0 l13 hf;have m0:(B++[row0 ns]).flatMap (misL ks g)=[]:=List.flatMap_eq_nil_iff.mpr fun z hz=>by
  rcases D8.mp hz with hz | hz
  .obtain ⟨n,_,hr⟩:=hB.mem hz
   rcases iX hr with ⟨is,h1,_⟩ | ⟨is,h1,_⟩ | ⟨h1,_⟩
   .unfold misL;rw [h1,if_neg 'e',if_neg 'e']
   .unfold misL;rw [h1,if_neg 'e',if_neg 'e']
   .rw [h1];unfold misL;rw [if_pos rfl];show List.filter (V2 ks g) [C6 ns 0]=[];rw [p5 (by rw [l0];decide)];rfl
  .rw [D3.mp hz];unfold misL row0;rw [if_neg w_rg,if_neg w_ra]
 rw [e9,m0,q5,if_neg K4,K7] at hf
 cases a with
 | false=>rw [List.Perm.eq_nil hf];rfl
 | true=>
  have m1:[Z6 ns].flatMap (misL ks g)=[C6 ns 13]:=by
   show misL ks g (Z6 ns)++[]=_;unfold misL Z6;rw [if_neg w_ag,if_pos rfl];show List.filter (V2 ks g) [C6 ns 13]++_++_=_;rw [p0 l13];rfl
  rw [if_pos rfl,m1] at hf;rw [List.perm_singleton.mp hf];rfl
noncomputable def pruE (E:List 'h'):List 'h':=E.filter fun e=>decide (e.1∈E.map (·.2))
noncomputable def pruN (E:List 'h'):Nat->List 'h'
 | 0=>E
 | n+1=>pruE (pruN E n)
theorem pU : ∀ {n:Nat} {e:Str×Str},e∈pruN E n->e∈E
 | 0,_,h=>h
 | n+1,_,h=>pU (N1.mp h).1
theorem akf : ∀ n:Nat,(pruN E n).length<=E.length
 | 0=>C3 _
 | n+1=>D5 (eB _ _) (akf n)
theorem ahK{r:Str->Nat}(hr:∀ e∈E,r e.1<r e.2):∀ {n:Nat} {e:Str×Str},e∈pruN E n->n<=r e.1
 | 0,_,_=>J0 _
 | n+1,e,h=>by
  obtain ⟨h1,h2⟩:=N1.mp h;obtain ⟨c,hc,e1⟩:=D0.mp (of_decide_eq_true h2);have a:=ahK hr (n:=n) hc;have b:=hr c (pU hc);rw [e1] at b;lia
theorem vQ{g:List Str}(h:∀ x∈g,∃ y∈g,(y,x)∈E):∀ {n:Nat} {a b:Str},a∈g->b∈g->(a,b)∈E->(a,b)∈pruN E n
 | 0,_,_,_,_,he=>he
 | n+1,a,b,ha,hb,he=>by
  refine N1.mpr ⟨vQ h ha hb he,?_⟩;obtain ⟨y,hy,mM⟩:=h a ha;rw [decide_eq_true_iff];exact D0.mpr ⟨_,vQ h hy ha mM,rfl⟩
noncomputable def o3 (acc:List 'h') (e:Str×Str):List 'h':=if e∈acc then acc else acc++[e]
noncomputable def ddPs (acc:List 'h') (es:List 'h'):List 'h':=es.foldl o3 acc
theorem aop{acc:List 'h'}{e x:Str×Str} : x∈o3 acc e↔x∈acc\/x=e:=by
 unfold o3
 by_cases h:e∈acc
 .rw [if_pos h];exact ⟨.inl,fun q=>q.elim id fun q=>q ▸ h⟩
 .rw [if_neg h];simp
theorem ddPs_mem{es:List 'h'} : ∀ {acc:List 'h'} {x:Str×Str},x∈ddPs acc es↔x∈acc\/x∈es:=by
 induction es with
 | nil=>intro acc x;simp [ddPs]
 | cons e es ih=>
  intro acc x;show x∈ddPs (o3 acc e) es↔_;rw [ih,aop,F9,or_assoc]
theorem ahL{es:List 'h'} : ∀ {acc:List 'h'},(ddPs acc es).length<=acc.length+es.length:=by
 induction es with
 | nil=>intro acc;exact C3 _
 | cons e es ih=>
  intro acc;have h1:=ih (acc:=o3 acc e);have h2:(o3 acc e).length<=acc.length+1:=by
   unfold o3
   split
   .lia
   .rw [D4];simp
  show (ddPs (o3 acc e) es).length<=_;rw [G8];lia
noncomputable def X2 (zss:List (List Str)):List 'h':=ddPs [] (edges zss)
noncomputable def dF (zss:List (List Str)):Bool:=!(pruN (X2 zss) 8).isEmpty
theorem goE_mem{e:Str×Str} : e∈X2 zss↔e∈edges zss:=by unfold X2;rw [ddPs_mem];simp
theorem amv{g:List Str}(h:IsRound (edges zss) g):dF zss=true:=by
 obtain ⟨x,hx⟩:=nH _ h.ne;obtain ⟨y,hy,he⟩:=h.pred hx
 have:=vQ (n:=8) (E:=X2 zss) (g:=g) (fun x hx=>by obtain ⟨y,hy,he⟩:=h.pred hx;exact ⟨y,hy,goE_mem.mpr he⟩) hy hx (goE_mem.mpr he)
 unfold dF;cases hq:pruN (X2 zss) 8 with
 | nil=>rw [hq] at this;cases this
 | cons=>rfl
theorem go_no(h1:R1 (edges zss) (toldL zss) L)(h2:∀ p∈toldL zss,p∈L)(hl:L.length<=7):dF zss=false:=by
 unfold dF;cases hq:pruN (X2 zss) 8 with
 | nil=>rfl
 | cons e es=>
  exfalso
  have he:e∈pruN (X2 zss) 8:=by rw [hq];exact K5
  have hr:∀ e∈X2 zss,L.idxOf e.1<L.idxOf e.2:=fun e he=>pP h1 (goE_mem.mp he) (h2 _ (bE (goE_mem.mp he)).2)
  have a:=ahK (r:=fun x=>L.idxOf x) hr he;have a:8<=L.idxOf e.1:=a;have b:=dZ.mpr (h2 _ (bE (goE_mem.mp (pU he))).1);lia
structure Few(ns:List Int)(lo m:Nat)(zss:List (List Str)):Prop where
 mem:∀ zs∈zss,∀ z∈zs,∃ i,i<m/\z=C6 ns (lo+i)
 len:∀ zs∈zss,zs.length<=3
 many:zss.length<=50
theorem Few.line(h:Few ns lo m zss)(hm:m<=7)(hr:R1 (edges zss) (toldL zss) L):L.length<=7:=by
 have:L.length<=((U0 m).map fun i=>C6 ns (lo+i)).length:=vG hr.nodup fun p hp=>by
  obtain ⟨zs,F7,hz⟩:=cJ.mp ((dB _ _).mp (hr.sub hp));obtain ⟨i,hi,e⟩:=h.mem zs F7 p hz;exact D0.mpr ⟨i,aS.mpr hi,e.symm⟩
 rw [A3,gF] at this;lia
theorem Few.flat(h:Few ns lo m zss):zss.flatten.length<=150:=by
 have:∀ l:List (List Str),(∀ zs∈l,zs.length<=3)->l.flatten.length<=3*l.length:=by
  intro l
  induction l with
  | nil=>intro _;exact J0 _
  | cons z l ih=>
   intro q;have h1:=q z K5;have h2:=ih fun y hy=>q y (L8 _ hy)
   rw [cH,D4,G8];lia
 have h1:=this zss h.len
 have:=h.many
 lia
theorem Few.pc(h:Few ns lo m zss):∀ zs∈zss,∀ z∈zs,X1 z:=fun zs F7 z hz=>by
 obtain ⟨i,_,rfl⟩:=h.mem zs F7 z hz;exact (pc_sg ns _).1
theorem Dw.few{a:Bool}(h:Dw ns a false R):Few ns 0 7 (rowsW R "row")/\Few ns 7 3 (rowsW R "marks"):=by
 have hl:∀ w,(rowsW R w).length<=50:=fun w=>by
  unfold rowsW;rw [A3];exact D5 (eB _ _) h.len
 have key:∀ w zs,zs∈rowsW R w->∃ z∈R,z.1=w/\z.2=zs:=fun w zs hz=>by
  unfold rowsW at hz;obtain ⟨z,hz,e⟩:=D0.mp hz;obtain ⟨h1,h2⟩:=N1.mp hz;exact ⟨z,h1,by simpa using h2,e⟩
 obtain ⟨B,hB,hp⟩:=h.ex;have at_:∀ z∈R,(∃ n,n<40/\RM ns n z)\/z=row0 ns\/z=Z6 ns:=fun z hz=>by
  rcases D8.mp (hp.mem_iff.mp hz) with hz | hz
  .rcases D8.mp hz with hz | hz
   .exact .inl (hB.mem hz)
   .exact .inr (.inl (D3.mp hz))
  .rw [if_neg K4,K7] at hz
   cases a
   .cases hz
   .exact .inr (.inr (D3.mp hz))
 refine ⟨⟨fun zs F7 x hx=>?_,fun zs F7=>?_,hl _⟩,⟨fun zs F7 x hx=>?_,fun zs F7=>?_,hl _⟩⟩
 .obtain ⟨z,hz,hw,rfl⟩:=key _ _ F7
  rcases at_ z hz with ⟨n,_,hr⟩ | rfl | rfl
  .rcases iX hr with ⟨is,h1,_,h2,_,_,h3⟩ | ⟨is,h1,_⟩ | ⟨h1,_⟩
   .rw [h2] at hx;obtain ⟨i,hi,rfl⟩:=D0.mp hx;exact ⟨i,h3 i hi,by rw [Nat.zero_add]⟩
   .rw [hw] at h1;exact absurd h1 'e'
   .rw [h1] at hw;exact absurd hw w_gr
  .exact ⟨0,by lia,D3.mp hx⟩
  .exact absurd hw w_ar
 .obtain ⟨z,hz,hw,rfl⟩:=key _ _ F7;exact (h.rl z hz).l
 .obtain ⟨z,hz,hw,rfl⟩:=key _ _ F7
  rcases at_ z hz with ⟨n,_,hr⟩ | rfl | rfl
  .rcases iX hr with ⟨is,h1,_⟩ | ⟨is,h1,_,h2,_,_,h3⟩ | ⟨h1,_⟩
   .rw [hw] at h1;exact absurd h1 'e'
   .rw [h2] at hx;obtain ⟨i,hi,rfl⟩:=D0.mp hx
    have:=h3 i hi
    exact ⟨i-7,by lia,by rw [show 7+(i-7)=i by lia]⟩
   .rw [h1] at hw;exact absurd hw w_gm
  .exact absurd hw w_rm
  .exact absurd hw w_am
 .obtain ⟨z,hz,hw,rfl⟩:=key _ _ F7;exact (h.rl z hz).l
noncomputable def ahM:Sp:=fun vs H Q _=>∃ (c:Int) (m:Nat),vs=[.int c,.int m]/\0<m/\m<=7/\∀ l (is:List Nat) H',H l=none->Same H H'->H' l=some (.lst (is.map fun i:Nat=>V.int (i:Int)))->is≠[]->is.length<=3->(∀ i∈is,i<m)->Q (.ref l) H'
noncomputable def ahN (K:PySem.W.Frag):Sp:=fun vs H Q _=>∃ (r:Addr) (ts:List Addr) (R:List Rl) (w:Str),vs=[.ref r,.str w]/\IsRules H r ts R/\(∀ z∈R,RL z)/\R.length<=50/\∀ l rs H',Same H H'->IsRows H' l rs (rowsW R w)->Q (.ref l) H'
noncomputable def ahO (K:PySem.W.Frag):Sp:=fun vs H Q _=>∃ (a:Addr) (rs:List Addr) (zss:List (List Str)) (x y:Str),vs=[.ref a,.str x,.str y]/\IsRows H a rs zss/\(∀ zs∈zss,zs.length<=1000)/\Q (.bl (decide ((x,y)∈edges zss))) H
theorem vR{c:Int}(hm:0<m):∃ i:Nat,c % (m:Int)=(i:Int)/\i<m:=by
 have h1:=Int.emod_nonneg c (show (m:Int)≠0 by lia);have h2:=Int.emod_lt_of_pos c (show (0:Int)<m by lia);exact ⟨(c % (m:Int)).toNat,by lia,by lia⟩
noncomputable def kI (i:Nat):A7:=Sum.inl (i:Int)
theorem are(is:List Nat):is.map (fun i:Nat=>V.int (i:Int))=(is.map kI).map kV:=by rw [Q5];rfl
theorem al8{is:List Nat} : ∃ ns:List Int,metK (is.map kI)=ns.map Sum.inl/\ns.Nodup/\ns.length<=is.length/\(∀ n∈ns,∃ i∈is,n=(i:Int))/\(is≠[]->ns≠[]):=by
 have hm:∀ k∈metK (is.map kI),∃ i∈is,k=kI i:=fun k hk=>by
  obtain ⟨i,hi,e⟩:=D0.mp (metK_mem.mp hk);exact ⟨i,hi,e.symm⟩
 have nd:=ajO (is.map kI);have hl:(metK (is.map kI)).length<=is.length:=by
  have:=pB (fun i=>(is.map kI).getD i (Sum.inl 0)) (is.map kI).length
  rw [A3] at this;unfold metK;rw [A3];exact this
 obtain ⟨ns,e⟩:∃ ns:List Int,metK (is.map kI)=ns.map Sum.inl:=by
  refine ⟨(metK (is.map kI)).map fun k=>k.elim id fun _=>0,?_⟩;rw [Q5]
  have:∀ k∈metK (is.map kI),(Sum.inl∘fun k:A7=>k.elim id fun _=>0) k=k:=fun k hk=>by
   obtain ⟨i,_,rfl⟩:=hm k hk;rfl
  rw [aQ this];simp
 rw [e] at hm nd hl;rw [A3] at hl;refine ⟨ns,e,?_,hl,fun n hn=>?_,fun h0 h1=>?_⟩
 .rw [W3] at nd ⊢
  rw [gE] at nd;exact nd.imp fun q z=>q (by rw [z])
 .obtain ⟨i,hi,q⟩:=hm _ (D0.mpr ⟨n,hn,rfl⟩);exact ⟨i,hi,Sum.inl.inj q⟩
 .rw [h1] at e;obtain ⟨i,hi⟩:=nH _ h0
  have:kI i∈metK (is.map kI):=metK_mem.mpr (D0.mpr ⟨i,hi,rfl⟩)
  rw [e] at this;cases this
theorem ahP:∀ {ms:List Int},(∀ n∈ms,∃ i:Nat,n=(i:Int))->∃ is:List Nat,ms=is.map fun i:Nat=>(i:Int)
 | [],_=>⟨[],rfl⟩
 | n::ms,h=>by
  obtain ⟨i,rfl⟩:=h n K5;obtain ⟨is,rfl⟩:=ahP fun m hm=>h m (L8 _ hm)
  exact ⟨i::is,rfl⟩
theorem vS(zs:List Str)(h:j+1<zs.length):J5 (zs.map V.str) (1+(j:Int)-1)=some (V.str zs[j]):=by
 rw [show (1+(j:Int)-1)=(j:Int) by lia];exact t5 (j:=j) (by rw [P1,E9 'b'];rfl)
theorem vT(zs:List Str)(h:j+1<zs.length):J5 (zs.map V.str) (1+(j:Int))=some (V.str zs[j+1]):=by
 rw [show (1+(j:Int))=((j+1:Nat):Int) by lia];exact t5 (j:=j+1) (by rw [P1,E9 h];rfl)
noncomputable def V3 (W:List 'h'):List Rl:=W.map fun e=>(e.1,[e.2])
noncomputable def pV (K:PySem.W.Frag):Sp:=fun vs H Q _=>∃ (a:Addr) (rs:List Addr) (zss:List (List Str)),vs=[.ref a]/\IsRows H a rs zss/\zss.flatten.length<=1000/\(∀ zs∈zss,∀ z∈zs,X1 z)/\∀ H',Same H H'->Q (.bl (dF zss)) H'
theorem aoq(E:List 'h')(x y:Str):(((V3 E).map ruleD).any fun e=>Q7 e (ruleD (x,[y])))=decide ((x,y)∈E):=by
 unfold V3;rw [Q5,List.any_map,eG,List.any_eq_true,decide_eq_true_iff];have key:∀ e:Str×Str,Q7 (ruleD (e.1,[e.2])) (ruleD (x,[y]))=decide ([e.1,e.2]=[x,y]):=fun e=>by
  unfold ruleD;exact als _ _
 constructor
 .rintro ⟨e,he,h⟩;have h:Q7 (ruleD (e.1,[e.2])) (ruleD (x,[y]))=true:=h;rw [key,decide_eq_true_iff] at h;simp only [List.cons.injEq,and_true] at h;rw [<- h.1,<- h.2];exact he
 .intro h;refine ⟨_,h,?_⟩;show Q7 (ruleD (x,[y])) (ruleD (x,[y]))=true;exact alr _
theorem akg(h:∀ zs∈zss,∀ z∈zs,X1 z){e:Str×Str}(he:e∈edges zss):∀ y∈[e.1,e.2],P8 y=true:=fun y hy=>by
 obtain ⟨zs,F7,he⟩:=U7.mp he;obtain ⟨a,b⟩:=aez he;simp only [F9,eD,or_false] at hy
 rcases hy with rfl | rfl
 .exact (h zs F7 _ a).2
 .exact (h zs F7 _ b).2
theorem amw(h:∀ zs∈zss,∀ z∈zs,X1 z)(hE:∀ e∈E,e∈edges zss):∀ z∈V3 E,∀ y∈z.1::z.2,P8 y=true:=fun z hz=>by
 obtain ⟨e,he,rfl⟩:=D0.mp hz;exact akg h (hE e he)
theorem arf(E:List 'h'):(!PyData.eqv (.list ((V3 E).map ruleD)) (.list []))=!E.isEmpty:=by
 cases E with
 | nil=>rfl
 | cons e E=>rfl
theorem pW{α β:Type}{F:α->β->Prop} : ∀ {a b:List α} {c d:List β},Paired F a c->Paired F b d->Paired F (a++b) (c++d)
 | _,_,_,_,.nil,h=>h
 | _,_,_,_,.cons h t,h2=>.cons h (pW t h2)
noncomputable def kS (zs:List Str):List A7:=zs.map Sum.inr
theorem kS_kV(zs:List Str):(kS zs).map kV=zs.map V.str:=by unfold kS;rw [Q5];rfl
theorem al9{ks:List A7}(nd:ks.Nodup):(metK ks).Perm ks:=pG nd (fun x hx=>metK_mem.mpr hx) (pB _ _)
theorem ama(zs:List Str):∃ ss:List Str,metK (kS zs)=ss.map Sum.inr/\ss.Nodup/\∀ s,s∈ss↔s∈zs:=by
 have hm:∀ k∈metK (kS zs),∃ z∈zs,k=Sum.inr z:=fun k hk=>by
  obtain ⟨z,hz,e⟩:=D0.mp (metK_mem.mp hk);exact ⟨z,hz,e.symm⟩
 have nd:=ajO (kS zs);obtain ⟨ss,e⟩:∃ ss:List Str,metK (kS zs)=ss.map Sum.inr:=by
  refine ⟨(metK (kS zs)).map fun k=>k.elim (fun _=>Str.ofString "") id,?_⟩;rw [Q5]
  have:∀ k∈metK (kS zs),(Sum.inr∘fun k:A7=>k.elim (fun _=>Str.ofString "") id) k=k:=fun k hk=>by
   obtain ⟨z,_,rfl⟩:=hm k hk;rfl
  rw [aQ this];simp
 refine ⟨ss,e,?_,fun s=>?_⟩
 .rw [e,W3,gE] at nd;rw [W3];exact nd.imp fun q z=>q (by rw [z])
 .have h1:s∈ss↔(Sum.inr s:A7)∈metK (kS zs):=by
   rw [e,D0];exact ⟨fun h=>⟨s,h,rfl⟩,fun ⟨x,hx,q⟩=>Sum.inr.inj q ▸ hx⟩
  rw [h1,metK_mem];unfold kS;rw [D0];exact ⟨fun ⟨x,hx,q⟩=>Sum.inr.inj q ▸ hx,fun h=>⟨s,h,rfl⟩⟩
theorem Least.same{g:List Str}(h:Least E g)(h':Least E g'):g.length=g'.length:=Nat.le_antisymm (h.least _ h'.rnd) (h'.least _ h.rnd)
noncomputable def af9 (K:PySem.W.Frag):Sp:=fun vs H Q _=>∃ (a l:Addr) (rs:List Addr) (zss:List (List Str)) (g:List Str),vs=[.ref a,.ref l]/\IsRows H a rs zss/\H l=some (.lst (g.map V.str))/\zss.flatten.length<=500/\(∀ zs∈zss,∀ z∈zs,X1 z)/\Least (edges zss) g/\∀ H',Same H H'->Q (.bl true) H'
noncomputable def aga (K:PySem.W.Frag):Sp:=fun vs H Q _=>∃ (a l:Addr) (rs:List Addr) (zss:List (List Str)) (L:List Str),vs=[.ref a,.ref l]/\IsRows H a rs zss/\H l=some (.lst (L.map V.str))/\zss.flatten.length<=500/\(∀ zs∈zss,∀ z∈zs,X1 z)/\R1 (edges zss) (toldL zss) L/\(∀ p∈toldL zss,p∈L)/\L.length<=7/\∀ H',Same H H'->Q (.bl true) H'
noncomputable def kd (i:Nat):List Bool:=[i==0,i==1,i==2,false,false,false,false,false,false,false,false,false]
structure Kept(CC CN CR:Addr)(H:Hp)(x:Addr)(i:Nat)(fs:List (Str×V)):Prop where
 ex:∃ Ce d,((i=0/\Ce=CC)\/(i=1/\Ce=CN)\/(i=2/\Ce=CR))/\H x=some (xc x Ce d)/\H d=some (.xd fs)
noncomputable def agb (CC CN CR:Addr):Sp:=fun vs H Q _=>∃ (x:Addr) (i:Nat) (fs:List (Str×V)),vs=[.ref x]/\Kept CC CN CR H x i fs/\∀ l H',H l=none->Same H H'->H' l=some (.lst ((kd i).map V.bl))->Q (.ref l) H'
inductive Ask (C CC CN CR:Addr) (H:Hp) (R:List Rl):Nat->Addr->Prop
 | ok {x j ll ml md:Addr} {L M:List Str} : o0 R=none->(misR (gR R) R).head?=none->IsOrd C H x j ll ml md (gR R) R L M->Ask C CC CN CR H R 3 x
 | cl {x:Addr} {p:Str} : o0 R=some p->Kept CC CN CR H x 0 [("piece",.str p)]->Ask C CC CN CR H R 0 x
 | nl {x:Addr} {p:Str} : o0 R=none->(misR (gR R) R).head?=some p->Kept CC CN CR H x 1 [("piece",.str p)]->Ask C CC CN CR H R 1 x
 | rd {x l:Addr} {w:Str} {g:List Str} : o0 R=none->(misR (gR R) R).head?=none->(w="row"\/(w="marks"/\∃ L,W9 R "row" L))->Kept CC CN CR H x 2 [("pieces",.ref l)]->H l=some (.lst (g.map V.str))->Least (edges (rowsW R w)) g->Ask C CC CN CR H R 2 x
noncomputable def lI (i:Nat):List Bool:=if i=3 then [] else kd i
noncomputable def akh (C CC CN CR:Addr):Sp:=fun vs H Q _=>∃ (r:Addr) (ts:List Addr) (R:List Rl),vs=[.ref r]/\IsRules H r ts R/\Raw R/\∀ t l x i H',Same H H'->H' t=some (.tup [.ref l,.ref x])->H' l=some (.lst ((lI i).map V.bl))->Ask C CC CN CR H' R i x->Q (.ref t) H'
noncomputable def agc (K:PySem.W.Frag):Sp:=fun vs H Q _=>∃ (a:Addr) (ns:List Int),vs=[.ref a]/\D6 K H a (ns.map V.int)/\∀ l ts R H',Same H H'->IsRules H' l ts R->Dw ns (decide (cellF ns 2 % 4=1)) (decide (cellF ns 2 / 4 % 4=1)) R->Q (.ref l) H'
noncomputable def X3 (lo i:Nat):Nat:=lo+i
theorem tU{α β:Type}{F:α->β->Prop} : ∀ {a:List α} {c:List β} (k:Nat),Paired F a c->Paired F (a.take k) (c.take k)
 | _,_,0,_=>by rw [j2,j2];exact .nil
 | _,_,k+1,.nil=>.nil
 | _,_,k+1,.cons h t=>.cons h (tU k t)
theorem tV{α β:Type}{F:α->β->Prop} : ∀ {a:List α} {c:List β} (k:Nat),Paired F a c->Paired F (a.drop k) (c.drop k)
 | _,_,0,h=>h
 | _,_,k+1,.nil=>.nil
 | _,_,k+1,.cons h t=>tV k t
noncomputable def insR (R:List Rl) (k:Nat) (z:Rl):List Rl:=(R.take k++[z])++R.drop k
theorem ahR(R:List Rl)(k:Nat)(z:Rl):(insR R k z).Perm (R++[z]):=by
 unfold insR;have h1:((R.take k++[z])++R.drop k).Perm (R.take k++(R.drop k++[z])):=by
  rw [X9];exact List.Perm.append_left _ List.perm_append_comm
 refine h1.trans ?_;rw [<- X9,X7]
theorem agd{q:Addr}{ts:List Addr}{z:Rl}{t:Addr}(k:Nat)(h:IsRules H a ts R)(ht:H t=some (tupR z))(hq:H q=some (.lst (((ts.map V.ref).take k++[V.ref t])++(ts.map V.ref).drop k))):IsRules H q ((ts.take k++[t])++ts.drop k) (insR R k z):=by
 refine ⟨?_,pW (pW (tU k h.row) (.cons ht .nil)) (tV k h.row)⟩;rw [hq,E2,E2,List.map_take,List.map_drop];rfl
section
variable {P:Program} {w:World} {K:PySem.W.Frag} {mg:Str->Option Value} {base:Heap} {C:Addr} {C_Clash:Addr} {C_NoLetter:Addr} {C_Round:Addr}
theorem abN:FnScope ["self", "piece"] ["self", "piece"] (C8 iM):=L4
theorem adf(F:FunD K "__init__" "Clash.__init__" iM f fd)(T:Txt P w K mg C C_Clash C_NoLetter C_Round):FnOk P w K mg base G9 1 f fd ["self", "piece"] (iW K C_Clash "piece"):=by
 refine F.ok abN ?_ ?_
 .rintro _ _ _ _ ⟨m,x,z,f,rfl,_⟩;rfl
 .intro cdv A outer s H vs Q E hr h;have C9:=hu_of hr;have hu:=hr.units;obtain ⟨aL,mL,NL⟩:=T.lore;have hZ:=K9 abN;refine ⟨_,QSs.out (C1 (R0 (uH NL mL (qz 0) (uI (aj4 (qz 1)) M3) (K:=K)))
   (B5 (uJ (qz 0) (qz 1) (K:=K)))),?_⟩
  obtain ⟨m,x,z,f,rfl,hx,M,n,hz,hok,q⟩:=h;walk_at "rd";exact ⟨hz,hok,fun z1 h1=>⟨by lia,by decide +kernel,fun z2=>⟨m,C_Clash,hx,⟨f,M⟩,m,C_Clash,hx,⟨f,M⟩,n,q⟩⟩⟩
theorem abl:FnScope ["self", "piece"] ["self", "piece"] (C8 iN):=L4
theorem acv(F:FunD K "__init__" "NoLetter.__init__" iN f fd)(T:Txt P w K mg C C_Clash C_NoLetter C_Round):FnOk P w K mg base G9 1 f fd ["self", "piece"] (iW K C_NoLetter "piece"):=by
 refine F.ok abl ?_ ?_
 .rintro _ _ _ _ ⟨m,x,z,f,rfl,_⟩;rfl
 .intro cdv A outer s H vs Q E hr h;have C9:=hu_of hr;have hu:=hr.units;obtain ⟨aL,mL,NL⟩:=T.lore;have hZ:=K9 abl;refine ⟨_,QSs.out (C1 (R0 (uH NL mL (qz 0) (uI (aj4 (qz 1)) M3) (K:=K)))
   (B5 (uJ (qz 0) (qz 1) (K:=K)))),?_⟩
  obtain ⟨m,x,z,f,rfl,hx,M,n,hz,hok,q⟩:=h;walk_at "rd";exact ⟨hz,hok,fun z1 h1=>⟨by lia,by decide +kernel,fun z2=>⟨m,C_NoLetter,hx,⟨f,M⟩,m,C_NoLetter,hx,⟨f,M⟩,n,q⟩⟩⟩
theorem abO:FnScope ["self", "pieces"] ["self", "pieces"] (C8 iO):=L4
theorem adg(F:FunD K "__init__" "Round.__init__" iO f fd)(T:Txt P w K mg C C_Clash C_NoLetter C_Round):FnOk P w K mg base G9 1 f fd ["self", "pieces"] (vD K C_Round "pieces"):=by
 refine F.ok abO ?_ ?_
 .rintro _ _ _ _ ⟨m,x,l,f,zs,rfl,_⟩;rfl
 .intro cdv A outer s H vs Q E hr h;have C9:=hu_of hr;have hu:=hr.units;obtain ⟨aL,mL,NL⟩:=T.lore;have hZ:=K9 abO;refine ⟨_,QSs.out (C1 (R0 (uH NL mL (qz 0) (uI M3 (aof hr (qz 1))) (K:=K)))
   (B5 (uJ (qz 0) (qe_cT (cX (K:=K) (calm:=true)) T.b_list y9 (qa_c (qz 1) A2)) (K:=K)))),?_⟩
  obtain ⟨m,x,l,f,zs,rfl,hx,M,n,hl,hn,hs,q⟩:=h;walk_at "rd";exact ⟨by decide +kernel,zs,hl,hn,hs,fun z hz=>⟨hz,fun z2=>⟨m,C_Round,hx,⟨f,M⟩,rListR.l (.inl (.of hl)) fun p np=>⟨m,C_Round,C2 hx np,⟨f,M⟩,n,fun dx nd ne=>q p dx np nd ne⟩⟩⟩⟩
theorem aki:FnScope ["rows", "seen", "row", "piece"] ["rows"] (C8 uM):=L4
theorem aor(F:FunD K "told" "told" uM f fd)(T:Txt P w K mg C C_Clash C_NoLetter C_Round):FnOk P w K mg base G9 1 f fd ["rows"] tL:=by
 refine F.ok aki ?_ ?_
 .rintro _ _ _ _ ⟨a,rs,zss,rfl,_⟩;rfl
 .intro cdv A outer s H vs Q E hr h;have C9:=hu_of hr;have hu:=hr.units;have hZ:=K9 aki;refine ⟨_,QSs.out (C1 (E1 1 eN)
   (C1 (N4 PassesOwn.never (O4 (K:=K) (qz 0)) (K0 2) (B5 (N4 PassesOwn.never (O4 (K:=K) (qz 2)) (K0 3) (B5 (z8 C9 (qz 1) (qz 3) qe_bl)))))
   (B5 (E4 (qe_cT (cX (K:=K) (calm:=true)) T.b_list y9 (qa_c (qz 1) A2)))))),?_⟩
  obtain ⟨a,rs,zss,rfl,hR,hz,q⟩:=h;walk_at "rd";intro d nd;have hlz:∀ n:Nat,n<=100000->n<sizeLine:=fun n h=>K8 'b'
  refine ⟨⟨_,.of (C2 hR.top nd)⟩,forL (xs:=rs.map V.ref) (fun i Y H2=>∃ (u v:Option V),Y=[some 'f',some (.ref d),u,v]/\Same H H2/\H2 d=some (.dK (kvOf (toldL (zss.take i)))))
   ⟨none,none,rfl,Same.new nd,by rw [A1];rfl⟩ (by rintro i Y H2 _ ⟨_,_,_,S,_⟩;exact .of (S _ _ hR.top)) ?_ ?_⟩
  .rintro i x Y H2 hx ⟨u,v,rfl,S,hd⟩;obtain ⟨r,hr,rfl⟩:=J1 hx;obtain ⟨zs,F7,C0⟩:=Paired.at hR.row hr;have hcount:(toldL (zss.take i)).length+zs.length<=100000:=by
    have h1:zss.take (i+1)=zss.take i++[zs]:=by rw [p7,F7];rfl
    have h2:=eM (zss.take i);have h3:(zss.take (i+1)).flatten.length<=zss.flatten.length:=by
     conv=>rhs;rw [<- X7 (i+1) zss]
     rw [eC,D4];lia
    rw [h1,eC,D4] at h3;simp at h3;simp at h2 hz h3 ⊢
    lia
   walk_at "rd";refine ⟨⟨_,.of (S _ _ C0)⟩,forL (xs:=zs.map V.str) (fun j Y H3=>∃ (v:Option V),Y=[some 'f',some (.ref d),some (.ref r),v]/\Same H H3/\H3 d=some (.dK (kvOf (M5 (toldL (zss.take i)) (zs.take j)))))
    ⟨v,rfl,S,hd⟩ (by rintro j Y H3 _ ⟨_,_,S3,_⟩;exact .of (S3 _ _ C0)) ?_ ?_⟩
   .rintro j y Y H3 hy ⟨v,rfl,S3,Y7⟩;obtain ⟨z,wM,rfl⟩:=J1 hy;walk_at "rd";refine ⟨_,y8 (k:=Sum.inr z) Y7 ?_,S3.put nd,?_⟩
    .unfold kvOf;rw [A3];refine hlz _ ?_
     have:=kM (zs.take j) (toldL (zss.take i))
     rw [K6] at this;lia
    .rw [A1,ai6,ak1 wM]
   .rintro Y H3 ⟨v,rfl,S3,Y7⟩;walk_at "rd";refine ⟨S3,?_⟩;rw [Y7,ai5 F7,A3,J7]
  .rintro Y H2 ⟨u,v,rfl,S,hd⟩;walk_at "rd";refine rListR.d (.of hd) fun l nl=>?_
   refine q l _ (S.free nl) (fun b o h=>C2 (S b o h) nl) ?_;rw [A1,ai7,A3];rw [show rs.length=zss.length from Paired.length hR.row,J7]
theorem ado:FnScope ["rows", "after", "piece", "row", "one", "other"] ["rows"] (C8 uN):=L4
theorem age(F:FunD K "followers" "followers" uN f fd)(T:Txt P w K mg C C_Clash C_NoLetter C_Round)(G_told:FO P w K mg base 1 "told" ["rows"] [] tL):FnOk P w K mg base G9 2 f fd ["rows"] spFol:=by
 refine F.ok ado ?_ ?_
 .rintro _ _ _ _ ⟨a,rs,zss,rfl,_⟩;rfl
 .intro cdv A outer s H vs Q E hr h;have C9:=hu_of hr;have hu:=hr.units;have hZ:=K9 ado;refine ⟨_,QSs.out (C1 (E1 1 eN)
   (C1 (N4 PassesOwn.never (O4 (K:=K) (E3 G_told (hm hr) (qa_c (qz 0) A2))) (K0 2) (B5 (z8 C9 (qz 1) (qz 2) (M6 A2))))
   (C1 (N4 PassesOwn.never (O4 (K:=K) (qz 0)) (K0 3) (B5 (N4 PassesOwn.never (aqN T.b_zip (qa_c (qz 3) (qa_c (W6 (K:=K) (qz 3) (Q9 A8) l8) A2))) (eP (K:=K) (n:=2) (Z2 ((K0 4)) (Z2 ((K0 5)) eO))) (B5 (R0 (qe_mB (K:=K) U1 j6 j5 m9 (Z1 C9 (qz 1) (qz 4)) (qa_c (qz 5) A2)))))))
   (B5 (E4 (qz 1)))))),?_⟩
  obtain ⟨a,rs,zss,rfl,hR,hz,q⟩:=h;walk_at "rd";intro d nd;have S0:Same H (A0 H d (.dK [])):=Same.new nd;refine ⟨a,rs,zss,rfl,hR.same S0,hz,fun l H1 nl S1 hl=>?_⟩;have xF:H1 d=some (.dK []):=S1 _ _ A1;have S01:=S0.trans S1;have A6:(toldL zss).length<=100000:=D5 (eM zss) hz;have tnd:=kX zss;refine ⟨l,rfl,⟨_,.of hl⟩,forL (xs:=(toldL zss).map V.str) (fun i Y H2=>∃ (u v w x:Option V) (ad:Str->Addr),Y=[some 'f',some (.ref d),u,v,w,x]/\SameBut d H1 H2/\H2 d=some (.dK (A5 ((toldL zss).take i) fun t=>.ref (ad t)))/\DL H1 H2 ((toldL zss).take i) ad fun _=>[])
   ⟨none,none,none,none,fun _=>0,rfl,SameBut.refl _ _,xF,⟨fun t h=>by simp at h,fun t h=>by simp at h,fun t h=>by simp at h⟩⟩ (fun i Y H2 _ ⟨_,_,_,_,_,_,S,_⟩=>.of (S _ _ (fun e=>by rw [e,xF] at hl;cases hl) hl)) ?_ ?_⟩
  .rintro i x Y H2 hx ⟨u,v,w,y,ad,rfl,S,hd,dl⟩;obtain ⟨z,hk,rfl⟩:=J1 hx;have hi:i<(toldL zss).length:=(F8.mp hk).1;have Q0:=sY tnd hk;walk_at "rd";refine fun p np=>⟨_,y8 (k:=Sum.inr z) (C2 hd np) (by rw [Z3,K6];exact K8 'b'),?_⟩
   have n1:H1 p=none:=S.free np (fun e=>by rw [e,hd] at np;cases np);refine ⟨(S.put n1).at,fun t=>if t=z then p else ad t,?_,?_⟩
   .rw [A1,cZ _ Q0,J9 hk];have e:(fun t=>if t=z then V.ref p else V.ref (ad t))=fun t=>V.ref (if t=z then p else ad t):=by funext t;split <;> rfl
    rw [e]
   .rw [J9 hk];exact ((dl.more Q0 np n1).congr fun t _=>by split <;> rfl).put xF
  .rintro Y H2 ⟨u,v,w,y,ad,rfl,S,hd,dl⟩;rw [A3,J7] at hd dl;have S2:Same H H2:=S.same S01 nd;walk_at "rd";have dl0:DL H H2 (toldL zss) ad fun _=>[]:=dl.old S01
   refine ⟨⟨_,.of (S2 _ _ hR.top)⟩,forL (xs:=rs.map V.ref) (fun i Y H3=>∃ (v w x:Option V),Y=[some 'f',some (.ref d),u,v,w,x]/\Same H H3/\H3 d=some (.dK (A5 (toldL zss) fun t=>.ref (ad t)))/\DL H H3 (toldL zss) ad (C4 (edges (zss.take i))))
    ⟨v,w,y,rfl,S2,hd,dl0⟩ (by rintro i Y H3 _ ⟨_,_,_,_,S,_⟩;exact .of (S _ _ hR.top)) ?_ ?_⟩
   .rintro i x Y H3 hx ⟨v,w,y,rfl,S3,Y7,aJ⟩;obtain ⟨r,hr,rfl⟩:=J1 hx;obtain ⟨zs,F7,C0⟩:=Paired.at hR.row hr;have R4:=S3 _ _ C0;have L5:∀ x∈zs,x∈toldL zss:=fun x hx=>(dB _ _).mpr (cJ.mpr ⟨zs,L7 F7,hx⟩)
    walk_at "rd";refine rSlR.l (.of R4) fun p np=>?_
    have ecut:cutV (zs.map V.str) (some 1) none=zs.tail.map V.str:=by
     have:=cY (zs.map V.str) 1
     rw [show ((1:Nat):Int)=1 from rfl] at this;rw [this,<- List.map_drop,List.drop_one]
    rw [ecut];have np0:H p=none:=S3.free np;have nad:∀ t∈toldL zss,ad t≠p:=fun t ht e=>by have:=aJ.row t ht;rw [e,np] at this;cases this
    have nadr:∀ t∈toldL zss,ad t≠r:=fun t ht e=>by have:=aJ.new t ht;rw [e,C0] at this;cases this
    have ndp:d≠p:=fun e=>by rw [<- e,Y7] at np;cases np
    have nadd:∀ t∈toldL zss,ad t≠d:=fun t ht e=>by have:=aJ.row t ht;rw [e,Y7] at this;cases this
    refine ⟨p,rfl,⟨_,C2 R4 np⟩,⟨_,A1⟩,forZ (xs:=zs.map V.str) (ys:=zs.tail.map V.str) (fun j Y H4=>∃ (w x:Option V),Y=[some 'f',some (.ref d),u,some (.ref r),w,x]/\Same H H4/\H4 p=some (.lst (zs.tail.map V.str))/\H4 d=some (.dK (A5 (toldL zss) fun t=>.ref (ad t)))/\DL H H4 (toldL zss) ad (C4 (edges (zss.take i)++(O0 zs).take j)))
     ⟨w,y,rfl,S3.put np0,A1,C2 Y7 np,?_⟩ (by rintro j Y H4 ⟨_,_,_,S,hp,_⟩;exact ⟨S _ _ C0,hp⟩) ?_ ?_⟩
    .rw [j2,K7];exact aJ.same (Same.new np)
    .rintro j xv yv t Y H4 hxv hyv ⟨w,v,rfl,S4,mO,T7,jK⟩ nt;obtain ⟨x,hx,rfl⟩:=J1 hxv;obtain ⟨y,hy,rfl⟩:=J1 hyv;have aK:=L5 x (L7 hx);have nt0:H t=none:=S4.free nt;have mP:=jK.row x aK;have hE:(O0 zs)[j]?=some (x,y):=oQ hx hy;walk_at "rd";refine ⟨_,.of A1,rfl,_,_,rfl,_,_,rfl,rfl,V.ref (ad x),.inl ⟨_,Sum.inr x,.inl (C2 T7 nt),rfl,by rw [N5,if_pos aK]⟩,R8 (C2 mP nt),appOk (C2 mP nt) ?_ ⟨(S4.put nt0).put (jK.new x aK),?_,?_,?_⟩⟩
     .rw [A3];refine K8 ?_;have h1:(C4 (edges (zss.take i)++(O0 zs).take j) x).length<=(edges (zss.take i)++(O0 zs).take j).length:=by
       unfold C4;rw [A3];exact eB _ _
      have h2:=kZ (zss.take i);have h3:(zss.take i).flatten.length<=zss.flatten.length:=by
       conv=>rhs;rw [<- X7 i zss]
       rw [eC,D4];lia
      have h4:zs.length<=zss.flatten.length:=List.Sublist.length_le (nG (L7 F7));rw [D4,K6,kY] at h1;lia
     .rw [A4 (nad x aK).symm];exact C2 mO nt
     .rw [A4 (nadd x aK).symm];exact C2 T7 nt
     .have h1:=(jK.same (Same.new (u:=.tup [V.str x,V.str y]) nt)).app aK (C4 (edges (zss.take i)++(O0 zs).take j) x++[y]);rw [E2] at h1;refine h1.congr fun t _=>?_
      rw [J9 hE,<- X9,ald]
      by_cases e:t=x
      .rw [if_pos e,if_pos e.symm,e]
      .rw [if_neg e,if_neg (fun z=>e z.symm)]
    .rintro Y H4 ⟨w,x,rfl,S4,mO,T7,jK⟩;walk_at "rd";refine ⟨S4,T7,?_⟩;rw [oP F7];rw [j1 (l:=O0 zs) (by rw [kY,A3,A3];exact C3 _)] at jK;exact jK
   .rintro Y H3 ⟨v,w,y,rfl,S3,Y7,aJ⟩;rw [A3,show rs.length=zss.length from Paired.length hR.row,J7] at aJ;walk_at "rd";exact q d ad H3 nd S3 Y7 aJ
theorem acy:FnScope ["after", "ahead", "piece", "other"] ["after"] (C8 uO):=L4
theorem aej(F:FunD K "count_ahead" "count_ahead" uO f fd)(T:Txt P w K mg C C_Clash C_NoLetter C_Round):FnOk P w K mg base G9 1 f fd ["after"] sZ:=by
 refine F.ok acy ?_ ?_
 .rintro _ _ _ _ ⟨d,ts,ad,E,rfl,_⟩;rfl
 .intro cdv A outer s H vs Q E hr h;have C9:=hu_of hr;have hu:=hr.units;have hZ:=K9 acy;refine ⟨_,QSs.out (C1 (E1 1 eN)
   (C1 (sU PassesOwn.never (qz 0) (K0 2) (B5 (z8 C9 (qz 1) (qz 2) A8)))
   (C1 (sU PassesOwn.never (qz 0) (K0 2) (B5 (N4 PassesOwn.never (O4 (K:=K) (Z1 C9 (qz 0) (qz 2))) (K0 3) (B5 (sN C9 (qz 1) (qz 3) A8 aqH)))))
   (B5 (E4 (qz 1)))))),?_⟩
  obtain ⟨d,ts,ad,E,rfl,hd,tnd,A6,hElen,C0,hE,q⟩:=h;walk_at "rd";intro c nc;have ndc:d≠c:=fun e=>by rw [e,nc] at hd;cases hd
  refine ⟨_,C2 hd nc,fun o=>forD (fun i Y H2=>∃ (u v:Option V),Y=[some (.ref d),some (.ref c),u,v]/\H2 d=some (.frz o (.dK (A5 ts fun t=>.ref (ad t))))/\SameBut d H H2/\H2 c=some (.dK (A5 (ts.take i) fun _=>.int 0)))
   ⟨none,none,rfl,A1,(SameBut.put (SameBut.refl _ _) nc).at,by rw [A4 ndc.symm,A1];rfl⟩ (by rintro i Y H2 ⟨_,_,_,h,_⟩;exact h) ?_ ?_⟩
  .rintro i k v Y H2 hk ⟨u,w,rfl,hf,S,hc⟩;obtain ⟨t,ht,rfl,rfl⟩:=amo hk;have hi:i<ts.length:=(F8.mp ht).1;walk_at "rd";refine ⟨_,y8 (k:=Sum.inr t) hc (by rw [Z3,K6];exact K8 'b'),?_,S.put nc,?_⟩
   .rw [A4 ndc];exact hf
   .rw [A1,cZ _ (sY tnd ht),J9 ht];exact congrArg (fun x=>some (HO.dK x)) (P6 fun t _=>by split <;> rfl)
  .rintro Y H2 ⟨u,w,rfl,hf,S,hc⟩;rw [Z3,J7] at hc;have S2:Same H (A0 H2 d (.dK (A5 ts fun t=>.ref (ad t)))):=S.thaw hd;have X5:A0 H2 d (.dK (A5 ts fun t=>.ref (ad t))) d=some (.dK (A5 ts fun t=>.ref (ad t))):=A1;have bK:A0 H2 d (.dK (A5 ts fun t=>.ref (ad t))) c=some (.dK (A5 ts fun _=>.int 0)):=by rw [A4 ndc.symm];exact hc
   generalize A0 H2 d (.dK (A5 ts fun t=>.ref (ad t)))=H3 at S2 X5 bK;walk_at "rd";refine ⟨_,X5,fun o=>forD (fun i Y H4=>∃ (u v:Option V),Y=[some (.ref d),some (.ref c),u,v]/\H4 d=some (.frz o (.dK (A5 ts fun t=>.ref (ad t))))/\SameBut d H H4/\H4 c=some (.dK (A5 ts fun t=>.int (cntIn E (ts.take i) t:Nat))))
    ⟨u,w,rfl,A1,fun b o hb h=>by rw [A4 hb];exact S2 b o h,?_⟩ (by rintro i Y H2 ⟨_,_,_,h,_⟩;exact h) ?_ ?_⟩
   .rw [A4 ndc.symm,bK];exact congrArg (fun x=>some (HO.dK x)) (P6 fun t _=>by rw [j2,aji];rfl)
   .rintro i k v Y H4 hk ⟨u,w,rfl,hf,S4,R5⟩;obtain ⟨t,ht,rfl,rfl⟩:=amo hk;have mQ:t∈ts:=L7 ht;have hl4:H4 (ad t)=some (.lst ((C4 E t).map V.str)):=S4 _ _ (fun e=>by have:=C0 t mQ;rw [e,hd] at this;cases this) (C0 t mQ);walk_at "rd";refine ⟨V.ref (ad t),.inl ⟨_,Sum.inr t,.inr ⟨o,hf⟩,rfl,by rw [N5,if_pos mQ]⟩,ad t,rfl,⟨_,.of hl4⟩,forL (xs:=(C4 E t).map V.str) (fun j Y H5=>∃ (v:Option V),Y=[some (.ref d),some (.ref c),some (kV (Sum.inr t)),v]/\H5 d=some (.frz o (.dK (A5 ts fun t=>.ref (ad t))))/\SameBut d H H5/\
     H5 c=some (.dK (A5 ts fun q=>.int (cntIn E (ts.take i) q+((C4 E t).take j).count q:Nat)))) ⟨w,rfl,hf,S4,by rw [R5];rfl⟩ (fun j Y H5 _ ⟨_,_,_,S5,_⟩=>.of (S5 _ _ (fun e=>by have:=C0 t mQ;rw [e,hd] at this;cases this) (C0 t mQ))) ?_ ?_⟩
    .rintro j v5 Y H5 mR ⟨v,rfl,xG,S5,W2⟩;obtain ⟨y,hy2,rfl⟩:=J1 mR;have o5:y∈ts:=by
      have:=L7 hy2
      unfold C4 at this;obtain ⟨e,he,rfl⟩:=D0.mp this;exact (hE e (N1.mp he).1).2
     walk_at "rd";refine ⟨V.int (cntIn E (ts.take i) y+((C4 E t).take j).count y:Nat),.inl ⟨_,Sum.inr y,.inl W2,rfl,by rw [N5,if_pos o5]⟩,_,_,rfl,rfl,_,y8 (k:=Sum.inr y) W2 (by rw [Z3];exact K8 'b'),?_,S5.put nc,?_⟩
     .rw [A4 ndc];exact xG
     .rw [A1,kW _ o5];refine congrArg (fun x=>some (HO.dK x)) (P6 fun q _=>?_);rw [J9 hy2,gG,nO]
      by_cases e:q=y
      .rw [if_pos e,e,if_pos 'c'];exact congrArg V.int 'b'
      .rw [if_neg e,if_neg (by simpa using fun z:y=q=>e z.symm)];rfl
    .rintro Y H5 ⟨v,rfl,xG,S5,W2⟩;walk_at "rd";refine ⟨xG,S5,?_⟩;rw [A3,J7] at W2;rw [W2];refine congrArg (fun x=>some (HO.dK x)) (P6 fun q _=>?_);rw [J9 ht,ah7 (sY tnd ht)]
   .rintro Y H4 ⟨u,w,rfl,hf,S4,R5⟩;rw [Z3,J7] at R5;walk_at "rd";refine q c _ nc (S4.thaw hd) ?_;rw [A4 ndc.symm,R5];exact congrArg (fun x=>some (HO.dK x)) (P6 fun t _=>by rw [afP (fun e he=>(hE e he).1)])
theorem ad8:FnScope ["came", "start", "last", "pieces"] ["came", "start", "last"] (C8 uP):=L4
theorem agV(F:FunD K "way_back" "way_back" uP f fd)(T:Txt P w K mg C C_Clash C_NoLetter C_Round):FnOk P w K mg base G9 1 f fd ["came", "start", "last"] spWB:=by
 refine F.ok ad8 ?_ ?_
 .rintro _ _ _ _ ⟨c,z,x,cs,f,n,rfl,_⟩;rfl
 .intro cdv A outer s H vs Q E hr h;have C9:=hu_of hr;have hu:=hr.units;have hZ:=K9 ad8;refine ⟨_,QSs.out (C1 (E1 3 (M6 (qa_c (qz 2) A2)))
   (C1 (oJ PassesOwn.never (E6 (q_ne (K:=K) hu) (qe_ix (K:=K) (qz 3) (qe_un q_neg A8)) (qz 1)) (B5 (R0 (qe_mB (K:=K) U1 j6 j5 m9 (qz 3) (qa_c (Z1 C9 (qz 0) (qe_ix (K:=K) (qz 3) (qe_un q_neg A8))) A2)))))
   (C1 (R0 (qe_m0 (K:=K) U1 PySem.F.slot_list_reverse PySem.F.type_list_reverse ajc (qz 3)))
   (B5 (E4 (qz 3)))))),?_⟩
  obtain ⟨c,z,x,cs,f,n,rfl,hc,B,hn,q⟩:=h;walk_at "rd";refine ⟨by decide,fun p np=>?_⟩;have N0:∀ k,J5 (((U0 (k+1)).map (iter f x)).map V.str) (-1)=some (V.str (iter f x k)):=fun k=>by
   rw [List.range_succ,E2,E2];exact zM _ _
  refine oK (fun m Y H2=>∃ k:Nat,k<=n/\Y=[some (.ref c),some (.str z),some (.str x),some (.ref p)]/\Same H H2/\H2 p=some (.lst (((U0 (k+1)).map (iter f x)).map V.str))/\m=n-k) n
   ⟨0,J0 _,rfl,Same.new np,A1,rfl⟩ ?_
  rintro m Y H2 ⟨k,hk,rfl,S,hp,rfl⟩;walk_at "rd";refine ⟨_,.inl (.of hp),_,N0 k,?_⟩
  try walk_at "rd"
  by_cases e:iter f x k=z
  .have jL:k=n:=Classical.byContradiction fun h=>(B.mid k 'b').2 e
   subst jL;rw [show (!decide (iter f x k=z))=false by simp [e]];refine iteF ?_
   try walk_at "rd"
   refine ⟨R8 hp,p,_,rfl,rfl,hp,q p _ np (S.put np) ?_⟩;rw [A1];unfold backL;rw [List.map_reverse]
  .rw [show (!decide (iter f x k=z))=true by simp [e]];have jL:k<n:=Classical.byContradiction fun h=>e (by rw [show k=n by lia];exact B.fin)
   refine iteT ⟨fun σ' H'=>σ'=[some (.ref c),some (.str z),some (.str x),some (.ref p)]/\Same H H'/\H' p=some (.lst (((U0 (k+1+1)).map (iter f x)).map V.str)),?_,?_⟩
   .rintro σ' H' ⟨rfl,h1,h2⟩;exact ⟨n-(k+1),by lia,k+1,by lia,rfl,h1,h2,rfl⟩
   try walk_at "rd"
   refine ⟨R8 hp,_,.inl (.of hp),_,N0 k,V.str (f (iter f x k)),.inl ⟨_,Sum.inr (iter f x k),.inl (S _ _ hc),rfl,by rw [N5,if_pos (B.mid k jL).1]⟩,appOk hp (by rw [A3,A3,gF];exact K8 'b') ⟨S.put np,?_⟩⟩;rw [A1,List.range_succ (n:=k+1),E2,E2];rfl
theorem acX:FnScope ["after", "start", "most", "came", "newest", "length", "further", "piece", "other"] ["after", "start", "most"] (C8 uQ):=L4
theorem afn(F:FunD K "round_from" "round_from" uQ f fd)(T:Txt P w K mg C C_Clash C_NoLetter C_Round)(G_way_back:FO P w K mg base 1 "way_back" ["came", "start", "last"] [] spWB):FnOk P w K mg base G9 2 f fd ["after", "start", "most"] spRFG:=by
 refine F.ok acX ?_ ?_
 .rintro _ _ _ _ ⟨d,z,m,R,ad,E,rfl,_⟩;rfl
 .intro cdv A outer s H vs Q E hr h;have C9:=hu_of hr;have hu:=hr.units;have hZ:=K9 acX;refine ⟨_,QSs.out (C1 (E1 3 eN)
   (C1 (E1 4 (M6 (qa_c (qz 1) A2)))
   (C1 (E1 5 A8)
   (C1 (oJ PassesOwn.never (QW.pt (kO (m8 (K:=K) (qz 4)) (kN (E6 q_lt (qz 5) (qz 2))))) (C1 (E1 6 (M6 A2))
   (C1 (N4 PassesOwn.never (O4 (K:=K) (qz 4)) (K0 7) (B5 (N4 PassesOwn.never (O4 (K:=K) (Z1 C9 (qz 0) (qz 7))) (K0 8) (C1 (qs_if (E6 (q_eq (K:=K) hu) (qz 8) (qz 1)) (B5 (E4 (E3 G_way_back (hm hr) (qa_c (qz 3) (qa_c (qz 1) (qa_c (qz 7) A2)))))) K1)
   (B5 (qs_if (QW.pt (kO (E6 (q_in (K:=K) hu) (qz 8) (qz 0)) (kN (E6 (sP (K:=K) hu) (qz 8) (qz 3))))) (C1 (z8 C9 (qz 3) (qz 8) (qz 7))
   (B5 (R0 (qe_mB (K:=K) U1 j6 j5 m9 (qz 6) (qa_c (qz 8) A2))))) K1))))))
   (C1 (E1 4 (qz 6))
   (B5 (qaz 5 A8 aqG))))))
   (B5 (E4 (M6 A2))))))),?_⟩
  obtain ⟨d,z,m,R,ad,E,rfl,hd,hz,hRl,C0,hm,q⟩:=h;walk_at "rd";intro c nc;refine ⟨by decide,fun nw nnw=>?_⟩;have ncw:c≠nw:=fun e=>by rw [<- e,A1] at nnw;cases nnw
  have ncH:H c=none:=nc;refine oK (fun k Y H2=>∃ (n:Nat) (nw:Addr) (u v w:Option V) (cs ws:List Str) (f:Str->Str) (dep:Str->Nat),Y=[some (.ref d),some (.str z),some (.int m),some (.ref c),some (.ref nw),some (.int (n:Nat)),u,v,w]/\Same H H2/\H2 c=some (.dK (A5 cs fun t=>.str (f t)))/\H2 nw=some (.lst (ws.map V.str))/\BF E R z n ws cs f dep/\k=(m-n).toNat) m.toNat
   ⟨0,nw,none,none,none,[],[z],fun _=>z,fun _=>0,rfl,(Same.new nc).trans (Same.new nnw),by rw [A4 ncw,A1];rfl,A1,uah _ _ _ _,by simp⟩ ?_
  rintro k Y H2 ⟨n,nw,u,v,w,cs,ws,f,dep,rfl,S,hc,hw,bf,rfl⟩;walk_at "rd";refine ⟨_,kR hw,?_⟩
  by_cases Q3:ws=[]
  .rw [Q3];rw [Q3] at bf;exact iteF fun l nl=>q l [] _ (S.free nl) (S.trans (Same.new nl)) A1 (.inr ⟨rfl,fun C r hR hC=>(bf.none r hR hC).elim⟩)
  rw [show (!(ws.map V.str).isEmpty)=true by cases ws with | nil=>exact absurd rfl Q3 | cons=>rfl];refine iteT (iteD (fun C7=>?_) fun mI=>fun l nl=>q l [] _ (S.free nl) (S.trans (Same.new nl)) A1 (.inr ⟨rfl,fun C r hR hC=>by have:=bf.least r hR hC;lia⟩));refine ⟨fun σ' H'=>∃ (nw:Addr) (u v w:Option V) (cs ws:List Str) (f:Str->Str) (dep:Str->Nat),σ'=[some (.ref d),some (.str z),some (.int m),some (.ref c),some (.ref nw),some (.int ((n:Int)+1)),u,v,w]/\Same H H'/\H' c=some (.dK (A5 cs fun t=>.str (f t)))/\H' nw=some (.lst (ws.map V.str))/\BF E R z (n+1) ws cs f dep,?_,?_⟩
  .rintro σ' H' ⟨nw,u,v,w,cs,ws,f,dep,rfl,h1,h2,h3,h4⟩;exact ⟨(m-((n+1:Nat):Int)).toNat,by lia,n+1,nw,⟨_,_,_,rfl⟩,h1,cs,ws,f,h2,h3,⟨dep,h4⟩,rfl⟩
  intro fr nfr;have nfH:H fr=none:=S.free nfr;have hfw:fr≠nw:=fun e=>by rw [e,hw] at nfr;cases nfr
  have dP:fr≠c:=fun e=>by rw [e,hc] at nfr;cases nfr
  have hwR:∀ x∈ws,x∈R:=fun x hx=>by
   rcases (bf.wsd x hx).1 with h | h
   .rw [h];exact hz
   .exact (bf.csR x h).1
  refine ⟨⟨_,.of (C2 hw nfr)⟩,forL (xs:=ws.map V.str) (fun i Y H4=>∃ (v w:Option V) (cs' fs:List Str) (f:Str->Str) (dep:Str->Nat),Y=[some (.ref d),some (.str z),some (.int m),some (.ref c),some (.ref nw),some (.int (n:Nat)),some (.ref fr),v,w]/\Same H H4/\H4 c=some (.dK (A5 cs' fun t=>.str (f t)))/\H4 nw=some (.lst (ws.map V.str))/\H4 fr=some (.lst (fs.map V.str))/\BL E R z n ws cs (fun x y=>x∈ws.take i/\y∈C4 E x) cs' fs f dep)
   ⟨v,w,cs,[],f,dep,rfl,S.trans (Same.new nfr),C2 hc nfr,C2 hw nfr,A1,bf.go⟩ (by rintro i Y H4 _ ⟨_,_,_,_,_,_,_,_,_,h,_⟩;exact .of h) ?_ ?_⟩
  .rintro i x0 Y H4 hx ⟨v,w,xH,fs,f4,dep4,rfl,S4,h4c,h4w,h4f,bl⟩;obtain ⟨p,hp,rfl⟩:=J1 hx;have xI:p∈ws:=L7 hp;have hpR:=hwR p xI;have tk:ws.take (i+1)=ws.take i++[p]:=J9 hp;walk_at "rd";refine ⟨V.ref (ad p),.inl ⟨_,Sum.inr p,.inl (S4 _ _ hd),rfl,by rw [N5,if_pos hpR]⟩,ad p,rfl,⟨_,.of (S4 _ _ (C0 p hpR))⟩,forL (xs:=(C4 E p).map V.str) (fun j Y H5=>∃ (w:Option V) (cs' fs:List Str) (f:Str->Str) (dep:Str->Nat),Y=[some (.ref d),some (.str z),some (.int m),some (.ref c),some (.ref nw),some (.int (n:Nat)),some (.ref fr),some (.str p),w]/\Same H H5/\H5 c=some (.dK (A5 cs' fun t=>.str (f t)))/\H5 nw=some (.lst (ws.map V.str))/\H5 fr=some (.lst (fs.map V.str))/\BL E R z n ws cs (fun x y=>(x∈ws.take i/\y∈C4 E x)\/(x=p/\y∈(C4 E p).take j)) cs' fs f dep)
    ⟨w,xH,fs,f4,dep4,rfl,S4,h4c,h4w,h4f,bl.weak fun x y h=>(by
     rcases h with h | ⟨_,h⟩
     .exact h
     .simp at h)⟩ (by rintro j Y H5 _ ⟨_,_,_,_,_,_,S5,_⟩;exact .of (S5 _ _ (C0 p hpR))) ?_ ?_⟩
   .rintro j x1 Y H5 aI ⟨w,bZ,jM,f5,dep5,rfl,S5,h5c,h5w,h5f,aM⟩;obtain ⟨y,hy,rfl⟩:=J1 aI;have mM:(p,y)∈E:=mem_fol.mp (L7 hy);have N7:bZ.length<=R.length:=u4 aM.cnd fun x hx=>(aM.csR x hx).1
    have hfl5:=aM.len;have xJ:c≠nw:=fun e=>by rw [e,h5w] at h5c;cases h5c
    have pdn:∀ x y',((x∈ws.take i/\y'∈C4 E x)\/(x=p/\y'∈(C4 E p).take (j+1)))->((x∈ws.take i/\y'∈C4 E x)\/(x=p/\y'∈(C4 E p).take j))\/y'=y:=fun x y' h=>by
     rcases h with h | ⟨h1,h2⟩
     .exact .inl (.inl h)
     .rw [J9 hy] at h2
      rcases D8.mp h2 with h2 | h2
      .exact .inl (.inr ⟨h1,h2⟩)
      .exact .inr (D3.mp h2)
    walk_at "rd";refine iteD (fun mS=>?_) fun mS=>?_
    .rw [mS] at mM;obtain ⟨bk,b1,b2,b3,b4⟩:=aM.back hz xI mM;have hnl:n<=1000:=by lia
     exact ⟨c,z,p,bZ,f5,n,rfl,h5c,bk,hnl,fun l H6 nl S6 hl=>q l _ H6 (S5.free nl) (S5.trans S6) hl (.inl ⟨⟨b1,b2,b3,fun C r hR hC=>by rw [b4];exact bf.least r hR hC⟩,by rw [b4];lia⟩)⟩
    refine rInR.d (cV (k:=Sum.inr y) (S5 _ _ hd)) ⟨_,rfl,?_⟩;rw [N5,Bool.false_xor]
    by_cases hyR:y∈R
    .rw [if_pos hyR,kD];refine iteT (rInR.d (cV (k:=Sum.inr y) h5c) ⟨_,rfl,?_⟩);rw [N5,Bool.true_xor]
     by_cases mT:y∈bZ
     .rw [if_pos mT,kD];exact iteF ⟨S5,bZ,jM,f5,h5c,h5w,h5f,dep5,aM.skip mS (fun _=>mT) pdn⟩
     .rw [if_neg mT,Option.isSome_none];refine iteT ⟨_,y8 (k:=Sum.inr y) h5c (by rw [Z3];exact K8 'b'),?_⟩;have h6f:A0 H5 c (.dK (putK (A5 bZ fun t=>V.str (f5 t)) (Sum.inr y) (V.str p))) fr=some (.lst (jM.map V.str)):=by rw [A4 dP];exact h5f
      refine ⟨R8 h6f,appOk h6f (by rw [A3];exact K8 'b') ⟨(S5.put ncH).put nfH,bZ++[y],jM++[y],fun t=>if t=y then p else f5 t,?_,?_,?_,_,aM.put xI mM mS hyR mT pdn⟩⟩
      .rw [A4 dP.symm,A1,cZ _ mT];refine congrArg (fun x=>some (HO.dK x)) (P6 fun t _=>?_);show _=V.str (if t=y then p else f5 t)
       by_cases e:t=y
       .rw [if_pos e,if_pos e]
       .rw [if_neg e,if_neg e]
      .rw [A4 hfw.symm,A4 xJ.symm];exact h5w
      .rw [A1,E2];rfl
    .rw [if_neg hyR,Option.isSome_none];exact iteF ⟨S5,bZ,jM,f5,h5c,h5w,h5f,dep5,aM.skip mS (fun h=>absurd h hyR) pdn⟩
   .rintro Y H5 ⟨w,bZ,jM,f5,dep5,rfl,S5,h5c,h5w,h5f,aM⟩;rw [A3,J7] at aM;exact ⟨⟨_,_,rfl⟩,S5,bZ,jM,f5,h5c,h5w,h5f,dep5,aM.weak fun x y h=>(by
     rw [tk] at h
     rcases D8.mp h.1 with h1 | h1
     .exact .inl ⟨h1,h.2⟩
     .have e:=D3.mp h1;exact .inr ⟨e,by rw [<- e];exact h.2⟩)⟩
  .rintro Y H4 ⟨v,w,xH,fs,f4,dep4,rfl,S4,h4c,h4w,h4f,bl⟩;rw [A3] at bl;walk_at "rd";exact ⟨S4,xH,fs,f4,h4c,h4f,dep4,BL.done bf bl⟩
theorem ad9:FnScope ["after", "ahead", "piece", "leaving", "behind", "other"] ["after", "ahead", "piece"] (C8 uR):=L4
theorem agW(F:FunD K "take_out" "take_out" uR f fd)(T:Txt P w K mg C C_Clash C_NoLetter C_Round):FnOk P w K mg base G9 1 f fd ["after", "ahead", "piece"] aj9:=by
 refine F.ok ad9 ?_ ?_
 .rintro _ _ _ _ ⟨d,c,z,R,ts,ad,E,rfl,_⟩;rfl
 .intro cdv A outer s H vs Q E hr h;have C9:=hu_of hr;have hu:=hr.units;have hZ:=K9 ad9;refine ⟨_,QSs.out (C1 (E1 3 (M6 (qa_c (qz 2) A2)))
   (B5 (oJ PassesOwn.never (m8 (K:=K) (qz 3)) (C1 (E1 4 (alm (qz 0) (qe_m0 (K:=K) U1 PySem.F.slot_list_pop PySem.F.type_list_pop q_pop (qz 3))))
   (B5 (N4 PassesOwn.never (O4 (K:=K) (qz 4)) (K0 5) (C1 (sN C9 (qz 1) (qz 5) A8 aml)
   (B5 (qs_if (QW.pt (kO (E6 (q_eq (K:=K) hu) (Z1 C9 (qz 1) (qz 5)) A8) (kN (E6 (q_in (K:=K) hu) (qz 5) (qz 0))))) (B5 (R0 (qe_mB (K:=K) U1 j6 j5 m9 (qz 3) (qa_c (qz 5) A2)))) K1))))))))),?_⟩
  obtain ⟨d,c,z,R,ts,ad,E,rfl,hd,hc,hdc,hRn,hRt,bN,hRl,hE,C0,hz,q⟩:=h;walk_at "rd";refine ⟨by decide,fun lv nlv=>?_⟩;have v8:d≠lv:=fun e=>by rw [e,nlv] at hd;cases hd
  have N7:c≠lv:=fun e=>by rw [e,nlv] at hc;cases hc
  have jN:∀ t∈ts,ad t≠d/\ad t≠c/\ad t≠lv:=fun t ht=>by
   have:=C0 t ht
   exact ⟨(fun e=>(by rw [e,hd] at this;cases this)),(fun e=>(by rw [e,hc] at this;cases this)),fun e=>(by rw [e,nlv] at this;cases this)⟩
  have put2:∀ {H':Hp} {o:HO},Same2 d c H H'->Same2 d c H (A0 H' lv o):=fun s b o h1 h2 h=>by rw [A4 (fun e=>by rw [e,nlv] at h;cases h)];exact s b o h1 h2 h
  have putd:∀ {H':Hp} {o:HO},Same2 d c H H'->Same2 d c H (A0 H' d o):=fun s b o h1 h2 h=>by rw [A4 h1];exact s b o h1 h2 h
  have putc:∀ {H':Hp} {o:HO},Same2 d c H H'->Same2 d c H (A0 H' c o):=fun s b o h1 h2 h=>by rw [A4 h2];exact s b o h1 h2 h
  refine oK (fun m Y H2=>∃ (u v:Option V) (R' ls:List Str),Y=[some (.ref d),some (.ref c),some (.str z),some (.ref lv),u,v]/\Same2 d c H H2/\H2 d=some (.dK (A5 R' fun t=>.ref (ad t)))/\H2 c=some (.dK (A5 ts fun t=>.int (cntIn E R' t:Nat)))/\H2 lv=some (.lst (ls.map V.str))/\R'.Nodup/\(∀ t∈R',t∈R)/\R'.length<=R.length/\ls.Nodup/\(∀ x∈ls,x∈R')/\(∀ x∈ls.dropLast,cntIn E R' x=0)/\TK E R z R' ls/\m=R'.length) R.length
   ⟨none,none,R,[z],rfl,put2 (fun b o _ _ h=>h),by rw [A4 v8];exact hd,by rw [A4 N7];exact hc,A1,hRn,fun t h=>h,C3 _,by simp,fun x hx=>(by rw [D3.mp hx];exact hz),by simp,⟨fun x hx=>.inl (D3.mp hx),.inl rfl,fun C _ h _=>h⟩,rfl⟩ ?_
  rintro m Y H2 ⟨u,v,R',ls,rfl,S,h2d,h2c,h2l,hR'n,hR's,hR'l,hln,hls,iZ,tk,rfl⟩;walk_at "rd";refine ⟨_,kR h2l,?_⟩
  rcases List.eq_nil_or_concat ls with Q3 | ⟨l0,x,mP⟩
  .rw [Q3] at tk ⊢
   exact iteF (q R' H2 hR's hR'n hR'l (tk.b.resolve_left 'c') tk.c S h2d h2c)
  rw [List.concat_eq_append] at mP;subst mP;rw [show (!((l0++[x]).map V.str).isEmpty)=true by simp];have hxR:x∈R':=hls x 'c';have aK:x∈ts:=hRt x (hR's x hxR);have xK:∀ y∈l0,cntIn E R' y=0:=fun y hy=>iZ y (by rw [List.dropLast_concat];exact hy)
  refine iteT ⟨fun σ' H'=>∃ (u v:Option V) (R2 ls:List Str),σ'=[some (.ref d),some (.ref c),some (.str z),some (.ref lv),u,v]/\Same2 d c H H'/\H' d=some (.dK (A5 R2 fun t=>.ref (ad t)))/\H' c=some (.dK (A5 ts fun t=>.int (cntIn E R2 t:Nat)))/\H' lv=some (.lst (ls.map V.str))/\R2.Nodup/\(∀ t∈R2,t∈R)/\R2.length<R'.length/\ls.Nodup/\(∀ x∈ls,x∈R2)/\(∀ x∈ls.dropLast,cntIn E R2 x=0)/\TK E R z R2 ls,?_,?_⟩
  .rintro σ' H' ⟨u,v,R2,ls,rfl,h1,h2,h3,h4,h5,h6,h7,h8,h9,h10,h11⟩;exact ⟨R2.length,h7,⟨_,_,rfl⟩,h1,R2,h2,h3,ls,h4,h5,h6,by lia,h8,h9,h10,h11,rfl⟩
  obtain ⟨ha1,ha2,ha3⟩:=jN x aK;have mU:l0.Nodup/\x∉l0:=by
   obtain ⟨n1,n2,n3⟩:=X8.mp hln;exact ⟨n1,fun h=>n3 x h x 'c' rfl⟩
  refine ⟨.inl ⟨_,.inl h2d⟩,R8 h2l,lv,_,V.str x,rfl,rfl,h2l,by simp,?_⟩;rw [show ((l0++[x]).map V.str).dropLast=l0.map V.str by rw [E2];exact List.dropLast_concat];have h3d:A0 H2 lv (.lst (l0.map V.str)) d=some (.dK (A5 R' fun t=>.ref (ad t))):=by rw [A4 v8];exact h2d
  refine ⟨_,h3d,Sum.inr x,rfl,V.ref (ad x),by rw [N5,if_pos hxR],ad x,rfl,?_⟩;rw [al1 _ _ hR'n];have S4:Same2 d c H (A0 (A0 H2 lv (.lst (l0.map V.str))) d (.dK (A5 (R'.erase x) fun t=>.ref (ad t)))):=putd (put2 S);have h4d:A0 (A0 H2 lv (.lst (l0.map V.str))) d (.dK (A5 (R'.erase x) fun t=>.ref (ad t))) d=some (.dK (A5 (R'.erase x) fun t=>.ref (ad t))):=A1;have h4c:A0 (A0 H2 lv (.lst (l0.map V.str))) d (.dK (A5 (R'.erase x) fun t=>.ref (ad t))) c=some (.dK (A5 ts fun t=>.int (cntIn E R' t:Nat))):=by rw [A4 hdc.symm,A4 N7];exact h2c
  have h4l:A0 (A0 H2 lv (.lst (l0.map V.str))) d (.dK (A5 (R'.erase x) fun t=>.ref (ad t))) lv=some (.lst (l0.map V.str)):=by rw [A4 v8.symm,A1]
  generalize A0 (A0 H2 lv (.lst (l0.map V.str))) d (.dK (A5 (R'.erase x) fun t=>.ref (ad t)))=H4 at S4 h4d h4c h4l ⊢
  have qH:∀ q,cntIn E R' q=cntIn E (R'.erase x) q+(C4 E x).count q:=agL hR'n hxR;refine ⟨⟨_,.of (S4 _ _ ha1 ha2 (C0 x aK))⟩,forL (xs:=(C4 E x).map V.str) (fun j Y H5=>∃ (v:Option V) (ls:List Str),Y=[some (.ref d),some (.ref c),some (.str z),some (.ref lv),some (.ref (ad x)),v]/\Same2 d c H H5/\H5 d=some (.dK (A5 (R'.erase x) fun t=>.ref (ad t)))/\H5 c=some (.dK (A5 ts fun t=>.int ((cntIn E R' t:Nat)-(((C4 E x).take j).count t:Nat))))/\H5 lv=some (.lst (ls.map V.str))/\ls.Nodup/\(∀ y∈ls,y∈R'.erase x)/\(∀ y∈ls,cntIn E R' y=((C4 E x).take j).count y))
   ⟨v,l0,rfl,S4,h4d,?_,h4l,mU.1,fun y hy=>(hR'n.mem_erase_iff).mpr ⟨fun e=>mU.2 (by rw [<- e];exact hy),hls y (by simp [hy])⟩,fun y hy=>by rw [xK y hy];simp⟩ (by rintro j Y H5 _ ⟨_,_,_,S5,_⟩;exact .of (S5 _ _ ha1 ha2 (C0 x aK))) ?_ ?_⟩
  .rw [h4c];exact congrArg (fun x=>some (HO.dK x)) (P6 fun t _=>congrArg V.int 'c')
  .rintro j v5 Y H5 mR ⟨v,ls,rfl,S5,h5d,h5c,h5l,bL,jO,jP⟩;obtain ⟨y,hy,rfl⟩:=J1 mR;have o5:y∈ts:=by
    have:=L7 hy
    unfold C4 at this;obtain ⟨e,he,rfl⟩:=D0.mp this;exact hE e (N1.mp he).1
   have i6:∀ q,((C4 E x).take (j+1)).count q=((C4 E x).take j).count q+if y=q then 1 else 0:=fun q=>by
    rw [J9 hy,gG,nO]
    by_cases e:y=q
    .rw [if_pos e,if_pos (by simpa using e)]
    .rw [if_neg e,if_neg (by simpa using e)]
   have i4:((C4 E x).take j).count y<cntIn E R' y:=by
    have h1:=qH y;have h2:(C4 E x).count y=((C4 E x).take (j+1)).count y+((C4 E x).drop (j+1)).count y:=by rw [<- gG,X7]
    rw [i6,if_pos rfl] at h2;lia
   have i7:y∉ls:=fun h=>by have:=jP y h;lia
   have xL:∀ y2∈ls,cntIn E R' y2=((C4 E x).take (j+1)).count y2:=fun y2 h2=>by
    rw [i6,if_neg (fun e=>i7 (by rw [e];exact h2)),Nat.add_zero];exact jP y2 h2
   walk_at "rd";refine ⟨_,.inl ⟨_,Sum.inr y,.inl h5c,rfl,by rw [N5,if_pos o5]⟩,_,_,rfl,rfl,_,y8 (k:=Sum.inr y) h5c (by rw [Z3];exact K8 'b'),?_⟩;have h6c:A0 H5 c (.dK (putK (A5 ts fun t=>V.int ((cntIn E R' t:Nat)-(((C4 E x).take j).count t:Nat))) (Sum.inr y) (V.int ((cntIn E R' y:Nat)-(((C4 E x).take j).count y:Nat)-1)))) c=some (.dK (A5 ts (fun t=>V.int ((cntIn E R' t:Nat)-(((C4 E x).take (j+1)).count t:Nat))))):=by
    rw [A1,kW _ o5];refine congrArg (fun x=>some (HO.dK x)) (P6 fun q _=>?_);rw [i6]
    by_cases e:q=y
    .rw [if_pos e,e,if_pos rfl];exact congrArg V.int 'b'
    .rw [if_neg e,if_neg (fun z=>e z.symm)];exact congrArg V.int 'b'
   have S6:Same2 d c H (A0 H5 c (.dK (putK (A5 ts fun t=>V.int ((cntIn E R' t:Nat)-(((C4 E x).take j).count t:Nat))) (Sum.inr y) (V.int ((cntIn E R' y:Nat)-(((C4 E x).take j).count y:Nat)-1))))):=putc S5;have h6d:A0 H5 c (.dK (putK (A5 ts fun t=>V.int ((cntIn E R' t:Nat)-(((C4 E x).take j).count t:Nat))) (Sum.inr y) (V.int ((cntIn E R' y:Nat)-(((C4 E x).take j).count y:Nat)-1)))) d=some (.dK (A5 (R'.erase x) fun t=>.ref (ad t))):=by rw [A4 hdc];exact h5d
   have h6l:A0 H5 c (.dK (putK (A5 ts fun t=>V.int ((cntIn E R' t:Nat)-(((C4 E x).take j).count t:Nat))) (Sum.inr y) (V.int ((cntIn E R' y:Nat)-(((C4 E x).take j).count y:Nat)-1)))) lv=some (.lst (ls.map V.str)):=by rw [A4 N7.symm];exact h5l
   generalize A0 H5 c (.dK (putK (A5 ts fun t=>V.int ((cntIn E R' t:Nat)-(((C4 E x).take j).count t:Nat))) (Sum.inr y) (V.int ((cntIn E R' y:Nat)-(((C4 E x).take j).count y:Nat)-1))))=H6 at h6c S6 h6d h6l ⊢
   refine ⟨V.int ((cntIn E R' y:Nat)-(((C4 E x).take (j+1)).count y:Nat)),.inl ⟨_,Sum.inr y,.inl h6c,rfl,by rw [N5,if_pos o5]⟩,?_⟩
   try walk_at "rd"
   refine iteD (fun h0=>rInR.d (cV (k:=Sum.inr y) h6d) ⟨_,rfl,?_⟩) fun h0=>⟨S6,h6d,h6c,ls,h6l,bL,jO,xL⟩
   rw [N5,Bool.false_xor]
   by_cases hm:y∈R'.erase x
   .rw [if_pos hm,kD];have xM:ls.length<=1000:=by
     have h1:=u4 bL jO;have h2:=dY hxR;lia
    refine iteT ⟨R8 h6l,appOk h6l (by rw [A3];exact K8 'b') ⟨put2 S6,?_,?_,ls++[y],?_,?_,?_,?_⟩⟩
    .rw [A4 v8];exact h6d
    .rw [A4 N7];exact h6c
    .rw [A1,E2];rfl
    .rw [X8];refine ⟨bL,by simp,fun a ha b hb e=>i7 ?_⟩;rw [<- D3.mp hb,<- e];exact ha
    .intro y2 h2
     rcases D8.mp h2 with h | h
     .exact jO y2 h
     .rw [D3.mp h];exact hm
    .intro y2 h2
     rcases D8.mp h2 with h | h
     .exact xL y2 h
     .rw [D3.mp h];lia
   .rw [if_neg hm,Option.isSome_none];exact iteF ⟨S6,h6d,h6c,ls,h6l,bL,jO,xL⟩
  .rintro Y H5 ⟨v,ls,rfl,S5,h5d,h5c,h5l,bL,jO,jP⟩;rw [A3,J7] at h5c jP;refine ⟨_,_,R'.erase x,ls,rfl,S5,h5d,?_,h5l,hR'n.erase _,fun t ht=>hR's t (List.mem_of_mem_erase ht),?_,bL,jO,fun y hy=>?_,tk.step hR'n fun y hy=>(by have h1:=jP y hy;have h2:=qH y;lia)⟩
   .rw [h5c];exact congrArg (fun x=>some (HO.dK x)) (P6 fun q _=>congrArg V.int (by have:=qH q;lia))
   .have h1:=dY hxR;have h2:=jW hxR;lia
   .have h1:=jP y ((List.dropLast_sublist ls).subset hy);have h2:=qH y;lia
theorem abP:FnScope ["rows", "after", "ahead", "best", "most", "piece", "found"] ["rows"] (C8 uS):=L4
theorem adh(F:FunD K "shortest_round" "shortest_round" uS f fd)(T:Txt P w K mg C C_Clash C_NoLetter C_Round)(G_told:FO P w K mg base 1 "told" ["rows"] [] tL)(G_followers:FO P w K mg base 2 "followers" ["rows"] [] spFol)(G_count_ahead:FO P w K mg base 1 "count_ahead" ["after"] [] sZ)(G_round_from:FO P w K mg base 2 "round_from" ["after", "start", "most"] [] spRFG)(G_take_out:FO P w K mg base 1 "take_out" ["after", "ahead", "piece"] [] aj9):FnOk P w K mg base G9 3 f fd ["rows"] vE:=by
 refine F.ok abP ?_ ?_
 .rintro _ _ _ _ ⟨a,rs,zss,rfl,_⟩;rfl
 .intro cdv A outer s H vs Q E hr h;have C9:=hu_of hr;have hu:=hr.units;have hZ:=K9 abP;refine ⟨_,QSs.out (C1 (E1 1 (E3 G_followers (hm hr) (qa_c (qz 0) A2)))
   (C1 (E1 2 (E3 G_count_ahead (hm hr) (qa_c (qz 1) A2)))
   (C1 (E1 3 (M6 A2))
   (C1 (E1 4 (qe_cB (q_len (K:=K)) T.b_len Y9 (qa_c (qz 1) A2)))
   (C1 (N4 PassesOwn.never (O4 (K:=K) (E3 G_told (hm hr) (qa_c (qz 0) A2))) (K0 5) (B5 (qs_if (E6 (q_in (K:=K) hu) (qz 5) (qz 1)) (C1 (E1 6 (E3 G_round_from (hm hr) (qa_c (qz 1) (qa_c (qz 5) (qa_c (qz 4) A2)))))
   (C1 (qs_if (m8 (K:=K) (qz 6)) (C1 (E1 3 (qz 6))
   (B5 (E1 4 (qe_op q_sub (qe_cB (q_len (K:=K)) T.b_len Y9 (qa_c (qz 6) A2)) A8)))) K1)
   (B5 (R0 (E3 G_take_out (hm hr) (qa_c (qz 1) (qa_c (qz 2) (qa_c (qz 5) A2)))))))) K1)))
   (B5 (E4 (qz 3)))))))),?_⟩
  obtain ⟨a,rs,zss,rfl,R,T6,q⟩:=h;walk_at "rd";refine ⟨a,rs,zss,rfl,R,by lia,fun d ad H1 nd S1 hd dl=>?_⟩
  try walk_at "rd"
  have A6:(toldL zss).length<=1000:=D5 (eM zss) T6;have hElen:(edges zss).length<=1000:=D5 (kZ zss) T6;have tnd:=kX zss;have etold:∀ e∈edges zss,e.1∈toldL zss/\e.2∈toldL zss:=fun e he=>bE he
  have rtold:∀ C,IsRound (edges zss) C->∀ x∈C,x∈toldL zss:=fun C r=>vF r
  refine ⟨d,toldL zss,ad,edges zss,rfl,hd,tnd,by lia,by lia,dl.row,etold,fun c H2 nc S2 hc bs nbs=>?_⟩;have X5:=S2 _ _ hd;refine ⟨(toldL zss).length,.inr (.inr ⟨_,.inl (C2 X5 nbs),by rw [Z3]⟩),a,rs,zss,rfl,(R.same (S1.trans S2)).same (Same.new nbs),by lia,fun l H4 nl S4 hl=>⟨l,rfl,⟨_,.of hl⟩,?_⟩⟩;have S3:Same H2 (A0 H2 bs (.lst [])):=Same.new nbs;have hb4:H4 bs=some (.lst []):=S4 _ _ A1;have qI:=S3.trans S4;have ncH:H c=none:=S1.free nc;have T3:d≠c:=fun e=>by rw [<- e,hd] at nc;cases nc
  have ndH:H d=none:=nd;have R5:=qI _ _ hc;have T7:=qI _ _ X5;have E8:∀ t∈toldL zss,H4 (ad t)=some (.lst ((C4 (edges zss) t).map V.str)):=fun t ht=>qI _ _ (S2 _ _ (dl.row t ht))
  generalize mV:toldL zss=ts at *;generalize hEE:edges zss=E at *;have qA:l≠d:=fun e=>by rw [e,T7] at hl;cases hl
  have fM:l≠c:=fun e=>by rw [e,R5] at hl;cases hl
  have jN:∀ t∈ts,ad t≠d/\ad t≠c:=fun t ht=>by
   have:=E8 t ht
   exact ⟨(fun e=>(by rw [e,T7] at this;cases this)),fun e=>(by rw [e,R5] at this;cases this)⟩
  have xN:H4 c=some (.dK (A5 ts fun t=>.int (cntIn E ts t:Nat))):=by
   rw [R5];exact congrArg (fun x=>some (HO.dK x)) (P6 fun t _=>by rw [afP fun e he=>(etold e he).1])
  refine forL (xs:=ts.map V.str) (fun i Y H5=>∃ (bs:Addr) (mo:Int) (u v:Option V) (R' g:List Str),Y=[some 'f',some (.ref d),some (.ref c),some (.ref bs),some (.int mo),u,v]/\Same2 d c H4 H5/\H5 d=some (.dK (A5 R' fun t=>.ref (ad t)))/\H5 c=some (.dK (A5 ts fun t=>.int (cntIn E R' t:Nat)))/\H5 bs=some (.lst (g.map V.str))/\SH E ts R' (ts.take i) g mo)
   ⟨bs,ts.length,none,none,ts,[],rfl,(fun b o _ _ h=>h),T7,xN,hb4,uae tnd rtold⟩ (by rintro i Y H5 _ ⟨_,_,_,_,_,_,_,S,_⟩;exact .of (S _ _ qA fM hl)) ?_ ?_
  .rintro i x0 Y H5 hx ⟨bs,mo,u,v,R',g,rfl,S5,h5d,h5c,h5b,sh⟩;obtain ⟨t,ht,rfl⟩:=J1 hx;have htt:t∈ts:=L7 ht;have hbd:bs≠d:=fun e=>by rw [e,h5d] at h5b;cases h5b
   have hbc:bs≠c:=fun e=>by rw [e,h5c] at h5b;cases h5b
   have hR'l:R'.length<=1000:=D5 (u4 sh.nd sh.sub) A6;have hmo:=sh.le;walk_at "rd";rw [J9 ht];refine rInR.d (cV (k:=Sum.inr t) h5d) ⟨_,rfl,?_⟩;rw [N5,Bool.false_xor]
   by_cases hm:t∈R'
   .rw [if_pos hm,kD];refine iteT ⟨d,t,mo,R',ad,E,rfl,h5d,hm,hR'l,fun u hu=>S5 _ _ (jN u (sh.sub u hu)).1 (jN u (sh.sub u hu)).2 (E8 u (sh.sub u hu)),by lia,fun fo g' H6 nfo S6 o4 N6=>?_⟩;have h6d:=S6 _ _ h5d;have h6c:=S6 _ _ h5c;have h6r:∀ u∈ts,H6 (ad u)=some (.lst ((C4 E u).map V.str)):=fun u hu=>S6 _ _ (S5 _ _ (jN u hu).1 (jN u hu).2 (E8 u hu))
    refine ⟨_,kR o4,?_⟩
    rcases N6 with ⟨bst,dO⟩ | ⟨mW,u7⟩
    .have G7:g'≠[]:=bst.rnd.ne;have jQ:fo≠d:=fun e=>by rw [e,h6d] at o4;cases o4
     have dP:fo≠c:=fun e=>by rw [e,h6c] at o4;cases o4
     rw [show (!(g'.map V.str).isEmpty)=true by cases g' with | nil=>exact absurd rfl G7 | cons=>rfl];refine iteT ⟨g'.length,.inl ⟨_,.of o4,by rw [A3]⟩,?_⟩
     try walk_at "rd"
     refine ⟨d,c,t,R',ts,ad,E,rfl,h6d,h6c,T3,sh.nd,sh.sub,by lia,hR'l,fun e he=>(etold e he).2,h6r,hm,fun R2 H7 g1 g2 g3 g4 g5 s7 h7d h7c=>?_⟩;exact ⟨fun b o h1 h2 h=>s7 b o h1 h2 (S6 _ _ (S5 b o h1 h2 h)),R2,h7d,h7c,g',s7 _ _ jQ dP o4,sh.found bst dO g1 g2 g4 g5⟩
    .rw [mW] at o4;rw [mW];refine iteF ⟨d,c,t,R',ts,ad,E,rfl,h6d,h6c,T3,sh.nd,sh.sub,by lia,hR'l,fun e he=>(etold e he).2,h6r,hm,fun R2 H7 g1 g2 g3 g4 g5 s7 h7d h7c=>?_⟩;exact ⟨fun b o h1 h2 h=>s7 b o h1 h2 (S6 _ _ (S5 b o h1 h2 h)),R2,h7d,h7c,g,s7 _ _ hbd hbc (S6 _ _ h5b),sh.not u7 g1 g2 g4 g5⟩
   .rw [if_neg hm,Option.isSome_none];exact iteF ⟨S5,R',h5d,h5c,g,h5b,sh.pass hm⟩
  .rintro Y H5 ⟨bs,mo,u,v,R',g,rfl,S5,h5d,h5c,h5b,sh⟩;rw [A3,J7] at sh;walk_at "rd";have S14:=(S1.trans S2).trans qI;exact q bs g H5 (fun b o h=>S5 b o (O3 h ndH) (O3 h ncH) (S14 b o h)) h5b (sh.fin rtold)
abbrev zA0:List Str:=["rules", "word"]
abbrev zA1:List Str:=["self"]
abbrev zA2:List Str:=["_law_script", "_law_k"]
abbrev zA3:List Str:=["rows"]
abbrev zA4:List Str:=["rules"]
abbrev zA5:List Str:=["_law_script"]
abbrev zA6:List Str:=["piece", "jobs"]
abbrev zA7:List Str:=["_law_rows_here", "_law_found"]
abbrev zA8:List Str:=["jobs", "piece", "job", "figures"]
abbrev zA9:List Str:=["self", "rules"]
abbrev zAa:List Str:=["_law_rules_here", "_law_word"]
abbrev zAb:List Str:=["rule", "word"]
abbrev zAc:List Str:=["self", "piece"]
abbrev zAd:List Str:=["rule", "jobs", "first"]
abbrev zAe:List Str:=["rules", "jobs"]
abbrev zAf:List Str:=["_law_j", "_law_script"]
abbrev zAg:List Str:=["rows", "after", "ahead", "pieces", "numbers", "free", "line", "number", "other"]
abbrev zAh:List Str:=["number", "piece"]
abbrev zAi:List Str:=["rule", "jobs"]
abbrev zAj:List Str:=["rules", "letters", "marks"]
abbrev zAk:List Str:=["_law_cell", "_law_many"]
abbrev zAl:List Str:=["_law_rows_here", "_law_one", "_law_other"]
abbrev zAm:List Str:=["_law_rows_here", "_law_left", "_law_row", "_law_k", "_law_turn_here", "_law_behind"]
abbrev zAn:List Str:=["_law_rows_here"]
abbrev zAo:List Str:=["_law_rules_here"]
abbrev zAp:List Str:=["_law_script", "_law_rules_here", "_law_k", "_law_cell", "_law_at"]
abbrev zAq:List Str:=["piece", "numbers", "ahead"]
abbrev zAr:List Str:=["rules", "letters", "marks", "steps", "place", "letter", "mark", "forms", "case", "form", "rule"]
theorem sc_lined_up:FnScope zAg zA3 (C8 bH):=L4
abbrev LS(s:Stmt)(x:Str):Prop:=Y1 (C8 s) x
theorem lq{s:Stmt}(h:(C8 s).names.lookup x=some .local\/(C8 s).names.lookup x=some .cell:=by decide +kernel):LS s x:=h
theorem vaa:LS bH "free":=lq
theorem agX(F:FunD K "lined_up" "lined_up" bH f fd)(T:Txt P w K mg C C_Clash C_NoLetter C_Round)(G_Round___init__:EO P w K mg base 1 C_Round "Round" ["self", "pieces"] (vD K C_Round "pieces"))(G_followers:FO P w K mg base 2 "followers" zA3 [] spFol)(G_count_ahead:FO P w K mg base 1 "count_ahead" ["after"] [] sZ)(G_shortest_round:FO P w K mg base 3 "shortest_round" zA3 [] vE):FnOk P w K mg base (U4 P w) 4 f fd zA3 (vH C_Round):=by
 refine F.okX sc_lined_up ?_ ?_
 .rintro _ _ _ _ ⟨a,rs,zss,rfl,_⟩;rfl
 .intro cdv A outer s H vs Q E hr h;have C9:=hu_of hr;have hu:=hr.units;have hZ:=K9 sc_lined_up;refine ⟨_,QSs.out (C1 (E1 1 (E3 G_followers (hm hr) (qa_c (qz 0) A2)))
   (C1 (E1 2 (E3 G_count_ahead (hm hr) (qa_c (qz 1) A2)))
   (C1 (E1 3 (qe_cT (cX (K:=K) (calm:=true)) T.b_list y9 (qa_c (qz 1) A2)))
   (C1 (E1 4 (qe_cT (anI (K:=K) (calm:=true)) T.b_dict anA (qa_c (u0  (Z5:CompOk zAg (C8 bH).names _ zAh 2 []) (oR T.b_enumerate (qa_c (qz 3) A2)) (fun _ _ _ _ _=>(eP (K:=K) (n:=2) (Z2 (W7 (n:=0) (show List.Nodup (zAh:List Str) by decide +kernel) rfl (Or.inl rfl)) (Z2 (W7 (n:=1) (show List.Nodup (zAh:List Str) by decide +kernel) rfl (Or.inl rfl)) eO)))) (fun _ _ _ _ _=>eQ) (fun _ _ _ _ _=>(R9 (qa_c (qv 1) (qa_c (qv 0) A2))))) A2)))
   (C1 (sO (n:=5) sc_lined_up.nd rfl vaa (Z5:CompOk zAg (C8 bH).names _ zAq 1 [4,2]) (O4 (K:=K) (qz 3)) (fun _ _ _ _ _=>W7 (n:=0) (show List.Nodup (zAq:List Str) by decide +kernel) rfl (Or.inl rfl)) (fun _ _ _ _ _=>(eR (E6 (q_eq (K:=K) hu) (Z1 C9 (qv 2) (qv 0)) A8))) (fun _ _ _ _ _=>(Z1 C9 (qv 1) (qv 0))))
   (C1 (E1 6 (M6 A2))
   (C1 (oJ PassesOwn.leaving (m8 (K:=K) (qz 5)) (C1 (E1 7 (qe_cB (aqW (calm:=true)) T.b_min aqz (qa_c (qz 5) A2)))
   (C1 (R0 (qe_mB (K:=K) U1 PySem.F.slot_list_remove PySem.F.type_list_remove ajt (qz 5) (qa_c (qz 7) A2)))
   (C1 (R0 (qe_mB (K:=K) U1 j6 j5 m9 (qz 6) (qa_c (qe_ix (K:=K) (qz 3) (qz 7)) A2)))
   (B5 (N4 PassesOwn.leaving (O4 (K:=K) (Z1 C9 (qz 1) (qe_ix (K:=K) (qz 3) (qz 7)))) (K0 8) (C1 (sN C9 (qz 2) (qz 8) A8 aml)
   (B5 (qs_if (E6 (q_eq (K:=K) hu) (Z1 C9 (qz 2) (qz 8)) A8) (B5 (R0 (qe_mB (K:=K) U1 j6 j5 m9 (qz 5) (qa_c (Z1 C9 (qz 4) (qz 8)) A2)))) K1)))))))))
   (C1 (qs_if (E6 q_lt (qe_cB (q_len (K:=K)) T.b_len Y9 (qa_c (qz 6) A2)) (qe_cB (q_len (K:=K)) T.b_len Y9 (qa_c (qz 3) A2))) (B5 (uK (fun _ _ _ _ _ _ _ I h1 h2=>uE I h1 h2) (uG G_Round___init__ (hm hr) (qa_c (E3 G_shortest_round (hm hr) (qa_c (qz 0) A2)) A2)) (K:=K))) K1)
   (B5 (E4 (qz 6))))))))))),?_⟩
  obtain ⟨a,rs,zss,rfl,hR,hz,lP,q,qx⟩:=h;obtain ⟨fN,MN⟩:=T.er_Round;walk_at "rd";have A6:(toldL zss).length<=500:=D5 (eM zss) hz;have hElen:(edges zss).length<=500:=D5 (kZ zss) hz;have xO:∀ t∈toldL zss,X1 t:=fun t ht=>by
   obtain ⟨zs,h1,h2⟩:=cJ.mp ((dB t zss).mp ht);exact lP zs h1 t h2
  have rtold:∀ C,IsRound (edges zss) C->∀ x∈C,x∈toldL zss:=fun C r=>vF r
  have tnd:=kX zss;have etold:∀ e∈edges zss,e.1∈toldL zss/\e.2∈toldL zss:=fun e he=>bE he
  refine ⟨a,rs,zss,rfl,hR,by lia,fun d ad H1 nd S1 hd dl=>?_⟩;generalize mV:toldL zss=ts at *;generalize hEE:edges zss=E at *;refine ⟨d,ts,ad,E,rfl,hd,tnd,by lia,by lia,dl.row,etold,fun c H2 nc S2 hc=>?_⟩;walk_at "rd";refine rListR.d (.of (S2 _ _ hd)) fun w nw=>?_
  rw [ale];have aN:=S1.trans S2;have ncH:H c=none:=S1.free nc;have X5:=S2 _ _ hd;have ncd:c≠d:=fun e=>by rw [e,hd] at nc;cases nc
  have nac:∀ t∈ts,ad t≠c:=fun t ht e=>by have:=dl.row t ht;rw [e,nc] at this;cases this
  have qJ:A0 H2 w (.lst (ts.map V.str)) w=some (.lst (ts.map V.str)):=A1;have Sw:Same H2 (A0 H2 w (.lst (ts.map V.str))):=Same.new nw;generalize A0 H2 w (.lst (ts.map V.str))=H3 at qJ Sw ⊢
  have idx:∀ {i:Nat} {z:Str},ts[i]?=some z->ts.idxOf z=i:=fun {i z} h=>by
   obtain ⟨hi,rfl⟩:=F8.mp h;exact List.Nodup.idxOf_getElem tnd i hi
  refine ⟨w,rfl,⟨_,qJ⟩,compE (xs:=ts.map V.str) [] rfl (fun D i ys H4=>∃ qs:List Addr,ys=qs.map V.ref/\Same H3 H4/\Paired (fun q t=>H4 q=some (.tup [.str t,.int (ts.idxOf t:Nat)])) qs (ts.take i)) (fun D nD=>⟨[],rfl,Same.new nD,.nil⟩) (by rintro D i ys H4 nD _ ⟨_,_,S,_⟩;exact S _ _ qJ) ?_ ?_⟩
  .rintro D i x t ys H4 nD hi hx ⟨qs,rfl,S,P4⟩ hD hy nt;obtain ⟨z,hz,rfl⟩:=J1 hx;rw [A3] at hi hy;walk_at "rd";refine ⟨by decide,fun p np=>⟨C2 (C2 hD nt) np,by rw [A3];exact K8 'b',iK.put (by rw [A3];exact hi) (by rw [A3];exact hy) ⟨qs++[p],by rw [E2];rfl,((S.trans (Same.new nt)).trans (Same.new np)).put nD,?_⟩⟩⟩;rw [J9 hz];refine Paired.snoc (j8 P4 fun q t' h=>?_) ?_
   .rw [A4 (fun e=>by rw [e,hD] at h;cases h)];exact C2 (C2 h nt) np
   .rw [A4 (fun e=>by rw [e,C2 hD nt] at np;cases np),A1,idx hz]
  rintro D ys H4 nD ⟨qs,rfl,xP,P4⟩ hD hy;rw [A3,J7] at P4;refine ⟨rfl,D,qs,_,rfl,.of hD,ahp (f:=fun t=>.int (ts.idxOf t:Nat)) P4,fun nm nnm=>?_⟩;rw [show g6 [] (A5 ts fun t=>V.int (ts.idxOf t:Nat))=A5 ts fun t=>V.int (ts.idxOf t:Nat) from afU (pre:=[]) (by simpa using tnd)];have S5:Same H2 (A0 H4 nm (.dK (A5 ts fun t=>V.int (ts.idxOf t:Nat)))):=(Sw.trans xP).trans (Same.new nnm);have cA:A0 H4 nm (.dK (A5 ts fun t=>V.int (ts.idxOf t:Nat))) w=some (.lst (ts.map V.str)):=C2 (xP _ _ qJ) nnm;have xQ:A0 H4 nm (.dK (A5 ts fun t=>V.int (ts.idxOf t:Nat))) nm=some (.dK (A5 ts fun t=>V.int (ts.idxOf t:Nat))):=A1;have R5:H4 c=some (.dK (A5 ts fun t=>.int (G6 E [] t:Nat))):=xP _ _ (Sw _ _ hc);have ncn:c≠nm:=fun e=>by rw [<- e,R5] at nnm;cases nnm
  generalize A0 H4 nm (.dK (A5 ts fun t=>V.int (ts.idxOf t:Nat)))=H5 at S5 cA xQ ⊢
  have W2:=S5 _ _ hc;have hd5:=S5 _ _ X5;have jC:∀ t∈ts,H5 (ad t)=some (.lst ((C4 E t).map V.str)):=fun t ht=>S5 _ _ (S2 _ _ (dl.row t ht))
  have S05:=aN.trans S5;have ncw:c≠w:=fun e=>by rw [e,cA] at W2;cases W2
  refine ⟨w,rfl,⟨_,.of cA⟩,compL (xs:=ts.map V.str) [some (.ref nm),some (.ref c)] rfl (fun D i ys H6=>∃ fr:List Int,ys=fr.map V.int/\Same H5 H6/\FS (ts.take i) [] (fun q=>G6 E [] q=0) fr) (fun D nD=>⟨[],rfl,Same.new nD,FS.nil _⟩) (by rintro D i ys H6 nD _ ⟨_,_,S,_⟩;exact .of (S _ _ cA)) ?_ ?_⟩
  .rintro D i x ys H6 nD hi hx ⟨fr,rfl,S,F⟩ hD hy;obtain ⟨z,hz,rfl⟩:=J1 hx;have hzt:z∈ts:=L7 hz;have hil:i<ts.length:=(F8.mp hz).1;rw [A3] at hy;have hs:=F.snoc (i:=i) (q:=z) (by rw [K6];lia) 'c';rw [<- J9 hz] at hs;walk_at "rd";refine ⟨V.int (G6 E [] z:Nat),.inl ⟨_,Sum.inr z,.inl (S _ _ W2),rfl,by rw [N5,if_pos hzt]⟩,?_⟩
   try walk_at "rd"
   refine iteD (fun h0=>⟨V.int (ts.idxOf z:Nat),.inl ⟨_,Sum.inr z,.inl (S _ _ xQ),rfl,by rw [N5,if_pos hzt]⟩,hD,by rw [A3];exact K8 'b',CW.put hi (by rw [A3];exact hy) ⟨fr++[(i:Int)],by rw [E2,idx hz];rfl,S.put nD,hs.1 'b'⟩⟩) fun h0=>⟨hD,CW.skip hi (by rw [A3];exact hy) ⟨fr,rfl,S,hs.2 'b'⟩⟩
  rintro f ys H6 nf ⟨fr,rfl,xR,F0⟩ xS hy;rw [A3,J7] at F0;intro ln nln;have nln5:H5 ln=none:=xR.free nln;have T6:f≠ln:=fun e=>by rw [e,nln] at xS;cases xS
  have frlen:∀ {line fr z},FS ts line z fr->fr.length<=ts.length:=fun {line fr z} F=>by
   have h1:∀ n∈fr,n∈(U0 ts.length).map fun (n:Nat)=>(n:Int):=fun n hn=>by
    obtain ⟨m,q,e,h2,_⟩:=(F.2 n).mp hn;exact D0.mpr ⟨m,aS.mpr (F8.mp h2).1,e.symm⟩
   have:=aeB F.1 h1
   simpa using this
  refine oK (fun m Y H7=>∃ (u v:Option V) (line:List Str) (fr:List Int),Y=[some 'f',some (.ref d),some (.ref c),some (.ref w),some (.ref nm),some (.ref f),some (.ref ln),u,v]/\SameBut c H5 H7/\
    H7 c=some (.dK (A5 ts fun t=>.int (G6 E line t:Nat)))/\H7 f=some (.lst (fr.map V.int))/\FS ts line (fun q=>G6 E line q=0) fr/\H7 ln=some (.lst (line.map V.str))/\R1 E ts line/\m=ts.length-line.length) ts.length
   ⟨none,none,[],fr,rfl,fun b o _ h=>C2 (xR _ _ h) nln,C2 (xR _ _ W2) nln,C2 xS nln,F0,A1,R1.nil _ _,rfl⟩ ?_
  rintro m Y H7 ⟨u,v,line,fr,rfl,B7,hc7,qK,F,xT,run,rfl⟩;have xU:Same H H7:=B7.same S05 ncH;walk_at "rd";refine ⟨_,kR qK,?_⟩
  by_cases Q3:fr=[]
  .rw [Q3];refine iteF ?_
   try walk_at "rd"
   refine ⟨line.length,.inl ⟨_,.of xT,by rw [A3]⟩,ts.length,.inl ⟨_,.of (B7 _ _ ncw.symm cA),by rw [A3]⟩,?_⟩
   try walk_at "rd"
   refine iteD (fun h=>?_) fun h=>q ln line H7 (S05.free nln5) xU xT run fun p hp=>Classical.byContradiction fun hn=>?_
   .have hU:(ts.filter fun x=>!decide (x∈line))≠[]:=fun e=>by
     have T4:∀ x∈ts,x∈line:=fun x hx=>Classical.byContradiction fun hn=>by
      have:x∈ts.filter fun x=>!decide (x∈line):=N1.mpr ⟨hx,by simp [hn]⟩
      rw [e] at this
      cases this
     have:=u4 tnd T4
     lia
    obtain ⟨C,rC,_⟩:=al0 (E:=E) hU fun x hx=>by
     obtain ⟨aI,bW⟩:=N1.mp hx;have hx3:x∉line:=by simpa using bW
     have hc0:G6 E line x≠0:=fun h0=>by
      obtain ⟨k,hk⟩:=jX.mp aI
      have:=(F.2 (k:Int)).mpr ⟨k,x,rfl,hk,hx3,h0⟩
      rw [Q3] at this
      cases this
     refine Classical.byContradiction fun u7=>hc0 (cnt_zero.mpr fun e he h2=>Classical.byContradiction fun h1=>u7 ⟨e.1,N1.mpr ⟨(etold e he).1,by simp [h1]⟩,by rw [<- h2];exact he⟩)
    refine ⟨a,rs,zss,rfl,hR.same xU,by lia,fun l g H8 S8 hl N6=>?_⟩;rw [hEE] at N6;have lst:Least E g:=by
     rcases N6 with h | ⟨_,h⟩
     .exact h
     .exact absurd rC (h C)
    have hgl:g.length<=500:=D5 (u4 lst.rnd.nd (rtold g lst.rnd)) A6;refine ⟨by decide,fun x nx=>⟨s.heap.objs.size,x,l,fN,g,rfl,A1,MN,T.na_Round,C2 hl nx,hgl,fun z hz=>xO z (rtold g lst.rnd z hz),fun p dx np nd ne=>?_⟩⟩;obtain ⟨r1,r2,r3,r4⟩:=aok (fld:=Str.ofString "pieces") nx np nd ne;exact ⟨rfl,C_Round,dx,r1,⟨fN,MN⟩,qx dx p g _ (fun b o h=>r2 _ _ (S8 _ _ (xU _ _ h))) r3 r4 lst⟩
   .have h1:(line++[p]).Nodup:=by
     rw [X8];exact ⟨run.nodup,by simp,fun a ha b hb e=>hn (by rw [<- D3.mp hb,<- e];exact ha)⟩
    have h3:=u4 h1 fun x hx=>by
     rcases D8.mp hx with h | h
     .exact run.sub h
     .rw [D3.mp h];exact hp
    rw [D4,eA] at h3;lia
  rw [show (!(fr.map V.int).isEmpty)=true by cases fr with | nil=>exact absurd rfl Q3 | cons=>rfl];refine iteT ⟨fun σ' H'=>∃ (u v:Option V) (line':List Str) (fr:List Int),σ'=[some 'f',some (.ref d),some (.ref c),some (.ref w),some (.ref nm),some (.ref f),some (.ref ln),u,v]/\SameBut c H5 H'/\
    H' c=some (.dK (A5 ts fun t=>.int (G6 E line' t:Nat)))/\H' f=some (.lst (fr.map V.int))/\FS ts line' (fun q=>G6 E line' q=0) fr/\H' ln=some (.lst (line'.map V.str))/\R1 E ts line'/\ts.length-line'.length<ts.length-line.length,?_,?_⟩
  .rintro σ' H' ⟨u,v,line',fr',rfl,h1,h2,h3,h4,h5,h6,h7⟩;exact ⟨_,h7,⟨_,_,rfl⟩,h1,line',h2,fr',h3,h4,h5,h6,rfl⟩
  try walk_at "rd"
  refine ⟨fr,qK,Q3,fun M hM v7=>?_⟩;obtain ⟨mm,p,rfl,v9,d0⟩:=agB F hM v7;obtain ⟨U6,v1,qL⟩:=kU d0;have xM:line.length<ts.length:=by
   have h1:(line++[p]).Nodup:=(run.snoc d0).nodup;have h3:=u4 h1 fun x hx=>(run.snoc d0).sub hx
   rw [D4,eA] at h3;lia
  have F1:=F.take tnd v9
  try walk_at "rd"
  refine ⟨R8 qK,aqV qK hM ?_⟩;have hwf:w≠f:=fun e=>by rw [e,nf] at cA;cases cA
  have xV:c≠f:=fun e=>by rw [e,nf] at W2;cases W2
  have N7:c≠ln:=fun e=>by rw [e,nln5] at W2;cases W2
  have B8:SameBut c H5 (A0 H7 f (.lst ((fr.erase (mm:Int)).map V.int))):=B7.put nf;have qM:A0 H7 f (.lst ((fr.erase (mm:Int)).map V.int)) ln=some (.lst (line.map V.str)):=by rw [A4 T6.symm];exact xT
  have hf8:A0 H7 f (.lst ((fr.erase (mm:Int)).map V.int)) f=some (.lst ((fr.erase (mm:Int)).map V.int)):=A1;have hc8:A0 H7 f (.lst ((fr.erase (mm:Int)).map V.int)) c=some (.dK (A5 ts fun t=>.int (G6 E line t:Nat))):=by rw [A4 xV];exact hc7
  generalize A0 H7 f (.lst ((fr.erase (mm:Int)).map V.int))=H8 at B8 qM hf8 hc8 ⊢
  have atp:J5 (ts.map V.str) (mm:Int)=some (V.str p):=t5 (by rw [P1,v9];rfl);refine ⟨R8 qM,_,.inl (.of (B8 _ _ ncw.symm cA)),V.str p,atp,appOk qM (by rw [A3];exact K8 'b') ?_⟩;have B9:SameBut c H5 (A0 H8 ln (.lst (line.map V.str++[V.str p]))):=B8.put nln5;have hl9:A0 H8 ln (.lst (line.map V.str++[V.str p])) ln=some (.lst ((line++[p]).map V.str)):=by rw [A1,E2];rfl
  have hf9:A0 H8 ln (.lst (line.map V.str++[V.str p])) f=some (.lst ((fr.erase (mm:Int)).map V.int)):=by rw [A4 T6];exact hf8
  have hc9:A0 H8 ln (.lst (line.map V.str++[V.str p])) c=some (.dK (A5 ts fun t=>.int (G6 E line t:Nat))):=by rw [A4 N7];exact hc8
  generalize A0 H8 ln (.lst (line.map V.str++[V.str p]))=H9 at B9 hl9 hf9 hc9 ⊢
  refine ⟨_,.inl (.of (B9 _ _ ncw.symm cA)),V.str p,atp,V.ref (ad p),.inl ⟨_,Sum.inr p,.inl (B9 _ _ ncd.symm hd5),rfl,by rw [N5,if_pos U6]⟩,ad p,rfl,⟨_,.of (B9 _ _ (nac p U6) (jC p U6))⟩,
   forL (xs:=(C4 E p).map V.str) (fun j Y H7=>∃ (x:Option V) (fr:List Int),Y=[some 'f',some (.ref d),some (.ref c),some (.ref w),some (.ref nm),some (.ref f),some (.ref ln),some (.int (mm:Int)),x]/\SameBut c H5 H7/\
    H7 c=some (.dK (A5 ts fun t=>.int ((G6 E line t:Nat)-(((C4 E p).take j).count t:Nat))))/\H7 f=some (.lst (fr.map V.int))/\FS ts (line++[p]) (fun q=>G6 E line q=((C4 E p).take j).count q) fr/\H7 ln=some (.lst ((line++[p]).map V.str)))
   ⟨v,_,rfl,B9,?_,hf9,F1.congr fun q=>'c',hl9⟩ (by rintro j Y H7 _ ⟨_,_,_,B,_⟩;exact .of (B _ _ (nac p U6) (jC p U6))) ?_ ?_⟩
  .rw [hc9];exact congrArg (fun x=>some (HO.dK x)) (P6 fun t _=>congrArg V.int 'c')
  .rintro j v5 Y X6 mR ⟨x,fr,rfl,B,w6,fV,F,fW⟩;obtain ⟨y,hy,rfl⟩:=J1 mR;have o5:y∈ts:=by
    have:=L7 hy
    unfold C4 at this;obtain ⟨e,he,rfl⟩:=D0.mp this;exact (etold e (N1.mp he).1).2
   have i4:((C4 E p).take j).count y<G6 E line y:=by
    have h1:=ahj (E:=E) (q:=y) v1;have h2:(C4 E p).count y=((C4 E p).take (j+1)).count y+((C4 E p).drop (j+1)).count y:=by rw [<- gG,X7]
    rw [J9 hy,gG,nO,if_pos 'c'] at h2;lia
   have hyb:y∉line++[p]:=fun hm=>by
    rcases D8.mp hm with hm | hm
    .have:=alo run hm;lia
    .rw [D3.mp hm] at i4;lia
   obtain ⟨my,hmy⟩:=jX.mp o5;have i6:∀ q,((C4 E p).take (j+1)).count q=((C4 E p).take j).count q+if y=q then 1 else 0:=fun q=>by
    rw [J9 hy,gG,nO]
    by_cases e:y=q
    .rw [if_pos e,if_pos (by simpa using e)]
    .rw [if_neg e,if_neg (by simpa using e)]
   have turn:=F.turn (z':=fun q=>G6 E line q=((C4 E p).take (j+1)).count q) tnd (y:=y) (fun q hq=>by rw [i6,if_neg (fun e=>hq e.symm),Nat.add_zero]) 'b' hmy hyb;have Q0:A5 ts (fun t=>V.int (if t=y then (G6 E line y:Nat)-(((C4 E p).take j).count y:Nat)-1 else (G6 E line t:Nat)-(((C4 E p).take j).count t:Nat)))=A5 ts (fun t=>V.int ((G6 E line t:Nat)-(((C4 E p).take (j+1)).count t:Nat))):=P6 fun q _=>by
    rw [i6]
    by_cases e:q=y
    .rw [if_pos e,e,if_pos rfl];exact congrArg V.int 'b'
    .rw [if_neg e,if_neg (fun z=>e z.symm)];exact congrArg V.int 'b'
   walk_at "rd";refine ⟨_,.inl ⟨_,Sum.inr y,.inl w6,rfl,by rw [N5,if_pos o5]⟩,_,_,rfl,rfl,_,y8 (k:=Sum.inr y) w6 (by rw [Z3];exact K8 'b'),?_⟩;have cB:A0 X6 c (.dK (putK (A5 ts fun t=>V.int ((G6 E line t:Nat)-(((C4 E p).take j).count t:Nat))) (Sum.inr y) (V.int ((G6 E line y:Nat)-(((C4 E p).take j).count y:Nat)-1)))) c=some (.dK (A5 ts (fun t=>V.int ((G6 E line t:Nat)-(((C4 E p).take (j+1)).count t:Nat))))):=by
    rw [A1,kW _ o5,<- Q0];refine congrArg (fun x=>some (HO.dK x)) (P6 fun q _=>?_)
    by_cases e:q=y
    .rw [if_pos e,if_pos e]
    .rw [if_neg e,if_neg e]
   have B11:SameBut c H5 (A0 X6 c (.dK (putK (A5 ts fun t=>V.int ((G6 E line t:Nat)-(((C4 E p).take j).count t:Nat))) (Sum.inr y) (V.int ((G6 E line y:Nat)-(((C4 E p).take j).count y:Nat)-1))))):=B.at;have cC:A0 X6 c (.dK (putK (A5 ts fun t=>V.int ((G6 E line t:Nat)-(((C4 E p).take j).count t:Nat))) (Sum.inr y) (V.int ((G6 E line y:Nat)-(((C4 E p).take j).count y:Nat)-1)))) f=some (.lst (fr.map V.int)):=by rw [A4 xV.symm];exact fV
   have fX:A0 X6 c (.dK (putK (A5 ts fun t=>V.int ((G6 E line t:Nat)-(((C4 E p).take j).count t:Nat))) (Sum.inr y) (V.int ((G6 E line y:Nat)-(((C4 E p).take j).count y:Nat)-1)))) ln=some (.lst ((line++[p]).map V.str)):=by rw [A4 N7.symm];exact fW
   generalize A0 X6 c (.dK (putK (A5 ts fun t=>V.int ((G6 E line t:Nat)-(((C4 E p).take j).count t:Nat))) (Sum.inr y) (V.int ((G6 E line y:Nat)-(((C4 E p).take j).count y:Nat)-1))))=H11 at cB B11 cC fX ⊢
   refine ⟨V.int ((G6 E line y:Nat)-(((C4 E p).take (j+1)).count y:Nat)),.inl ⟨_,Sum.inr y,.inl cB,rfl,by rw [N5,if_pos o5]⟩,?_⟩
   try walk_at "rd"
   have xW:=frlen F;refine iteD (fun h0=>⟨R8 cC,V.int (ts.idxOf y:Nat),.inl ⟨_,Sum.inr y,.inl (B11 _ _ ncn.symm xQ),rfl,by rw [N5,if_pos o5]⟩,appOk cC (by rw [A3];exact K8 'b') ?_⟩) fun h0=>?_
   .refine ⟨B11.put nf,?_,fr++[(my:Int)],?_,turn.1 'b',?_⟩
    .rw [A4 xV];exact cB
    .rw [A1,E2,idx hmy];rfl
    .rw [A4 T6.symm];exact fX
   .exact ⟨B11,cB,fr,cC,turn.2 'b',fX⟩
  .rintro Y X6 ⟨x,fr,rfl,B,w6,fV,F,fW⟩;rw [A3,J7] at w6 F;have dS:∀ q,G6 E line q=G6 E (line++[p]) q+(C4 E p).count q:=fun q=>ahj (E:=E) (q:=q) v1
   refine ⟨⟨_,_,rfl⟩,B,line++[p],?_,fr,fV,F.congr fun q=>?_,fW,run.snoc d0,by rw [D4,eA];lia⟩
   .rw [w6];exact congrArg (fun x=>some (HO.dK x)) (P6 fun q _=>congrArg V.int (by have:=dS q;lia))
   .have:=dS q
    lia
theorem adp:FnScope ["sign"] ["sign"] (C8 uT):=L4
theorem agf(F:FunD K "is_figure" "is_figure" uT f fd)(T:Txt P w K mg C C_Clash C_NoLetter C_Round):FnOk P w K mg base G9 1 f fd ["sign"] tM:=by
 refine F.ok adp ?_ ?_
 .rintro _ _ _ _ ⟨c,rfl,_⟩;rfl
 .intro cdv A outer s H vs Q E hr h;have C9:=hu_of hr;have hu:=hr.units;have hZ:=K9 adp;refine ⟨_,QSs.out (B5 (E4 (ak2 q_le q_le M3 (qz 0) M3))),?_⟩;obtain ⟨c,rfl,q⟩:=h;walk_at "rd";have e1:(Str.ofString "0").cps.toList=[48]:=by decide +kernel
  have e2:(Str.ofString "9").cps.toList=[57]:=by decide +kernel
  rw [e1,e2];simp only [aqR];refine iteN (fun h1=>?_) fun h1=>?_
  .have e:figO c=!decide (57<c):=by
    unfold figO;rw [decide_eq_true (by lia:48<=c)]
    by_cases h2:c<=57
    .rw [decide_eq_true h2,decide_eq_false (by lia:¬ 57<c)];rfl
    .rw [decide_eq_false h2,decide_eq_true (by lia:57<c)];rfl
   rw [e] at q;exact q
  .have e:figO c=false:=by unfold figO;rw [decide_eq_false (by lia:¬ 48<=c)];rfl
   rw [e] at q;exact q
theorem aea:FnScope zA0 zA0 (C8 pK):=L4
theorem agY(F:FunD K "has_rule" "has_rule" pK f fd)(T:Txt P w K mg C C_Clash C_NoLetter C_Round):FnOk P w K mg base G9 1 f fd zA0 (spHas K):=by
 refine F.ok aea ?_ ?_
 .rintro _ _ _ _ ⟨a,ts,R,w,rfl,_⟩;rfl
 .intro cdv A outer s H vs Q E hr h;have C9:=hu_of hr;have hu:=hr.units;have hZ:=K9 aea;refine ⟨_,QSs.out (B5 (E4 (qe_cB (q_any (calm:=true)) T.b_any amk (qa_c (u0  (Z5:CompOk zA0 (C8 pK).names _ zAb 1 [1]) (O4 (K:=K) (qz 0)) (fun _ _ _ _ _=>W7 (n:=0) (show List.Nodup (zAb:List Str) by decide +kernel) rfl (Or.inl rfl)) (fun _ _ _ _ _=>eQ) (fun _ _ _ _ _=>(cW (q_eq (K:=K) hu) (qe_ix (K:=K) (qv 0) A8) (qv 1)))) A2)))),?_⟩;obtain ⟨a,ts,R,w,rfl,hR,hl,q⟩:=h;walk_at "rd";refine ⟨⟨_,.of hR.top⟩,compL (xs:=ts.map V.ref) [some (.str w)] rfl (fun D i ys H4=>ys=((R.take i).map fun z=>decide (z.1=w)).map V.bl/\Same H H4) (fun D nD=>⟨rfl,Same.new nD⟩) (by rintro D i ys H4 nD _ ⟨_,S⟩;exact .of (S _ _ hR.top)) ?_ ?_⟩
  .rintro D i x ys H4 nD hi hx ⟨rfl,S⟩ hD hy;obtain ⟨t,ht,rfl⟩:=J1 hx;obtain ⟨z,hz,C0⟩:=Paired.at hR.row ht;have aO:i<R.length:=(F8.mp hz).1;walk_at "rd";refine ⟨_,.inr (.of (S _ _ C0)),V.str z.1,Y5 _ _,?_⟩;walk_at "rd";refine ⟨hD,by rw [A3,A3,K6];exact K8 'b',CW.put hi hy ⟨?_,S.put nD⟩⟩;rw [p7,hz]
   simp
  rintro D ys H4 nD ⟨rfl,S⟩ hD hy;rw [A3,hR.len,J7] at hD;refine ⟨_,rfl,hD,?_⟩;have e:((R.map fun z=>decide (z.1=w)).any id)=hasW R w:=by
   unfold hasW;rw [List.any_map];rfl
  rw [e];exact q H4 S
theorem acz:FnScope ["rule"] ["rule"] (C8 uU):=L4
theorem aek(F:FunD K "pieces_told" "pieces_told" uU f fd)(T:Txt P w K mg C C_Clash C_NoLetter C_Round):FnOk P w K mg base G9 1 f fd ["rule"] (ajk K):=by
 refine F.ok acz ?_ ?_
 .rintro _ _ _ _ ⟨t,z,rfl,_⟩;rfl
 .intro cdv A outer s H vs Q E hr h;have C9:=hu_of hr;have hu:=hr.units;obtain ⟨a_JOBS,m_JOBS,M_JOBS⟩:=T.x_JOBS;have hZ:=K9 acz;refine ⟨_,QSs.out (C1 (qs_if (E6 (q_eq (K:=K) hu) (qe_ix (K:=K) (qz 0) A8) M3) (B5 (E4 (W6 (K:=K) (qz 0) (Q9 A8) l8))) K1)
   (C1 (qs_if (E6 (q_eq (K:=K) hu) (qe_ix (K:=K) (qz 0) A8) M3) (B5 (E4 (W6 (K:=K) (qz 0) (Q9 A8) (Q9 A8)))) K1)
   (B5 (E4 (ak3 (E6 (q_inM M_JOBS) (qe_ix (K:=K) (qz 0) A8) (Y4 m_JOBS)) (W6 (K:=K) (qz 0) (Q9 A8) l8) (R9 A2)))))),?_⟩
  obtain ⟨t,z,rfl,ht,q⟩:=h;have hT:D1 K H t ((z.1::z.2).map V.str):=.of ht;have A6:1<=((z.1::z.2).map V.str).length:=by rw [A3,G8];lia
  walk_at "rd";refine ⟨_,.inr hT,V.str z.1,Y5 _ _,?_⟩;walk_at "rd";refine iteD (fun e=>?_) fun n1=>⟨_,.inr hT,V.str z.1,Y5 _ _,?_⟩
  .refine rSlR.t hT (u5 (k:=2) 'g' A6) fun p np=>q p _ (Same.new np) (.of ?_)
   rw [A1,show ((2:Int))=((2:Nat):Int) from rfl,cY,J3,List.drop_succ_cons,<- List.map_drop];unfold K2;rw [if_pos e]
  walk_at "rd";refine iteD (fun e=>?_) fun n2=>⟨_,.inr hT,V.str z.1,Y5 _ _,?_⟩
  .refine rSlR.t hT (u5 (k:=1) 'g' A6) fun p np=>q p _ (Same.new np) (.of ?_)
   have ecut:cutV ((z.1::z.2).map V.str) (some 1) (some 2)=(z.2.take 1).map V.str:=by
    unfold cutV
    cases z.2 with
    | nil=>rfl
    | cons y r=>
     have e1:HT.sIx ((z.1::y::r).map V.str).length 0 (some 1)=1:=by
      rw [show ((1:Int))=((1:Nat):Int) from rfl,HT.sIx_nat,A3,G8,G8];lia
     have e2:HT.sIx ((z.1::y::r).map V.str).length ((z.1::y::r).map V.str).length (some 2)=2:=by
      rw [show ((2:Int))=((2:Nat):Int) from rfl,HT.sIx_nat,A3,G8,G8];lia
     rw [e1,e2];rfl
   rw [A1,ecut];unfold K2;rw [if_neg n1,if_pos e]
  walk_at "rd"
  by_cases hj:eU z.1
  .rw [tF hj];refine iteT (rSlR.t hT (u5 (k:=1) 'g' A6) fun p np=>q p _ (Same.new np) (.of ?_));rw [A1,J3,sS];unfold K2;have h3:z.1=("row" : Str)\/z.1=("marks" : Str)\/z.1=("over" : Str):=by
    rcases hj with h | h | h | h | h
    .exact .inl h
    .exact .inr (.inl h)
    .exact absurd h n1
    .exact absurd h n2
    .exact .inr (.inr h)
   rw [if_neg n1,if_neg n2,if_pos h3]
  .rw [ali hj];refine iteF fun p np=>q p _ (Same.new np) (.of ?_)
   rw [A1];unfold K2;rw [if_neg n1,if_neg n2,if_neg (fun h=>hj (by
    rcases h with h | h | h
    .exact .inl h
    .exact .inr (.inl h)
    .exact .inr (.inr (.inr (.inr h)))))]
   rfl
theorem aeb:FnScope zA8 zA8 (C8 pL):=L4
theorem agZ(F:FunD K "is_clash" "is_clash" pL f fd)(T:Txt P w K mg C C_Clash C_NoLetter C_Round)(G_is_figure:FO P w K mg base 1 "is_figure" ["sign"] [] tM):FnOk P w K mg base G9 2 f fd zA8 ahH:=by
 refine F.ok aeb ?_ ?_
 .rintro _ _ _ _ ⟨d,p,j,fg,ks,g,rfl,_⟩;rfl
 .intro cdv A outer s H vs Q E hr h;have C9:=hu_of hr;have hu:=hr.units;obtain ⟨a_AGAIN,m_AGAIN,M_AGAIN⟩:=T.x_AGAIN;have hZ:=K9 aeb;refine ⟨_,QSs.out (C1 (qs_if (QW.pt (kO (E6 (q_in (K:=K) hu) (qz 1) (qz 0)) (kN (QW.pt (qw_or (E6 (q_ne (K:=K) hu) (Z1 C9 (qz 0) (qz 1)) (qz 2)) (sM (E6 (sP (K:=K) hu) (qz 2) (Y4 m_AGAIN)))))))) (B5 (E4 qe_bl)) K1)
   (B5 (E4 (iF (qz 3) (iE (qe_cB (q_any (calm:=true)) T.b_any amk (qa_c (u0  (Z5:CompOk zA8 (C8 pL).names _ ["sign"] 1 []) (aqF (qz 1)) (fun _ _ _ _ _=>W7 (n:=0) (show List.Nodup (["sign"]:List Str) by decide +kernel) rfl (Or.inl rfl)) (fun _ _ _ _ _=>eQ) (fun _ _ _ _ _=>(E3 G_is_figure (hm hr) (qa_c (qv 0) A2)))) A2))))))),?_⟩
  obtain ⟨d,p,j,fg,ks,g,rfl,hd,hp,q⟩:=h;walk_at "rd";have tail:(decide (p∈ks)&&(!decide (g p=j) || !decide (j∈W8)))=false->(if fg=true then iD (iB p) 1 [] (gName 0) tYes (tCall tM [] E0 (tCons (tVar 0) tNil)) [some (V.ref d),some (V.str p),some (V.str j),some (V.bl fg)] (fun x H1=>rAnyB true [x] H1 Q) H else Q (V.bl false) H):=by
   intro hc;unfold U5 at q;rw [hc,Bool.false_or] at q
   by_cases hf:fg=true
   .rw [if_pos hf];refine compS [] rfl (fun D i ys H4=>ys=((p.cps.toList.take i).map figO).map V.bl/\Same H H4) (fun D nD=>⟨rfl,Same.new nD⟩) ?_ ?_
    .rintro D i x ys H4 nD hi hx ⟨rfl,S⟩ hD hy;walk_at "rd";refine ⟨x,rfl,hD,?_,CW.put hi hy ⟨?_,S.put nD⟩⟩
     .rw [A3,A3,K6];exact K8 (by have:p.cps.size=p.length:=rfl;lia)
     .rw [p7,hx]
      simp
    .rintro D ys H4 nD ⟨rfl,S⟩ hD hy;walk_at "rd";refine ⟨_,hD,?_⟩;have e:((p.cps.toList.take p.cps.size).map figO).any id=(fg&&p.cps.toList.any figO):=by
      rw [hf,Bool.true_and,List.any_map,show p.cps.size=p.cps.toList.length by simp,J7];rfl
     rw [e];exact q H4 S
   .rw [if_neg hf];rw [show fg=false by simpa using hf,Bool.false_and] at q;exact q H (Same.refl H)
  refine rInR.d (cV (k:=Sum.inr p) hd) ⟨_,rfl,?_⟩;rw [N5,Bool.false_xor]
  by_cases hk:p∈ks
  .rw [if_pos hk];refine iteT ⟨V.str (g p),.inl ⟨_,Sum.inr p,.inl hd,rfl,by rw [N5,if_pos hk]⟩,?_⟩;walk_at "rd"
   by_cases e1:g p=j
   .rw [decide_eq_true e1];refine iteF (rInR.l (.inr (M_AGAIN _)) rfl rfl ⟨_,rfl,?_⟩);have e3:y7 (.str j) [V.str "letter",V.str "mark",V.str "over"]=decide (j∈W8):=oH j W8;rw [e3]
    by_cases e2:j∈W8
    .rw [decide_eq_true e2];exact iteF (tail (by rw [decide_eq_true e1,decide_eq_true e2];simp))
    .rw [decide_eq_false e2];refine iteT ?_
     have:=q H (Same.refl H)
     rw [show U5 fg ks g p j=true by unfold U5;rw [decide_eq_true hk,decide_eq_false e2];simp] at this;exact this
   .rw [decide_eq_false e1];refine iteT ?_
    have:=q H (Same.refl H)
    rw [show U5 fg ks g p j=true by unfold U5;rw [decide_eq_true hk,decide_eq_false e1];simp] at this;exact this
  .rw [if_neg hk];exact iteF (tail (by rw [decide_eq_false hk,Bool.false_and]))
theorem aeH:FnScope ["rules", "figures", "jobs", "rule", "piece"] zA4 (C8 iP):=L4
theorem ain(F:FunD K "jobs_of" "jobs_of" iP f fd)(T:Txt P w K mg C C_Clash C_NoLetter C_Round)(G_Clash___init__:EO P w K mg base 1 C_Clash "Clash" zAc (iW K C_Clash "piece"))(G_has_rule:FO P w K mg base 1 "has_rule" zA0 [] (spHas K))(G_pieces_told:FO P w K mg base 1 "pieces_told" ["rule"] [] (ajk K))(G_is_clash:FO P w K mg base 2 "is_clash" zA8 [] ahH):FnOk P w K mg base (U4 P w) 3 f fd zA4 (vM K C_Clash):=by
 refine F.okX aeH ?_ ?_
 .rintro _ _ _ _ ⟨a,ts,R,rfl,_⟩;rfl
 .intro cdv A outer s H vs Q E hr h;have C9:=hu_of hr;have hu:=hr.units;obtain ⟨a_JOBS,m_JOBS,M_JOBS⟩:=T.x_JOBS;have hZ:=K9 aeH;refine ⟨_,QSs.out (C1 (E1 1 (E3 G_has_rule (hm hr) (qa_c (qz 0) (qa_c M3 A2))))
   (C1 (E1 2 eN)
   (C1 (N4 PassesOwn.leaving (O4 (K:=K) (qz 0)) (K0 3) (B5 (N4 PassesOwn.leaving (kQ (K:=K) (E3 G_pieces_told (hm hr) (qa_c (qz 3) A2))) (K0 4) (C1 (qs_if (m8 (K:=K) (E3 G_is_clash (hm hr) (qa_c (qz 2) (qa_c (qz 4) (qa_c (ahg M_JOBS (Y4 m_JOBS) (qe_ix (K:=K) (qz 3) A8)) (qa_c (qz 1) A2)))))) (B5 (uK (fun _ _ _ _ _ _ _ I h1 h2=>uE I h1 h2) (uG G_Clash___init__ (hm hr) (qa_c (qz 4) A2)) (K:=K))) K1)
   (B5 (z8 C9 (qz 2) (qz 4) (ahg M_JOBS (Y4 m_JOBS) (qe_ix (K:=K) (qz 3) A8))))))))
   (C1 (qs_if (m8 (K:=K) (E3 G_has_rule (hm hr) (qa_c (qz 0) (qa_c M3 A2)))) (B5 (z8 C9 (qz 2) M3 M3)) K1)
   (B5 (E4 (qz 2))))))),?_⟩
  obtain ⟨a,ts,R,rfl,hR,hl,V5,hok,hbl,q1,q2⟩:=h;obtain ⟨fN,MN⟩:=T.er_Clash;walk_at "rd";refine ⟨a,ts,R, "figures",rfl,hR,hl,fun H1 S1=>?_⟩;generalize hasW R "figures"=fg at q1 q2 ⊢
  intro d nd;have qN:H d=none:=S1.free nd;have S2:Same H (A0 H1 d (.dK [])):=fun b o h=>C2 (S1 b o h) nd
  refine ⟨⟨_,.of (S2 _ _ hR.top)⟩,forL (xs:=ts.map V.ref) (fun i Y H2=>∃ (u v:Option V),Y=[some 'f',some (.bl fg),some (.ref d),u,v]/\Same H H2/\H2 d=some (.dK (A5 (keysP (A9 (R.take i))) fun t=>.str (job1 (A9 (R.take i)) t)))/\clGo fg [] (A9 (R.take i))=none)
   ⟨none,none,rfl,S2,by rw [A1];rfl,rfl⟩ (by rintro i Y H2 _ ⟨_,_,_,S,_⟩;exact .of (S _ _ hR.top)) ?_ ?_⟩
  .rintro i x Y H2 hx ⟨u,v,rfl,S,hd,hc⟩;obtain ⟨t,ht,rfl⟩:=J1 hx;obtain ⟨z,hz,C0⟩:=Paired.at hR.row ht;walk_at "rd";refine ⟨t,z,rfl,S _ _ C0,fun p H3 S3 hp=>⟨p,rfl,⟨_,hp⟩,forT (xs:=(K2 z).map V.str) (fun j Y H4=>∃ (v:Option V),Y=[some 'f',some (.bl fg),some (.ref d),some (.ref t),v]/\D1 K H4 p ((K2 z).map V.str)/\Same H H4/\H4 d=some (.dK (A5 (keysP (A9 (R.take i)++((K2 z).take j).map fun p=>(p,jobD z.1))) fun t=>.str (job1 (A9 (R.take i)++((K2 z).take j).map fun p=>(p,jobD z.1)) t)))/\clGo fg [] (A9 (R.take i)++((K2 z).take j).map fun p=>(p,jobD z.1))=none)
    ⟨v,rfl,hp,S.trans S3,by rw [j2,aU,K7];exact S3 _ _ hd,by rw [j2,aU,K7];exact hc⟩ (by rintro j Y H4 _ ⟨_,_,h,_⟩;exact h) ?_ ?_⟩⟩
   .rintro j x Y H4 jR ⟨v,rfl,mO,S4,T7,R5⟩;obtain ⟨pc,xX,rfl⟩:=J1 jR;obtain ⟨e1,e2⟩:=aqQ hz xX;have hw:=lA (L7 xX);have E8:D1 K H4 t ((z.1::z.2).map V.str):=.of (S4 _ _ C0);have aG:(keysP (A9 (R.take i)++((K2 z).take j).map fun p=>(p,jobD z.1))).length<=10000:=by
     have h1:=afS (A9 (R.take i)++((K2 z).take j).map fun p=>(p,jobD z.1));have h2:=congrArg List.length e2;rw [K6] at h2;lia
    have T4:∃ r,A9 R=(A9 (R.take i)++((K2 z).take j).map fun p=>(p,jobD z.1))++(pc,jobD z.1)::r:=by
     rw [<- e2];refine ⟨(A9 R).drop (((A9 (R.take i)).length+j)+1),?_⟩;have aO:=(F8.mp e1).1
     have:=(F8.mp e1).2
     rw [<- this,<- nI aO,X7]
    obtain ⟨rest,T4⟩:=T4;have xY:=hok (pc,jobD z.1) (by rw [T4];simp);rw [J9 xX,E2,<- X9];generalize u9:(A9 (R.take i)++((K2 z).take j).map fun p=>(p,jobD z.1))=pre at T7 R5 aG T4;walk_at "rd";refine ⟨_,.inr E8,V.str z.1,Y5 _ _,Sum.inr z.1,rfl,V.str (jobD z.1),tF hw,d,pc,jobD z.1,fg,_,job1 pre,rfl,T7,xY.1,fun H5 S5=>⟨_,rfl,?_⟩⟩;cases hb:U5 fg (keysP pre) (job1 pre) pc (jobD z.1) with
    | true=>
     refine iteT ⟨by decide,fun x nx=>?_⟩;have hfirst:aA fg (A9 R)=some pc:=by rw [T4];exact al4 (e:=(pc,jobD z.1)) R5 hb
     exact ⟨s.heap.objs.size,x,pc,fN,rfl,A1,MN,T.na_Clash,xY.1,xY.2,fun dx nd ne=>⟨rfl,C_Clash,dx,(iV nx nd ne).1,⟨fN,MN⟩,(q2 pc hfirst) dx _ ((S4.trans S5).trans (iV nx nd ne).2.1) (iV nx nd ne).2.2⟩⟩
    | false=>
     obtain ⟨n1,n2⟩:=amu hb;refine iteF ⟨_,.inr (E8.same S5),V.str z.1,Y5 _ _,Sum.inr z.1,rfl,V.str (jobD z.1),tF hw,_,y8 (k:=Sum.inr pc) (S5 _ _ T7) (by rw [Z3];exact K8 'b'),(mO.same S5).dput (S5 _ _ T7),(S4.trans S5).put qN,?_,?_⟩
     .rw [A1];rw [ah8];unfold dd
      by_cases L5:pc∈keysP pre
      .rw [if_pos L5,kW _ L5];refine congrArg (fun x=>some (HO.dK x)) (P6 fun t ht=>?_);rw [vK ht]
       by_cases e:t=pc
       .rw [if_pos e,e,(n1 L5).1]
       .rw [if_neg e]
      .rw [if_neg L5,cZ _ L5];refine congrArg (fun x=>some (HO.dK x)) (P6 fun t ht=>?_)
       by_cases e:t=pc
       .rw [if_pos e,e,ahF L5]
       .rw [if_neg e,vK ((D8.mp ht).elim id fun q=>absurd (D3.mp q) e)]
     .exact al5 (e:=(pc,jobD z.1)) R5 hb
   .rintro Y H4 ⟨v,rfl,mO,S4,T7,R5⟩;walk_at "rd";rw [A3,J7] at T7 R5;refine ⟨S4,?_,?_⟩
    .rw [tE hz];exact T7
    .rw [tE hz];exact R5
  .rintro Y H2 ⟨u,v,rfl,S,hd,hc⟩;rw [A3,hR.len,J7] at hd hc;have q:=q1 hc;generalize job1 (A9 R)=g at hd q;walk_at "rd";refine ⟨a,ts,R, "blanks",rfl,hR.same S,hl,fun H3 S3=>⟨hasW R "blanks",rfl,?_⟩⟩;have Y7:=S3 _ _ hd;have jL:(" " : Str)∉keysP (A9 R):=fun h=>hbl ((eT _ _).mp h)
   have aG:=afS (A9 R);have hg:∀ t∈keysP (A9 R),V.str (g t)=jobG g t:=fun t ht=>by
    unfold jobG;rw [if_neg (fun e=>jL (by rw [<- e];exact ht))]
   by_cases hb:hasW R "blanks"=true
   .rw [hb];refine iteT ⟨_,y8 (k:=Sum.inr (" " : Str)) Y7 (by rw [Z3];exact K8 'b'),q d _ qN ((S.trans S3).put qN) ?_⟩;rw [A1,cZ _ jL];unfold T0;rw [if_pos hb];refine congrArg (fun x=>some (HO.dK x)) (P6 fun t ht=>?_);unfold jobG
    by_cases e:t=(" " : Str)
    .simp only [if_pos e]
    .simp only [if_neg e]
   .rw [Bool.not_eq_true] at hb;rw [hb];refine iteF (q d _ qN (S.trans S3) ?_);unfold T0;rw [hb,if_neg K4,K7,Y7];exact congrArg (fun x=>some (HO.dK x)) (P6 hg)
theorem sc_misused:FnScope zAd zAi (C8 eY):=L4
theorem vab:LS eY "first":=lq
theorem aio(F:FunD K "misused" "misused" eY f fd)(T:Txt P w K mg C C_Clash C_NoLetter C_Round):FnOk P w K mg base G9 1 f fd zAi (amt K):=by
 refine F.ok sc_misused ?_ ?_
 .rintro _ _ _ _ ⟨t,d,z,ks,g,rfl,_⟩;rfl
 .intro cdv A outer s H vs Q E hr h;have C9:=hu_of hr;have hu:=hr.units;have hZ:=K9 sc_misused;refine ⟨_,QSs.out (C1 (qs_if (E6 (q_eq (K:=K) hu) (qe_ix (K:=K) (qz 0) A8) M3) (B5 (E4 (u0  (Z5:CompOk zAd (C8 eY).names _ zA6 1 [1]) (kQ (K:=K) (W6 (K:=K) (qz 0) (Q9 A8) (Q9 A8))) (fun _ _ _ _ _=>W7 (n:=0) (show List.Nodup (zA6:List Str) by decide +kernel) rfl (Or.inl rfl)) (fun _ _ _ _ _=>(eR (E6 (q_ne (K:=K) hu) (tD C9 (qv 1) (qv 0)) M3))) (fun _ _ _ _ _=>(qv 0))))) K1)
   (C1 (qs_if (E6 (q_eq (K:=K) hu) (qe_ix (K:=K) (qz 0) A8) M3) (C1 (sO (n:=2) sc_misused.nd rfl vab (Z5:CompOk zAd (C8 eY).names _ zA6 1 [1]) (kQ (K:=K) (W6 (K:=K) (qz 0) (Q9 A8) (Q9 A8))) (fun _ _ _ _ _=>W7 (n:=0) (show List.Nodup (zA6:List Str) by decide +kernel) rfl (Or.inl rfl)) (fun _ _ _ _ _=>(eR (E6 (q_ne (K:=K) hu) (tD C9 (qv 1) (qv 0)) M3))) (fun _ _ _ _ _=>(qv 0)))
   (B5 (E4 (qe_op (q_add (K:=K)) (qz 2) (u0  (Z5:CompOk zAd (C8 eY).names _ zA6 1 [1]) (kQ (K:=K) (W6 (K:=K) (qz 0) (Q9 A8) l8)) (fun _ _ _ _ _=>W7 (n:=0) (show List.Nodup (zA6:List Str) by decide +kernel) rfl (Or.inl rfl)) (fun _ _ _ _ _=>(eR (E6 (sP (K:=K) hu) (tD C9 (qv 1) (qv 0)) (R9 (qa_c M3 (qa_c M3 A2)))))) (fun _ _ _ _ _=>(qv 0))))))) K1)
   (B5 (E4 (M6 A2))))),?_⟩
  obtain ⟨t,d,z,ks,g,rfl,ht,hd,hg,hl,q⟩:=h;have hT:D1 K H t ((z.1::z.2).map V.str):=.of ht;walk_at "rd";refine ⟨_,.inr hT,V.str z.1,Y5 _ _,?_⟩;walk_at "rd"
  by_cases h1:z.1=("great" : Str)
  .rw [decide_eq_true h1];have A6:1<=((z.1::z.2).map V.str).length:=by rw [A3,G8];lia
   refine iteT (rSlR.t hT (u5 (k:=1) 'g' A6) fun s ns=>?_);have ecut:cutV ((z.1::z.2).map V.str) (some 1) (some 2)=(z.2.take 1).map V.str:=by
    rw [show cutV ((z.1::z.2).map V.str) (some 1) (some 2)=_ from tQ ((z.1::z.2).map V.str) (i:=1) (j:=2) 'g',J3,List.drop_succ_cons,List.drop_zero,<- List.map_take]
   rw [ecut];have S1:Same H (A0 H s (.tup ((z.2.take 1).map V.str))):=Same.new ns;have hs:A0 H s (.tup ((z.2.take 1).map V.str)) s=some (.tup ((z.2.take 1).map V.str)):=A1;generalize A0 H s (.tup ((z.2.take 1).map V.str))=H1 at S1 hs;refine ⟨s,rfl,⟨_,.of hs⟩,compT (xs:=(z.2.take 1).map V.str) [some (.ref d)] rfl (fun D i ys H2=>ys=(((z.2.take 1).take i).filter (V2 ks g)).map V.str/\Same H1 H2) (fun D nD=>⟨rfl,Same.new nD⟩) (by rintro D i ys H2 nD _ ⟨_,S⟩;exact .of (S _ _ hs)) ?_ ?_⟩
   .rintro D i y ys H2 nD hi hy ⟨rfl,S⟩ hD i7;obtain ⟨p,hp,rfl⟩:=J1 hy;have X5:=S _ _ (S1 _ _ hd);rw [A3] at i7;have aO:=(F8.mp hp).1;rw [K6] at aO;walk_at "rd";refine ⟨.inl ⟨_,.inl X5⟩,_,cV (k:=Sum.inr p) X5,?_⟩;rw [N5,vI];refine ams (pO hg p) 'e' ⟨_,rfl,?_⟩;rw [show (!decide (jobV ks g p=V.str (Str.ofString "letter")))=V2 ks g p from rfl]
    by_cases e:V2 ks g p=true
    .rw [if_pos e];refine ⟨hD,by rw [A3];exact K8 'b',CW.put hi (by rw [A3];exact i7) ⟨?_,S.put nD⟩⟩;rw [J9 hp,f6,p0 e,E2];rfl
    .rw [if_neg e];refine ⟨hD,hi,by rw [A3];lia,⟨_,rfl⟩,?_,S⟩;rw [J9 hp,f6,p5 e,List.filter_nil,K7]
   .rintro D ys H2 nD ⟨rfl,S⟩ hD i7;refine q D H2 (S1.free nD) (S1.trans S) ?_;rw [hD,A3,J7];unfold misL;rw [if_pos h1]
  rw [decide_eq_false h1];refine iteF ⟨_,.inr hT,V.str z.1,Y5 _ _,?_⟩;walk_at "rd"
  by_cases h2:z.1=("as" : Str)
  .rw [decide_eq_true h2];have A6:1<=((z.1::z.2).map V.str).length:=by rw [A3,G8];lia
   refine iteT (rSlR.t hT (u5 (k:=2) 'g' A6) fun s ns=>?_);have ecut:cutV ((z.1::z.2).map V.str) (some 2) (some 3)=((z.2.drop 1).take 1).map V.str:=by
    rw [show cutV ((z.1::z.2).map V.str) (some 2) (some 3)=_ from tQ ((z.1::z.2).map V.str) (i:=2) (j:=3) 'g',J3,List.drop_succ_cons,<- List.map_drop,<- List.map_take]
   rw [ecut];have S1:Same H (A0 H s (.tup (((z.2.drop 1).take 1).map V.str))):=Same.new ns;have hs:A0 H s (.tup (((z.2.drop 1).take 1).map V.str)) s=some (.tup (((z.2.drop 1).take 1).map V.str)):=A1;generalize A0 H s (.tup (((z.2.drop 1).take 1).map V.str))=H1 at S1 hs;refine ⟨s,rfl,⟨_,.of hs⟩,compT (xs:=((z.2.drop 1).take 1).map V.str) [some (.ref d)] rfl (fun D i ys H2=>ys=((((z.2.drop 1).take 1).take i).filter (V2 ks g)).map V.str/\Same H1 H2) (fun D nD=>⟨rfl,Same.new nD⟩) (by rintro D i ys H2 nD _ ⟨_,S⟩;exact .of (S _ _ hs)) ?_ ?_⟩
   .rintro D i y ys H2 nD hi hy ⟨rfl,S⟩ hD i7;obtain ⟨p,hp,rfl⟩:=J1 hy;have X5:=S _ _ (S1 _ _ hd);rw [A3] at i7;have aO:=(F8.mp hp).1;rw [K6] at aO;walk_at "rd";refine ⟨.inl ⟨_,.inl X5⟩,_,cV (k:=Sum.inr p) X5,?_⟩;rw [N5,vI];refine ams (pO hg p) 'e' ⟨_,rfl,?_⟩;rw [show (!decide (jobV ks g p=V.str (Str.ofString "letter")))=V2 ks g p from rfl]
    by_cases e:V2 ks g p=true
    .rw [if_pos e];refine ⟨hD,by rw [A3];exact K8 'b',CW.put hi (by rw [A3];exact i7) ⟨?_,S.put nD⟩⟩;rw [J9 hp,f6,p0 e,E2];rfl
    .rw [if_neg e];refine ⟨hD,hi,by rw [A3];lia,⟨_,rfl⟩,?_,S⟩;rw [J9 hp,f6,p5 e,List.filter_nil,K7]
   rintro D ys H2 nD ⟨rfl,S⟩ hD i7;rw [A3,J7] at hD;have S2:=S1.trans S;have hT2:D1 K H2 t ((z.1::z.2).map V.str):=.of (S2 _ _ ht);refine rSlR.t hT2 (u5 (k:=3) 'g' A6) fun s2 ns2=>?_
   have ecut2:cutV ((z.1::z.2).map V.str) (some 3) none=(z.2.drop 2).map V.str:=by
    rw [show cutV ((z.1::z.2).map V.str) (some 3) none=_ from cY ((z.1::z.2).map V.str) 3,J3,List.drop_succ_cons,<- List.map_drop]
   rw [ecut2];have S3:Same H2 (A0 H2 s2 (.tup ((z.2.drop 2).map V.str))):=Same.new ns2;have bJ:A0 H2 s2 (.tup ((z.2.drop 2).map V.str)) s2=some (.tup ((z.2.drop 2).map V.str)):=A1;generalize A0 H2 s2 (.tup ((z.2.drop 2).map V.str))=H3 at S3 bJ;refine ⟨s2,rfl,⟨_,.of bJ⟩,compT (xs:=(z.2.drop 2).map V.str) [some (.ref d)] rfl (fun D i ys H4=>ys=(((z.2.drop 2).take i).filter (fA ks g)).map V.str/\Same H3 H4) (fun D nD=>⟨rfl,Same.new nD⟩) (by rintro D i ys H4 nD _ ⟨_,S⟩;exact .of (S _ _ bJ)) ?_ ?_⟩
   .rintro D2 i y ys H4 nD2 hi hy ⟨rfl,S4⟩ hD2 fY;obtain ⟨p,hp,rfl⟩:=J1 hy;have T7:=S4 _ _ (S3 _ _ (S2 _ _ hd));rw [A3] at fY;have aO:=(F8.mp hp).1;rw [f7] at aO;walk_at "rd";refine ⟨.inl ⟨_,.inl T7⟩,_,cV (k:=Sum.inr p) T7,?_⟩;rw [N5,vI];refine ⟨by decide,fun v nv=>?_⟩;refine rInR.l (.inr (.of A1)) (al2 hg p) rfl ?_;rw [arc hg p];refine ⟨_,rfl,?_⟩;rw [show (true ^^ (decide (jobV ks g p=V.str "letter") || decide (jobV ks g p=V.str "mark")))=fA ks g p by unfold fA;rw [Bool.true_xor]];have S5:=S4.trans (Same.new (u:=HO.tup [V.str (Str.ofString "letter"),V.str (Str.ofString "mark")]) nv)
    by_cases e:fA ks g p=true
    .rw [if_pos e];refine ⟨C2 hD2 nv,by rw [A3];exact K8 'b',CW.put hi (by rw [A3];exact fY) ⟨?_,S5.put nD2⟩⟩;rw [J9 hp,f6,p0 e,E2];rfl
    .rw [if_neg e];refine ⟨C2 hD2 nv,hi,by rw [A3];lia,⟨_,rfl⟩,?_,S5⟩;rw [J9 hp,f6,p5 e,List.filter_nil,K7]
   rintro D2 ys H4 nD2 ⟨rfl,S4⟩ hD2 fY;rw [A3,J7] at hD2;have hD4:=S4 _ _ (S3 _ _ hD);have f1:=eB (V2 ks g) ((z.2.drop 1).take 1);have f2:=eB (fA ks g) (z.2.drop 2);rw [K6,f7] at f1;rw [f7] at f2;refine rAddR.l hD4 hD2 (by rw [A3,A3];exact z0 'b') fun l nl=>?_
   refine q l _ ((S2.trans (S3.trans S4)).free nl) ((S2.trans (S3.trans S4)).trans (Same.new nl)) ?_;rw [A1,<- E2];unfold misL;rw [if_neg h1,if_pos h2]
  rw [decide_eq_false h2];refine iteF fun p np=>q p _ np (Same.new np) ?_
  rw [A1];unfold misL;rw [if_neg h1,if_neg h2];rfl
theorem ab2:FnScope ["rules", "jobs", "rule", "wrong"] zAe (C8 iQ):=L4
theorem adr(F:FunD K "check_letters" "check_letters" iQ f fd)(T:Txt P w K mg C C_Clash C_NoLetter C_Round)(G_NoLetter___init__:EO P w K mg base 1 C_NoLetter "NoLetter" zAc (iW K C_NoLetter "piece"))(G_misused:FO P w K mg base 1 "misused" zAi [] (amt K)):FnOk P w K mg base (U4 P w) 3 f fd zAe (vJ K C_NoLetter):=by
 refine F.okX ab2 ?_ ?_
 .rintro _ _ _ _ ⟨a,d,ts,R,ks,g,rfl,_⟩;rfl
 .intro cdv A outer s H vs Q E hr h;have C9:=hu_of hr;have hu:=hr.units;have hZ:=K9 ab2;refine ⟨_,QSs.out (B5 (N4 PassesOwn.leaving (O4 (K:=K) (qz 0)) (K0 2) (C1 (E1 3 (E3 G_misused (hm hr) (qa_c (qz 2) (qa_c (qz 1) A2))))
   (B5 (qs_if (m8 (K:=K) (qz 3)) (B5 (uK (fun _ _ _ _ _ _ _ I h1 h2=>uE I h1 h2) (uG G_NoLetter___init__ (hm hr) (qa_c (qe_ix (K:=K) (qz 3) A8) A2)) (K:=K))) K1))))),?_⟩
  obtain ⟨a,d,ts,R,ks,g,rfl,hR,hd,hg,hw,q1,q2⟩:=h;obtain ⟨fN,MN⟩:=T.er_NoLetter;walk_at "rd";refine ⟨⟨_,.of hR.top⟩,forL (xs:=ts.map V.ref) (fun i Y H2=>∃ (u v:Option V),Y=[some 'f',some (.ref d),u,v]/\Same H H2/\(R.take i).flatMap (misL ks g)=[]) ⟨none,none,rfl,Same.refl H,rfl⟩ (by rintro i Y H2 _ ⟨_,_,_,S,_⟩;exact .of (S _ _ hR.top)) ?_ ?_⟩
  .rintro i x Y H2 hx ⟨u,v,rfl,S,h0⟩;obtain ⟨t,ht,rfl⟩:=J1 hx;obtain ⟨z,hz,C0⟩:=Paired.at hR.row ht;obtain ⟨n1,n2⟩:=hw z (L7 hz);walk_at "rd";refine ⟨t,d,z,ks,g,rfl,S _ _ C0,S _ _ hd,hg,n1,fun p H3 np S3 hp=>⟨_,kR hp,?_⟩⟩;have fF:(R.take (i+1)).flatMap (misL ks g)=misL ks g z:=by
    rw [p7,hz,e9,h0]
    simp
   cases hm:misL ks g z with
   | nil=>
    refine iteF ⟨S.trans S3,?_⟩;rw [fF,hm]
   | cons y more=>
    rw [hm] at hp;have hym:y∈z.2:=aol (ks:=ks) (g:=g) (by rw [hm];exact K5);have hfirst:(R.flatMap (misL ks g)).head?=some y:=by
     rw [<- X7 (i+1) R,e9,fF,hm];rfl
    refine iteT ?_;walk_at "rd";refine ⟨_,.inl (.of hp),V.str y,Y5 _ _,by decide,fun x nx=>?_⟩;exact ⟨s.heap.objs.size,x,y,fN,rfl,A1,MN,T.na_NoLetter,(n2 y hym).1,(n2 y hym).2,fun dx nd ne=>⟨rfl,C_NoLetter,dx,(iV nx nd ne).1,⟨fN,MN⟩,(q2 y hfirst) dx _ ((S.trans S3).trans (iV nx nd ne).2.1) (iV nx nd ne).2.2⟩⟩
  .rintro Y H2 ⟨u,v,rfl,S,h0⟩;rw [A3,hR.len,J7] at h0;exact q1 (by rw [h0];rfl) H2 S
theorem aeI:FnScope zA0 zA0 (C8 eZ):=L4
theorem aip(F:FunD K "line_of" "line_of" eZ f fd)(T:Txt P w K mg C C_Clash C_NoLetter C_Round)(G_lined_up:bG P w K mg base 4 "lined_up" zA3 [] (vH C_Round)):FnOk P w K mg base (U4 P w) 5 f fd zA0 (vN K C_Round):=by
 refine F.okX aeI ?_ ?_
 .rintro _ _ _ _ ⟨a,ts,R,w,rfl,_⟩;rfl
 .intro cdv A outer s H vs Q E hr h;have C9:=hu_of hr;have hu:=hr.units;have hZ:=K9 aeI;refine ⟨_,QSs.out (B5 (E4 (lE G_lined_up (hm hr) lD (qa_c (u0  (Z5:CompOk zA0 (C8 eZ).names _ zAb 1 [1]) (O4 (K:=K) (qz 0)) (fun _ _ _ _ _=>W7 (n:=0) (show List.Nodup (zAb:List Str) by decide +kernel) rfl (Or.inl rfl)) (fun _ _ _ _ _=>(eR (E6 (q_eq (K:=K) hu) (qe_ix (K:=K) (qv 0) A8) (qv 1)))) (fun _ _ _ _ _=>(qe_cT (cX (K:=K) (calm:=true)) T.b_list y9 (qa_c (W6 (K:=K) (qv 0) (Q9 A8) l8) A2)))) A2)))),?_⟩;obtain ⟨a,ts,R,w,rfl,hR,hl,T6,lP,q1,q2⟩:=h;walk_at "rd";refine ⟨⟨_,.of hR.top⟩,compL (xs:=ts.map V.ref) [some (.str w)] rfl (fun D i ys H4=>∃ qs:List Addr,ys=qs.map V.ref/\RowsAt H H4 D qs (rowsW (R.take i) w)) (fun D nD=>⟨[],rfl,⟨⟨A1,.nil⟩,by simp,fun r hr=>by rw [D3.mp hr];exact nD,Same.new nD⟩⟩)
   (by rintro D i ys H4 nD _ ⟨qs,_,RA⟩;exact .of (RA.same _ _ hR.top)) ?_ ?_⟩
  .rintro D i x ys H4 nD hi hx ⟨qs,rfl,RA⟩ hD hy;obtain ⟨t,ht,rfl⟩:=J1 hx;obtain ⟨z,hz,C0⟩:=Paired.at hR.row ht;have aO:i<R.length:=(F8.mp hz).1;have E8:D1 K H4 t ((z.1::z.2).map V.str):=.of (RA.same _ _ C0);have A6:1<=((z.1::z.2).map V.str).length:=by rw [A3,G8];lia
   walk_at "rd";refine ⟨_,.inr E8,V.str z.1,Y5 _ _,?_⟩;walk_at "rd";refine iteD (fun e=>rSlR.t E8 (u5 (k:=1) 'g' A6) fun p np=>?_) fun e=>⟨hD,CW.skip hi hy ⟨qs,rfl,?_⟩⟩
   .rw [J3,sS];walk_at "rd";refine rListR.l (.inr (.of A1)) fun p2 Q4=>⟨C2 (C2 hD np) Q4,?_,CW.put hi hy ⟨qs++[p2],by rw [E2];rfl,?_⟩⟩
    .rw [A3] at hy;rw [A3];exact K8 'b'
    .rw [oS hz,if_pos e];have n2:H4 p2=none:=(Same.new np).free Q4;exact RA.grow (fun b o h=>C2 (C2 h np) Q4) n2 A1
   .rw [oS hz,if_neg e];exact RA
  rintro D ys H4 nD ⟨qs,rfl,RA⟩ hD hy;rw [A3,hR.len,J7] at RA;exact ⟨D,qs,rowsW R w,rfl,RA.rows,T6,lP,fun l line H5 nl S5 jS run cov=>q1 l line H5 (RA.same.free nl) (RA.same.trans S5) jS ⟨run,cov⟩,fun dx l g H5 S5 h1 h2 h3=>q2 dx l g H5 (RA.same.trans S5) h1 h2 h3⟩
theorem aec:FnScope ["rules", "forms", "rule"] zA4 (C8 uV):=L4
theorem ag0(F:FunD K "forms_of" "forms_of" uV f fd)(T:Txt P w K mg C C_Clash C_NoLetter C_Round):FnOk P w K mg base G9 1 f fd zA4 (ahq K):=by
 refine F.ok aec ?_ ?_
 .rintro _ _ _ _ ⟨a,ts,R,rfl,_⟩;rfl
 .intro cdv A outer s H vs Q E hr h;have C9:=hu_of hr;have hu:=hr.units;have hZ:=K9 aec;refine ⟨_,QSs.out (C1 (E1 1 eN)
   (C1 (N4 PassesOwn.never (O4 (K:=K) (qz 0)) (K0 2) (B5 (qs_if (E6 (q_eq (K:=K) hu) (qe_ix (K:=K) (qz 2) A8) M3) (B5 (R0 (qe_mB (K:=K) U1 PySem.F.slot_list_extend PySem.F.type_list_extend (ajm (K:=K)) (ala (qz 1) (qe_ix (K:=K) (qz 2) A8) (M6 A2)) (qa_c (W6 (K:=K) (qz 2) (Q9 A8) l8) A2)))) K1)))
   (B5 (E4 (qz 1))))),?_⟩
  obtain ⟨a,ts,R,rfl,hR,hg,hl,hf,q⟩:=h;walk_at "rd";intro d nd;refine ⟨⟨_,.of (C2 hR.top nd)⟩,forL (xs:=ts.map V.ref) (fun i Y H2=>∃ (u:Option V) (ad:Str->Addr),Y=[some 'f',some (.ref d),u]/\Same H H2/\H2 d=some (.dK (A5 (D7 (R.take i)) fun y=>.ref (ad y)))/\DL (A0 H d (.dK [])) H2 (D7 (R.take i)) ad (F6 (R.take i))) ⟨none,fun _=>d,rfl,Same.new nd,A1,⟨by simp [D7,M7,M5],by simp [D7,M7,M5],by simp [D7,M7,M5]⟩⟩ (by rintro i Y H2 _ ⟨_,_,_,S,_⟩;exact .of (S _ _ hR.top)) ?_ ?_⟩
  .rintro i x Y H2 hx ⟨u,ad,rfl,S,hd,dl⟩;obtain ⟨t,ht,rfl⟩:=J1 hx;obtain ⟨z,hz,C0⟩:=Paired.at hR.row ht;have hT:D1 K H2 t ((z.1::z.2).map V.str):=.of (S _ _ C0);walk_at "rd";refine ⟨_,.inr hT,V.str z.1,Y5 _ _,?_⟩;walk_at "rd"
   by_cases jT:z.1=("great" : Str)
   .rw [decide_eq_true jT];refine iteT ?_;obtain ⟨w,ps⟩:=z;obtain rfl:w=("great" : Str):=jT;obtain ⟨y,fs,rfl⟩:∃ y fs,ps=y::fs:=by
     cases ps with
     | nil=>exact absurd rfl (hg _ (L7 hz) rfl)
     | cons y fs=>exact ⟨y,fs,rfl⟩
    have etk:R.take (i+1)=R.take i++[(("great" : Str),y::fs)]:=J9 hz;have T6:(F6 (R.take i) y).length+fs.length<=10000:=by
     have:=hf (i+1) y
     rw [etk,tP,if_pos rfl,D4] at this;exact this
    have aG:(A5 (D7 (R.take i)) fun y=>V.ref (ad y)).length<=1000:=by
     rw [Z3];unfold D7;have h1:=kM ((M7 (R.take i)).map (·.1)) [];have h2:(M7 (R.take i)).length<=(R.take i).length:=List.length_filterMap_le _ _;rw [A3,T8] at h1;rw [K6] at h2;lia
    have N0:J5 (((("great" : Str),y::fs).1::(("great" : Str),y::fs).2).map V.str) 1=some (V.str y):=t5 (j:=1) rfl;have cD:cutV (((("great" : Str),y::fs).1::(("great" : Str),y::fs).2).map V.str) (some 2) none=fs.map V.str:=cY _ 2;refine ⟨.inl ⟨_,.inl hd⟩,_,.inr hT,V.str y,N0,fun p np=>⟨_,C2 hd np,Nat.lt_of_le_of_lt aG 'g',Sum.inr y,rfl,fun v hv=>?_,fun hn=>?_⟩⟩
    .rw [N5] at hv
     by_cases hy:y∈D7 (R.take i)
     .rw [if_pos hy] at hv;cases hv;have dU:=dl.row y hy;have ndy:ad y≠d:=fun e=>by have:=dl.new y hy;rw [e,A1] at this;cases this
      have nHy:H (ad y)=none:=by have:=dl.new y hy;rw [A4 ndy] at this;exact this
      have T1:Same H2 (A0 H2 p (.lst [])):=Same.new np;generalize A0 H2 p (.lst [])=H3 at T1;refine ⟨R8 (T1 _ _ dU),rSlR.t (hT.same T1) (u5 (k:=2) 'g' 'c') fun s ns=>?_⟩;rw [cD];have T2:Same H3 (A0 H3 s (.tup (fs.map V.str))):=Same.new ns;have hs:A0 H3 s (.tup (fs.map V.str)) s=some (.tup (fs.map V.str)):=A1;generalize A0 H3 s (.tup (fs.map V.str))=H4 at T2 hs;have T:=T1.trans T2;refine ⟨ad y,s,_,_,rfl,rfl,T _ _ dU,.of hs,by rw [A3,A3];exact z0 'b',(S.trans T).put nHy,ad,?_,?_⟩
      .rw [A4 ndy.symm,T _ _ hd,etk,oX];unfold dd;rw [if_pos hy]
      .rw [etk,oX];unfold dd;rw [if_pos hy,<- E2];refine ((dl.same T).app hy (F6 (R.take i) y++fs)).congr fun x _=>?_
       rw [tP]
       by_cases o6:x=y
       .subst o6;simp
       .simp [o6]
     .rw [if_neg hy] at hv;cases hv
    .have hy:y∉D7 (R.take i):=fun hy=>by rw [N5,if_pos hy] at hn;cases hn
     have ndp:d≠p:=fun e=>by rw [<- e,hd] at np;cases np
     have n0:A0 H d (.dK []) p=none:=by rw [A4 ndp.symm];exact S.free np
     have dl2:=dl.more hy np n0;have aJ:=dl2.put (b:=d) (o:=.dK (A5 (D7 (R.take i)++[y]) fun t=>if t=y then V.ref p else V.ref (ad t))) (u:=.dK []) A1;rw [cZ (V.ref p) hy];have qL:A0 (A0 H2 p (.lst [])) d (.dK (A5 (D7 (R.take i)++[y]) fun t=>if t=y then V.ref p else V.ref (ad t))) p=some (.lst []):=by rw [A4 ndp.symm,A1]
     have Y7:A0 (A0 H2 p (.lst [])) d (.dK (A5 (D7 (R.take i)++[y]) fun t=>if t=y then V.ref p else V.ref (ad t))) d=some (.dK (A5 (D7 (R.take i)++[y]) fun t=>if t=y then V.ref p else V.ref (ad t))):=A1;have S3:Same H (A0 (A0 H2 p (.lst [])) d (.dK (A5 (D7 (R.take i)++[y]) fun t=>if t=y then V.ref p else V.ref (ad t)))):=(S.trans (Same.new np)).put nd;generalize A0 (A0 H2 p (.lst [])) d (.dK (A5 (D7 (R.take i)++[y]) fun t=>if t=y then V.ref p else V.ref (ad t)))=H3 at aJ qL Y7 S3;have hT3:D1 K H3 t (((("great" : Str),y::fs).1::(("great" : Str),y::fs).2).map V.str):=.of (S3 _ _ C0);refine ⟨R8 qL,rSlR.t hT3 (u5 (k:=2) 'g' 'c') fun s ns=>?_⟩;rw [cD];have T2:Same H3 (A0 H3 s (.tup (fs.map V.str))):=Same.new ns;have hs:A0 H3 s (.tup (fs.map V.str)) s=some (.tup (fs.map V.str)):=A1;generalize A0 H3 s (.tup (fs.map V.str))=H4 at T2 hs;refine ⟨p,s,_,_,rfl,rfl,T2 _ _ qL,.of hs,by rw [A3];exact z0 (by simp;lia),(S3.trans T2).put (S.free np),fun t=>if t=y then p else ad t,?_,?_⟩
     .rw [A4 ndp,T2 _ _ Y7,etk,oX];unfold dd;rw [if_neg hy];refine congrArg (fun z=>some (HO.dK z)) (P6 fun x _=>?_);show (if x=y then V.ref p else V.ref (ad x))=V.ref (if x=y then p else ad x)
      by_cases o6:x=y
      .rw [if_pos o6,if_pos o6]
      .rw [if_neg o6,if_neg o6]
     .rw [etk,oX];unfold dd;rw [if_neg hy,q5]
      have:=((aJ.same T2).app (z:=y) 'c' fs).congr (G:=F6 (R.take i++[(("great" : Str),y::fs)])) fun x _=>by
       rw [tP]
       by_cases o6:x=y
       .subst o6;have e0:F6 (R.take i) x=[]:=by
         unfold F6;rw [cF.mpr fun e he=>?_]
         .rfl
         .intro h;have h:e.1=x:=by simpa using h
          refine hy ?_;unfold D7;rw [dA];exact .inr (D0.mpr ⟨e,he,h⟩)
        simp [e0]
       .simp [o6]
      rw [if_pos rfl] at this;exact this
   .rw [decide_eq_false jT];refine iteF ⟨S,ad,?_,?_⟩
    .rw [show D7 (R.take (i+1))=D7 (R.take i) by unfold D7;rw [tN hz,oW jT,K7]];exact hd
    .rw [show D7 (R.take (i+1))=D7 (R.take i) by unfold D7;rw [tN hz,oW jT,K7]];refine dl.congr fun x _=>?_
     unfold F6;rw [tN hz,oW jT,K7]
  .rintro Y H2 ⟨u,ad,rfl,S,hd,dl⟩;walk_at "rd";rw [A3,hR.len,J7] at hd dl;exact q d ad H2 nd S hd (dl.old (Same.new nd))
theorem aed:FnScope zAr zAj (C8 pM):=L4
theorem ag1(F:FunD K "steps_of" "steps_of" pM f fd)(T:Txt P w K mg C C_Clash C_NoLetter C_Round)(G_forms_of:FO P w K mg base 1 "forms_of" zA4 [] (ahq K)):FnOk P w K mg base G9 2 f fd zAj (ahs K):=by
 refine F.ok aed ?_ ?_
 .rintro _ _ _ _ ⟨a,b,c,ts,R,L,M,F,rfl,_⟩;rfl
 .intro cdv A outer s H vs Q E hr h;have C9:=hu_of hr;have hu:=hr.units;have hZ:=K9 aed;refine ⟨_,QSs.out (C1 (E1 3 eN)
   (C1 (N4 PassesOwn.never (oR T.b_enumerate (qa_c (qz 1) A2)) (eP (K:=K) (n:=2) (Z2 ((K0 4)) (Z2 ((K0 5)) eO))) (B5 (z8 C9 (qz 3) (qz 5) (R9 (qa_c (R9 (qa_c (sK T.g_LETTER) (qa_c (qz 4) (qa_c A8 A2)))) A2)))))
   (C1 (N4 PassesOwn.never (oR T.b_enumerate (qa_c (qz 2) A2)) (eP (K:=K) (n:=2) (Z2 ((K0 4)) (Z2 ((K0 6)) eO))) (B5 (z8 C9 (qz 3) (qz 6) (R9 (qa_c (R9 (qa_c (sK T.g_MARK) (qa_c (qz 4) (qa_c A8 A2)))) A2)))))
   (C1 (E1 7 (E3 G_forms_of (hm hr) (qa_c (qz 0) A2)))
   (C1 (sU PassesOwn.never (qz 7) (K0 5) (B5 (N4 PassesOwn.never (alk T.b_enumerate (qa_c (Z1 C9 (qz 7) (qz 5)) A2)) (eP (K:=K) (n:=2) (Z2 ((K0 8)) (Z2 ((K0 9)) eO))) (B5 (z8 C9 (qz 3) (qz 9) (R9 (qa_c (R9 (qa_c (sK T.g_LETTER) (qa_c (qe_ix (K:=K) (qe_ix (K:=K) (Z1 C9 (qz 3) (qz 5)) A8) A8) (qa_c (qz 8) A2)))) A2)))))))
   (C1 (N4 PassesOwn.never (O4 (K:=K) (qz 0)) (K0 10) (B5 (qs_if (E6 (q_eq (K:=K) hu) (qe_ix (K:=K) (qz 10) A8) M3) (B5 (z8 C9 (qz 3) (qe_ix (K:=K) (qz 10) A8) (qe_cT (sQ (K:=K)) T.b_tuple sE (qa_c (u0  (Z5:CompOk zAr (C8 pM).names _ ["part", "steps"] 1 [3]) (kQ (K:=K) (W6 (K:=K) (qz 10) (Q9 A8) l8)) (fun _ _ _ _ _=>W7 (n:=0) (show List.Nodup (["part", "steps"]:List Str) by decide +kernel) rfl (Or.inl rfl)) (fun _ _ _ _ _=>eQ) (fun _ _ _ _ _=>(qe_ix (K:=K) (Z1 C9 (qv 1) (qv 0)) A8))) A2)))) K1)))
   (B5 (E4 (qz 3))))))))),?_⟩
  obtain ⟨a,b,c,ts,R,L,M,F,rfl,hR,md,hb,hc,dN,hRl,T6,xZ,q⟩:=h;have A6:L.length+M.length+((D7 R).flatMap (F6 R)).length+(asKs R).length<=50000:=by
   unfold allKs at xZ;simp only [D4] at xZ;exact xZ
  walk_at "rd";intro d nd;have ndR:∀ {x:Addr} {o:HO},H x=some o->x≠d:=fun h e=>by rw [e,nd] at h;cases h
  refine ⟨⟨_,C2 hb nd⟩,forE (xs:=L.map V.str) (fun i Y H2=>∃ (u v w x y z r:Option V),Y=[some 'f',some (.ref b),some (.ref c),some (.ref d),u,v,w,x,y,z,r]/\StI H H2 d (L.take i) F)
   ⟨none,none,none,none,none,none,none,rfl,Same.new nd,fun _=>d,A1,by simp [M5]⟩ (by rintro i Y H2 ⟨_,_,_,_,_,_,_,_,S⟩;exact S.same _ _ hb) ?_ ?_⟩
  .rintro i x t Y H2 hx ⟨u,v,w,x',y,z,r,rfl,S⟩ nt;obtain ⟨l,hl,rfl⟩:=J1 hx;have hi:i<L.length:=(F8.mp hl).1;walk_at "rd";refine ⟨_,.of A1,rfl,_,_,rfl,_,_,rfl,rfl,by decide,fun p np=>⟨by decide,fun p1 N8=>?_⟩⟩;rw [J9 hl];exact StI.put nd (((S.more (Same.new nt)).more (Same.new np)).more (Same.new N8)) (by rw [K6];lia) (by
    rw [md.lt i l hl];exact StepAt.one A1 (C2 A1 N8))
  rintro Y H2 ⟨u,v,w,x',y,z,r,rfl,S⟩;rw [A3,J7] at S;walk_at "rd";refine ⟨⟨_,S.same _ _ hc⟩,forE (xs:=M.map V.str) (fun i Y H2=>∃ (u v w x y z r:Option V),Y=[some 'f',some (.ref b),some (.ref c),some (.ref d),u,v,w,x,y,z,r]/\StI H H2 d (L++M.take i) F)
   ⟨u,v,w,x',y,z,r,rfl,by rw [j2,K7];exact S⟩ (by rintro i Y H2 ⟨_,_,_,_,_,_,_,_,S⟩;exact S.same _ _ hc) ?_ ?_⟩
  .clear S;rintro i x t Y H2 hx ⟨u,v,w,x',y,z,r,rfl,S⟩ nt;obtain ⟨l,hl,rfl⟩:=J1 hx;have hi:i<M.length:=(F8.mp hl).1;walk_at "rd";refine ⟨_,.of A1,rfl,_,_,rfl,_,_,rfl,rfl,by decide,fun p np=>⟨by decide,fun p1 N8=>?_⟩⟩;rw [J9 hl,<- X9];exact StI.put nd (((S.more (Same.new nt)).more (Same.new np)).more (Same.new N8)) (by rw [D4,K6];lia) (by
    rw [md.mr i l hl];exact StepAt.one A1 (C2 A1 N8))
  clear S H2 u v w x' y z r;rintro Y H2 ⟨u,v,w,x',y,z,r,rfl,S⟩;rw [A3,J7] at S;walk_at "rd";refine ⟨a,ts,R,rfl,hR.same S.same,fun z hz e=>md.ne z hz (.inr e),hRl,T6,fun fd af H3 nfd S3 jQ dl=>?_⟩;have nf0:H fd=none:=S.same.free nfd;have nf1:fd≠d:=fun e=>by
   obtain ⟨ad,h1,_⟩:=S.made;rw [<- e,nfd] at h1;cases h1
  have S':=S.more S3;have C0:=dl.row;clear S S3 dl nfd H2;refine ⟨fd,rfl,_,jQ,fun o=>forD (fun i Y H4=>∃ (u v w y z r:Option V),Y=[some 'f',some (.ref b),some (.ref c),some (.ref d),u,v,w,some (.ref fd),y,z,r]/\FoI H H4 d fd o (D7 R) af (F6 R) (L++M++((D7 R).take i).flatMap (F6 R)) F)
   ⟨u,v,w,y,z,r,rfl,⟨A1,fun y hy=>by rw [A4 (fun e=>by have:=C0 y hy;rw [e,jQ] at this;cases this)];exact C0 y hy,by rw [j2,List.flatMap_nil,K7];exact S'.frz jQ nf0 nf1⟩⟩ (by rintro i Y H4 ⟨_,_,_,_,_,_,_,h⟩;exact h.frz) ?_ ?_⟩
  .rintro i k v' Y H4 hk ⟨u,v,w,y,z,r,rfl,J⟩;obtain ⟨l,hl,e⟩:=J1 (f:=fun t=>((Sum.inr t:A7),V.ref (af t))) hk;obtain ⟨rfl,rfl⟩:=Prod.mk.inj e;have mX:l∈D7 R:=L7 hl;have hlL:=md.gl l mX;have xW:(((D7 R).take i).flatMap (F6 R)).length+(F6 R l).length<=((D7 R).flatMap (F6 R)).length:=by
    have e:(D7 R).flatMap (F6 R)=((D7 R).take i).flatMap (F6 R)++F6 R l++((D7 R).drop (i+1)).flatMap (F6 R):=by
     have:=X7 (i+1) (D7 R)
     rw [J9 hl] at this;rw [<- this,e9,e9,cI,List.flatMap_nil,K7];rw [this]
    rw [e,D4,D4];lia
   walk_at "rd";refine ⟨V.ref (af l),.inl ⟨_,Sum.inr l,.inr ⟨o,J.frz⟩,rfl,by rw [N5,if_pos mX]⟩,af l,rfl,⟨_,J.rows l mX⟩,forE1 (xs:=(F6 R l).map V.str) (fun j Y H5=>∃ (y z r:Option V),Y=[some 'f',some (.ref b),some (.ref c),some (.ref d),u,some (kV (Sum.inr l)),w,some (.ref fd),y,z,r]/\FoI H H5 d fd o (D7 R) af (F6 R) (L++M++((D7 R).take i).flatMap (F6 R)++(F6 R l).take j) F) ⟨y,z,r,rfl,by rw [j2,K7];exact J⟩ (by rintro j Y H5 ⟨_,_,_,_,h⟩;exact h.rows l mX) ?_ ?_⟩
   .clear J y z r;rintro j x t Y H5 hx ⟨y,z,r,rfl,J⟩ nt;obtain ⟨f,hf,rfl⟩:=J1 hx;have hj:j<(F6 R l).length:=(F8.mp hf).1;have T1:Same H5 (A0 H5 t (.tup [.int ((j+1:Nat):Int),.str f])):=Same.new nt;have ht:A0 H5 t (.tup [.int ((j+1:Nat):Int),.str f]) t=some (.tup [.int ((j+1:Nat):Int),.str f]):=A1;generalize A0 H5 t (.tup [.int ((j+1:Nat):Int),.str f])=H6 at T1 ht ⊢
    have J6:=J.more T1;obtain ⟨ad,h1,h2⟩:=J6.st.made;have L5:l∈M5 [] (L++M++((D7 R).take i).flatMap (F6 R)++(F6 R l).take j):=by
     rw [dA];exact .inr (O6 _ (O6 _ (O6 _ hlL)))
    obtain ⟨tt,e1,e2⟩:=(h2 l L5).ex;rw [md.letter hlL] at e2;obtain ⟨t0,rfl,e3⟩:∃ t0,tt=[t0]/\H6 t0=some (tupT (2,(L.idxOf l:Int),0)):=by
     cases e2 with
     | cons h t=>cases t;exact ⟨_,rfl,h⟩
    walk_at "rd";refine ⟨_,.of ht,rfl,_,_,rfl,_,_,rfl,rfl,V.ref (ad l),.inl ⟨_,Sum.inr l,.inl h1,rfl,by rw [N5,if_pos L5]⟩,?_⟩;walk_at "rd";refine ⟨_,.inr (.of e1),V.ref t0,Y5 _ _,?_⟩;walk_at "rd";refine ⟨_,.inr (.of e3),V.int (L.idxOf l:Int),t5 (j:=1) rfl,by decide,fun p np=>⟨by decide,fun p1 N8=>?_⟩⟩;rw [J9 hf,<- X9];exact FoI.put nd ((J6.more (Same.new np)).more (Same.new N8)) (by simp only [D4,K6];lia) (by
     rw [md.gr l mX j f hf];exact StepAt.one A1 (C2 A1 N8))
   .rintro Y H5 ⟨y,z,r,rfl,J⟩;rw [A3,J7] at J;refine ⟨⟨_,_,_,_,_,_,rfl⟩,?_⟩;rw [J9 hl,e9,cI,List.flatMap_nil,K7,<- X9];exact J
  rintro Y H4 ⟨u,v,w,y,z,r,rfl,J⟩;rw [Z3,J7] at J;have S5:=J.st.thaw (o:=.dK (A5 (D7 R) fun y=>V.ref (af y))) J.frz nf0 nf1;generalize A0 H4 fd (.dK (A5 (D7 R) fun y=>V.ref (af y)))=H5 at S5 ⊢
  clear J jQ C0;walk_at "rd";refine ⟨⟨_,.of (S5.same _ _ hR.top)⟩,forL (xs:=ts.map V.ref) (fun i Y H6=>∃ (r:Option V),Y=[some 'f',some (.ref b),some (.ref c),some (.ref d),u,v,w,some (.ref fd),y,z,r]/\StI H H6 d (L++M++(D7 R).flatMap (F6 R)++asKs (R.take i)) F) ⟨r,rfl,by rw [j2];rw [show asKs []=[] from rfl,K7];exact S5⟩ (by rintro i Y H6 _ ⟨_,_,S⟩;exact .of (S.same _ _ hR.top)) ?_ ?_⟩
  .clear S5 r;rintro i x Y H6 hx ⟨r,rfl,S⟩;obtain ⟨t,ht,rfl⟩:=J1 hx;obtain ⟨zz,hz,C0⟩:=Paired.at hR.row ht;have qO:=L7 hz;have hT:D1 K H6 t ((zz.1::zz.2).map V.str):=.of (S.same _ _ C0);walk_at "rd";refine ⟨_,.inr hT,V.str zz.1,Y5 _ _,?_⟩;walk_at "rd"
   by_cases has:zz.1=("as" : Str)
   .rw [decide_eq_true has];refine iteT ?_;obtain ⟨w1,ps⟩:=zz;obtain rfl:w1=("as" : Str):=has;obtain ⟨p,qs,rfl⟩:∃ p qs,ps=p::qs:=by
     cases ps with
     | nil=>exact absurd rfl (md.ne _ qO (.inl rfl))
     | cons p qs=>exact ⟨p,qs,rfl⟩
    have cD:cutV (((("as" : Str),p::qs).1::(("as" : Str),p::qs).2).map V.str) (some 2) none=qs.map V.str:=cY _ 2;have hql:qs.length<=1000:=by have:=dN _ qO;simp only [G8] at this;lia
    have yA:=alq (R.take i);rw [K6] at yA;refine rSlR.t hT (u5 (k:=2) 'g' 'c') fun s ns=>?_
    rw [cD];have T1:Same H6 (A0 H6 s (.tup (qs.map V.str))):=Same.new ns;have hs:A0 H6 s (.tup (qs.map V.str)) s=some (.tup (qs.map V.str)):=A1;generalize A0 H6 s (.tup (qs.map V.str))=H7 at T1 hs;have S7:=S.more T1;have hT7:D1 K H7 t (((("as" : Str),p::qs).1::(("as" : Str),p::qs).2).map V.str):=D1.same T1 hT;clear hT S;refine ⟨s,rfl,⟨_,.of hs⟩,compT (xs:=qs.map V.str) [some (.ref d)] rfl (fun D j ys H8=>∃ dW:List Addr,ys=dW.map V.ref/\AsI H H7 H8 d (L++M++(D7 R).flatMap (F6 R)++asKs (R.take i)) F dW ((qs.take j).map fun q=>(F q).headD (0,0,0))) (fun D nD=>⟨[],rfl,S7.more (Same.new nD),.nil,Same.new nD⟩) (by rintro D j ys H8 nD _ ⟨_,_,h⟩;exact .of (h.sm _ _ hs)) ?_ ?_⟩
    .rintro D j yv ys H8 nD hi hy ⟨dW,rfl,J⟩ hD i7;obtain ⟨qq,hq,rfl⟩:=J1 hy;have hqb:=md.pt _ qO rfl qq (L7 hq);obtain ⟨st,Z7⟩:=md.base hqb;obtain ⟨ad,h1,h2⟩:=J.st.made;have L5:qq∈M5 [] (L++M++(D7 R).flatMap (F6 R)++asKs (R.take i)):=by
      rw [dA];refine .inr (O6 _ (O6 _ (D8.mpr hqb)))
     obtain ⟨tt,e1,e2⟩:=(h2 qq L5).ex;rw [Z7] at e2;obtain ⟨t0,rfl,e3⟩:∃ t0,tt=[t0]/\H8 t0=some (tupT st):=by
      cases e2 with
      | cons h t=>cases t;exact ⟨_,rfl,h⟩
     walk_at "rd";refine ⟨V.ref (ad qq),.inl ⟨_,Sum.inr qq,.inl h1,rfl,by rw [N5,if_pos L5]⟩,?_⟩;walk_at "rd";have qM:dW.length<=1000:=by
      have:=Paired.length J.pr
      rw [A3,K6] at this;lia
     refine ⟨_,.inr (.of e1),V.ref t0,Y5 _ _,hD,by rw [A3];exact K8 'b',CW.put hi i7 ⟨dW++[t0],by rw [E2];rfl,?_⟩⟩;refine AsI.putL (f:=D) ⟨J.st,?_,J.sm⟩ hD (S7.same.free nD) nD;rw [J9 hq,E2];refine Paired.snoc J.pr ?_;show H8 t0=some (tupT ((F qq).headD (0,0,0)));rw [Z7];exact e3
    rintro D ys H8 nD ⟨dW,rfl,J⟩ hD i7;rw [A3,J7] at J;rw [tup_r];refine rTupR.l (.of hD) fun p1 N8=>?_
    have N0:J5 (((("as" : Str),p::qs).1::(("as" : Str),p::qs).2).map V.str) 1=some (V.str p):=t5 (j:=1) rfl;have S8:Same H8 (A0 H8 p1 (.tup (dW.map V.ref))):=Same.new N8;refine ⟨_,.inr (D1.same (J.sm.trans S8) hT7),V.str p,N0,?_⟩;rw [afV hz,ahr,<- X9];refine StI.put nd (J.st.more S8) (by simp only [D4];lia) ?_;rw [md.as _ qO rfl p qs rfl];exact ⟨dW,A1,j8 J.pr fun t s e=>S8 _ _ e⟩
   .rw [decide_eq_false has];refine iteF ?_;rw [afV hz,ajx has,K7];exact S
  rintro Y H6 ⟨r,rfl,S⟩;rw [A3,hR.len,J7] at S;walk_at "rd";exact q d H6 nd S.same S.made
theorem abQ:FnScope zA9 zA9 (C8 iR):=L4
theorem adi(F:FunD K "__init__" "Order.__init__" iR f fd)(T:Txt P w K mg C C_Clash C_NoLetter C_Round)(G_has_rule:FO P w K mg base 1 "has_rule" zA0 [] (spHas K))(G_jobs_of:bG P w K mg base 3 "jobs_of" zA4 [] (vM K C_Clash))(G_check_letters:bG P w K mg base 3 "check_letters" zAe [] (vJ K C_NoLetter))(G_line_of:bG P w K mg base 5 "line_of" zA0 [] (vN K C_Round))(G_steps_of:FO P w K mg base 2 "steps_of" zAj [] (ahs K)):FnOk P w K mg base (U4 P w) 6 f fd zA9 (vP C C_Clash C_NoLetter C_Round):=by
 refine F.okX abQ ?_ ?_
 .rintro _ _ _ _ ⟨x,dx,a,ts,R,rfl,_⟩;rfl
 .intro cdv A outer s H vs Q E hr h;have C9:=hu_of hr;have hu:=hr.units;have hZ:=K9 abQ;refine ⟨_,QSs.out (C1 (iG (K:=K) (qz 0) (E3 G_has_rule (hm hr) (qa_c (qz 1) (qa_c M3 A2))))
   (C1 (iG (K:=K) (qz 0) (E3 G_has_rule (hm hr) (qa_c (qz 1) (qa_c M3 A2))))
   (C1 (iG (K:=K) (qz 0) (lE G_jobs_of (hm hr) lD (qa_c (qz 1) A2)))
   (C1 (R0 (lE G_check_letters (hm hr) lD (qa_c (qz 1) (qa_c (kP (K:=K) (qz 0)) A2))))
   (C1 (iG (K:=K) (qz 0) (lE G_line_of (hm hr) lD (qa_c (qz 1) (qa_c M3 A2))))
   (C1 (iG (K:=K) (qz 0) (lE G_line_of (hm hr) lD (qa_c (qz 1) (qa_c M3 A2))))
   (B5 (iG (K:=K) (qz 0) (E3 G_steps_of (hm hr) (qa_c (qz 1) (qa_c (kP (K:=K) (qz 0)) (qa_c (kP (K:=K) (qz 0)) A2)))))))))))),?_⟩
  obtain ⟨x,dx,a,ts,R,rfl,hx,hR,rw',q1,qc,qn,qr⟩:=h;have lp:∀ (f:Str) (y:V) (fs:List (Str×V)),(putF f y fs).length<=fs.length+1:=rK;walk_at "rd";refine ⟨a,ts,R, "figures",rfl,hR,rw'.len,fun H1 S1=>⟨C,dx,[],S1 _ _ hx,T.cl,T.na_figures,by decide,?_⟩⟩;generalize hF1:putF (Str.ofString "figures") (V.bl (hasW R (Str.ofString "figures"))) []=F1;have l1:F1.length<=1:=by rw [<- hF1];exact lp _ _ _
  have B2:SameBut x H (A0 H1 x (.ins C dx F1)):=(Same.but S1).at;have bW:A0 H1 x (.ins C dx F1) x=some (.ins C dx F1):=A1;generalize A0 H1 x (.ins C dx F1)=H2 at B2 bW;have hR2:=hR.but B2 hx;refine ⟨a,ts,R, "behind",rfl,hR2,rw'.len,fun H3 S3=>⟨C,dx,F1,S3 _ _ bW,T.cl,T.na_behind,by lia,?_⟩⟩;generalize hF2:putF (Str.ofString "behind") (V.bl (hasW R (Str.ofString "behind"))) F1=F2;have l2:F2.length<=2:=by rw [<- hF2];exact D5 (lp _ _ _) 'b'
  have B4:SameBut x H2 (A0 H3 x (.ins C dx F2)):=(Same.but S3).at;have jR:A0 H3 x (.ins C dx F2) x=some (.ins C dx F2):=A1;generalize A0 H3 x (.ins C dx F2)=H4 at B4 jR;have hR4:=hR2.but B4 bW;refine ⟨a,ts,R,rfl,hR4,rw'.len,rw'.plen,rw'.short,rw'.nb,fun N7 j H5 nj S5 hj=>?_,fun p hp dx' H5 S5 hd=>qc p hp dx' H5 ((B2.trans B4).trans (Same.but S5)) hd⟩
  replace hj:H5 j=some (.dK (A5 (keysP (A9 R)++T0 R) (jobG (gR R)))):=hj
  have q2:=q1 N7;have njx:j≠x:=fun e=>by rw [e,jR] at nj;cases nj
  generalize hF3:putF (Str.ofString "jobs") (V.ref j) F2=F3;have l3:F3.length<=3:=by rw [<- hF3];exact D5 (lp _ _ _) 'b'
  have k3:F3.lookup (Str.ofString "jobs")=some (V.ref j):=by rw [<- hF3,V0,if_pos rfl]
  refine ⟨C,dx,F2,S5 _ _ jR,T.cl,T.na_jobs,by lia,?_⟩;rw [hF3];have B6:SameBut x H4 (A0 H5 x (.ins C dx F3)):=(Same.but S5).at;have mY:A0 H5 x (.ins C dx F3) x=some (.ins C dx F3):=A1;have yB:A0 H5 x (.ins C dx F3) j=some (.dK (A5 (keysP (A9 R)++T0 R) (jobG (gR R)))):=by rw [A4 njx];exact hj
  generalize A0 H5 x (.ins C dx F3)=H6 at B6 mY yB;have hR6:=hR4.but B6 jR;refine ⟨C,dx,F3,mY,T.cl,T.na_jobs,_,k3,a,j,ts,R,_,_,rfl,hR6,yB,al3 _,fun z hz=>⟨rw'.zl z hz,fun p hp=>⟨D5 (rw'.ok z hz p hp).1 'g',(rw'.ok z hz p hp).2⟩⟩,fun hm H7 S7=>?_,fun p hp dx' H7 S7 hd=>qn p N7 hp dx' H7 (((B2.trans B4).trans B6).trans (Same.but S7)) hd⟩;have q:=q2 hm;refine ⟨a,ts,R, "row",rfl,hR6.same S7,rw'.len,rw'.f1,rw'.rows _,fun ll L H8 nll S8 xM line1=>?_,fun dx' l g H8 S8 h1 h2 h3=>qr N7 hm "row" (.inl rfl) dx' l g H8 (((B2.trans B4).trans B6).trans (Same.but (S7.trans S8))) h1 h2 h3⟩;have hx8:=S8 _ _ (S7 _ _ mY);have nlx:ll≠x:=fun e=>by rw [e,S7 _ _ mY] at nll;cases nll
  have llen:L.length<=10000:=by
   rw [ahk (kX _) line1.1 line1.2];exact D5 (eM _) (D5 rw'.f1 'g')
  generalize hF4:putF (Str.ofString "letter_line") (V.ref ll) F3=F4;have l4:F4.length<=4:=by rw [<- hF4];exact D5 (lp _ _ _) 'b'
  refine ⟨C,dx,F3,hx8,T.cl,T.na_letter_line,by lia,?_⟩;rw [hF4];have B9:SameBut x H6 (A0 H8 x (.ins C dx F4)):=(Same.but (S7.trans S8)).at;have qP:A0 H8 x (.ins C dx F4) x=some (.ins C dx F4):=A1;have mZ:A0 H8 x (.ins C dx F4) ll=some (.lst (L.map V.str)):=by rw [A4 nlx];exact xM
  generalize A0 H8 x (.ins C dx F4)=H9 at B9 qP mZ;have hR9:=hR6.but B9 mY;refine ⟨a,ts,R, "marks",rfl,hR9,rw'.len,rw'.f2,rw'.rows _,fun ml M X6 nml fZ hml line2=>?_,fun dx' l g X6 fZ h1 h2 h3=>qr N7 hm "marks" (.inr ⟨rfl,L,line1⟩) dx' l g X6 ((((B2.trans B4).trans B6).trans B9).trans (Same.but fZ)) h1 h2 h3⟩;have pl:=rw'.good N7 hm line1 line2;have nmx:ml≠x:=fun e=>by rw [e,qP] at nml;cases nml
  have mlen:M.length<=10000:=by
   rw [ahk (kX _) line2.1 line2.2];exact D5 (eM _) pl.f2
  generalize hF5:putF (Str.ofString "mark_line") (V.ref ml) F4=F5;have l5:F5.length<=5:=by rw [<- hF5];exact D5 (lp _ _ _) 'b'
  refine ⟨C,dx,F4,fZ _ _ qP,T.cl,T.na_mark_line,by lia,?_⟩;rw [hF5];have B11:SameBut x H9 (A0 X6 x (.ins C dx F5)):=(Same.but fZ).at;have i8:A0 X6 x (.ins C dx F5) x=some (.ins C dx F5):=A1;have w8:A0 X6 x (.ins C dx F5) ml=some (.lst (M.map V.str)):=by rw [A4 nmx];exact hml
  have x3:A0 X6 x (.ins C dx F5) ll=some (.lst (L.map V.str)):=by rw [A4 nlx];exact fZ _ _ mZ
  generalize A0 X6 x (.ins C dx F5)=H11 at B11 i8 w8 x3;have hR11:=hR9.but B11 qP;have kl:F5.lookup (Str.ofString "letter_line")=some (V.ref ll):=by rw [<- hF5,V0,if_neg 'e',<- hF4,V0,if_pos rfl]
  have km:F5.lookup (Str.ofString "mark_line")=some (V.ref ml):=by rw [<- hF5,V0,if_pos rfl]
  refine ⟨C,dx,F5,i8,T.cl,T.na_letter_line,_,kl,C,dx,F5,i8,T.cl,T.na_mark_line,_,km,a,ll,ml,ts,R,L,M,stepF R L M,rfl,hR11,anT pl line1 line2,x3,w8,pl.zl,pl.len,ajD pl,D5 (anU pl line1 line2) 'g',fun md H12 nmd aN hmd=>⟨C,dx,F5,aN _ _ i8,T.cl,T.na_made,by lia,?_⟩⟩;have nmdx:md≠x:=fun e=>by rw [e,i8] at nmd;cases nmd
  have B:SameBut x H (A0 H12 x (.ins C dx (putF (Str.ofString "made") (V.ref md) F5))):=((B2.trans B4).trans ((B6.trans B9).trans (B11.trans (Same.but aN)))).at;have fr:∀ {H':Hp} {y:Addr},SameBut x H H'->H' y=none->y≠x->H y=none:=fun {H' y} b n nx=>by
   cases e:H y with
   | none=>rfl
   | some o=>have:=b _ _ nx e;rw [n] at this;cases this
  have B44:=B2.trans B4;refine q j ll ml md L M _ (fr B44 nj njx) (fr ((B44.trans B6).trans (Same.but S7)) nll nlx) (fr ((B44.trans B6).trans B9) nml nmx) (fr (((B44.trans B6).trans B9).trans B11) nmd nmdx) B ⟨⟨dx,?_⟩,?_,?_,?_,hmd.mod (aN _ _ i8) (by intro xs e;cases e) nmdx,line1,line2⟩
  .rw [A1,<- hF5,<- hF4,<- hF3,<- hF2,<- hF1];rfl
  .rw [A4 njx];exact aN _ _ (B11 _ _ njx (B9 _ _ njx yB))
  .rw [A4 nlx];exact aN _ _ x3
  .rw [A4 nmx];exact aN _ _ w8
theorem ab3:FnScope zA1 zA1 (C8 iS):=L4
theorem ads(F:FunD K "letters" "Order.letters" iS f fd)(T:Txt P w K mg C C_Clash C_NoLetter C_Round):FnOk P w K mg base G9 1 f fd zA1 (tS C):=by
 refine F.ok ab3 ?_ ?_
 .rintro _ _ _ _ ⟨x,j,ll,ml,md,g,R,L,M,rfl,_⟩;rfl
 .intro cdv A outer s H vs Q E hr h;have C9:=hu_of hr;have hu:=hr.units;have hZ:=K9 ab3;refine ⟨_,QSs.out (B5 (E4 (qe_cT (cX (K:=K) (calm:=true)) T.b_list y9 (qa_c (kP (K:=K) (qz 0)) A2)))),?_⟩;obtain ⟨x,j,ll,ml,md,g,R,L,M,rfl,hO,q⟩:=h;obtain ⟨dx,h1⟩:=hO.ob;walk_at "rd";refine ⟨_,_,_,h1,T.cl,T.na_letter_line,_,afT _ _ _ _ _ _,?_⟩;walk_at "rd";exact rListR.l (.inl (.of hO.lets)) fun l nl=>q l nl
theorem acA:FnScope zA1 zA1 (C8 iT):=L4
theorem ael(F:FunD K "marks" "Order.marks" iT f fd)(T:Txt P w K mg C C_Clash C_NoLetter C_Round):FnOk P w K mg base G9 1 f fd zA1 (tT C):=by
 refine F.ok acA ?_ ?_
 .rintro _ _ _ _ ⟨x,j,ll,ml,md,g,R,L,M,rfl,_⟩;rfl
 .intro cdv A outer s H vs Q E hr h;have C9:=hu_of hr;have hu:=hr.units;have hZ:=K9 acA;refine ⟨_,QSs.out (B5 (E4 (qe_cT (cX (K:=K) (calm:=true)) T.b_list y9 (qa_c (kP (K:=K) (qz 0)) A2)))),?_⟩;obtain ⟨x,j,ll,ml,md,g,R,L,M,rfl,hO,q⟩:=h;obtain ⟨dx,h1⟩:=hO.ob;walk_at "rd";refine ⟨_,_,_,h1,T.cl,T.na_mark_line,_,ah9 _ _ _ _ _ _,?_⟩;walk_at "rd";exact rListR.l (.inl (.of hO.mrks)) fun l nl=>q l nl
theorem adq:FnScope zA2 zA2 (C8 uW):=L4
theorem agg(F:FunD K "_law_cell_at" "_law_cell_at" uW f fd)(T:Txt P w K mg C C_Clash C_NoLetter C_Round):FnOk P w K mg base G9 1 f fd zA2 (oU K):=by
 refine F.ok adq ?_ ?_
 .rintro _ _ _ _ ⟨a,ns,k,rfl,_⟩;rfl
 .intro cdv A outer s H vs Q E hr h;have C9:=hu_of hr;have hu:=hr.units;have hZ:=K9 adq;refine ⟨_,QSs.out (C1 (qs_if (E6 q_lt (qz 1) (qe_cB (q_len (K:=K)) T.b_len Y9 (qa_c (qz 0) A2))) (B5 (E4 (qe_ix (K:=K) (qz 0) (qz 1)))) K1)
   (B5 (E4 A8))),?_⟩
  obtain ⟨a,ns,k,rfl,hS,hk,q⟩:=h;walk_at "rd";unfold cellF at q;refine ⟨ns.length,.inl ⟨_,hS,by rw [A3]⟩,iteD (fun C7=>?_) fun mI=>?_⟩
  .rw [if_pos C7] at q;have hi:k.toNat<ns.length:=by lia
   refine ⟨_,.inl hS,V.int (ns.getD k.toNat 0),?_,q⟩;have e:((k.toNat:Nat):Int)=k:=by lia
   have h1:J5 (ns.map V.int) ((k.toNat:Nat):Int)=some (V.int (ns.getD k.toNat 0)):=t5 (by rw [P1,o9,E9 hi];rfl);rw [e] at h1;exact h1
  .rw [if_neg mI] at q;exact q
theorem agh:FnScope ["_law_script", "_law_k", "_law_some", "_law_step"] zA2 (C8 uX):=L4
theorem akj(F:FunD K "_law_sign" "_law_sign" uX f fd)(T:Txt P w K mg C C_Clash C_NoLetter C_Round)(G_l_cell_at:FO P w K mg base 1 "_law_cell_at" zA2 [] (oU K)):FnOk P w K mg base G9 2 f fd zA2 (pR K):=by
 refine F.ok agh ?_ ?_
 .rintro _ _ _ _ ⟨a,ns,k,rfl,_⟩;rfl
 .intro cdv A outer s H vs Q E hr h;have C9:=hu_of hr;have hu:=hr.units;have hZ:=K9 agh;refine ⟨_,QSs.out (C1 (E1 2 M3)
   (C1 (E1 2 (qe_op (q_add (K:=K)) (qz 2) M3))
   (C1 (E1 3 (qe_ix (K:=K) (M6 (qa_c A8 (qa_c A8 (qa_c A8 (qa_c A8 (qa_c A8 (qa_c A8 (qa_c A8 (qa_c A8 (qa_c A8 (qa_c A8 (qa_c A8 (qa_c A8 A2))))))))))))) (qe_op q_mod (E3 G_l_cell_at (hm hr) (qa_c (qz 0) (qa_c A8 A2))) A8)))
   (B5 (E4 (qe_ix (K:=K) (qz 2) (qe_op q_mod (qe_op (q_add (K:=K)) (E3 G_l_cell_at (hm hr) (qa_c (qz 0) (qa_c A8 A2))) (qe_op q_mul (qz 1) (qz 3))) A8))))))),?_⟩
  obtain ⟨a,ns,k,rfl,hS,hk,q⟩:=h;walk_at "rd";have h1:=aon ns;have h2:=(akc ns k).1;rw [<- SS_eq] at h2;refine ⟨anC,by decide,fun p np=>⟨a,ns,1,rfl,(Same.new np).seq hS,by decide,⟨_,rfl,_,.inl (.of A1),V.int (stpN ns),?_,a,ns,0,rfl,(Same.new np).seq hS,by decide,?_⟩⟩⟩
  .have:=aom V.int ([1,2,4,5,7,8,10,11,13,23,44,91]:List Int) (cellF ns 1 % 12)
   rw [h1.1] at this;exact this
  walk_at "rd";exact ⟨.inr ⟨by lia,by lia⟩,aqB,_,h2,q _ (Same.new np)⟩
theorem agi:FnScope ["_law_cell", "_law_many", "_law_found"] zAk (C8 uY):=L4
theorem akk(F:FunD K "_law_turn" "_law_turn" uY f fd)(T:Txt P w K mg C C_Clash C_NoLetter C_Round):FnOk P w K mg base G9 1 f fd zAk ahM:=by
 refine F.ok agi ?_ ?_
 .rintro _ _ _ _ ⟨c,m,rfl,_⟩;rfl
 .intro cdv A outer s H vs Q E hr h;have C9:=hu_of hr;have hu:=hr.units;have hZ:=K9 agi;refine ⟨_,QSs.out (C1 (E1 2 (M6 (qa_c (qe_op q_mod (qz 0) (qz 1)) (qa_c (qe_op q_mod (qe_op bD (qz 0) (qz 1)) (qz 1)) A2))))
   (eS (qs_if (E6 (q_eq (K:=K) hu) (qe_op q_mod (qe_op bD (qz 0) A8) A8) A8) (B5 (R0 (qe_mB (K:=K) U1 j6 j5 m9 (qz 2) (qa_c (qe_op q_mod (qe_op bD (qz 0) A8) (qz 1)) A2)))) K1)
   (C1 (qs_if (E6 q_gt (qe_op q_mod (qe_op bD (qz 0) A8) A8) A8) (B5 (E1 2 (qe_cB (alH (P:=P) (w:=w) (calm:=true)) T.b_sorted tK (qa_c (qe_cT (uB (P:=P) (w:=w) (K:=K) (calm:=true)) T.b_set sF (qa_c (qz 2) A2)) A2)))) K1)
   (B5 (E4 (qz 2)))))),?_⟩
  obtain ⟨c,m,rfl,hm,hm7,q⟩:=h;have qQ:(0:Int)<(m:Int):=by lia
  obtain ⟨i1,e1,h1⟩:=vR (c:=c) hm;obtain ⟨i2,e2,h2⟩:=vR (c:=c / (m:Int)) hm;obtain ⟨i3,e3,h3⟩:=vR (c:=c / 98) hm;walk_at "rd";refine ⟨qQ,qQ,by lia,qQ,by decide,fun p np=>?_⟩;rw [e1,e2];refine midS (fun Y H2=>∃ is:List Nat,Y=[some (.int c),some (.int (m:Int)),some (.ref p)]/\Same H H2/\H2 p=some (.lst (is.map fun i:Nat=>V.int (i:Int)))/\is≠[]/\is.length<=3/\∀ i∈is,i<m) ?_ ?_
  .intro M' hM';walk_at "rd";refine iteD (fun _=>?_) fun _=>hM' _ _ ⟨[i1,i2],rfl,Same.new np,A1,by simp,by simp,by simp [h1,h2]⟩
   rw [e3];exact ⟨R8 A1,qQ,appOk A1 (by simp [sizeLine_eq]) (hM' _ _ ⟨[i1,i2,i3],rfl,(Same.new np).put np,A1,by simp,by simp,by simp [h1,h2,h3]⟩)⟩
  rintro Y H2 ⟨is,rfl,S2,h2p,h0,hl,hi⟩;walk_at "rd";refine iteD (fun _=>?_) fun _=>q p is H2 np S2 h2p h0 hl hi
  obtain ⟨nz,e,nd,nl,nm,n0⟩:=@al8 is;refine ⟨is.map kI,by rw [<- are];exact .of h2p,by rw [A3];lia,fun l2 nl2=>⟨nz,by rw [A1,e],nd,by lia,fun l3 ms qR hp _=>?_⟩⟩;obtain ⟨js,rfl⟩:=ahP (ms:=ms) fun n hn=>by obtain ⟨i,_,e⟩:=nm n (hp.mem_iff.mp hn);exact ⟨i,e⟩
  refine q l3 js _ ((S2.trans (Same.new nl2)).free qR) ((S2.trans (Same.new nl2)).trans (Same.new qR)) (by rw [A1,Q5];rfl) (fun h=>?_) ?_ fun j hj=>?_
  .rw [h] at hp;exact n0 h0 (List.Perm.nil_eq hp).symm
  .have:=hp.length_eq;rw [A3] at this;lia
  .obtain ⟨i,h1,h2⟩:=nm _ (hp.mem_iff.mp (D0.mpr ⟨j,hj,rfl⟩))
   have:=hi i h1
   lia
theorem agj:FnScope zAa zAa (C8 pN):=L4
theorem akl(F:FunD K "_law_rows" "_law_rows" pN f fd)(T:Txt P w K mg C C_Clash C_NoLetter C_Round):FnOk P w K mg base G9 1 f fd zAa (ahN K):=by
 refine F.ok agj ?_ ?_
 .rintro _ _ _ _ ⟨r,ts,R,w,rfl,_⟩;rfl
 .intro cdv A outer s H vs Q E hr h;have C9:=hu_of hr;have hu:=hr.units;have hZ:=K9 agj;refine ⟨_,QSs.out (B5 (E4 (u0  (Z5:CompOk zAa (C8 pN).names _ ["_law_rule", "_law_word"] 1 [1]) (O4 (K:=K) (qz 0)) (fun _ _ _ _ _=>W7 (n:=0) (show List.Nodup (["_law_rule", "_law_word"]:List Str) by decide +kernel) rfl (Or.inl rfl)) (fun _ _ _ _ _=>(eR (E6 (q_eq (K:=K) hu) (qe_ix (K:=K) (qv 0) A8) (qv 1)))) (fun _ _ _ _ _=>(qe_cT (cX (K:=K) (calm:=true)) T.b_list y9 (qa_c (W6 (K:=K) (qv 0) (Q9 A8) l8) A2)))))),?_⟩;obtain ⟨a,ts,R,w,rfl,hR,hz,hl,q⟩:=h;walk_at "rd";refine ⟨⟨_,.of hR.top⟩,compL (xs:=ts.map V.ref) [some (.str w)] rfl (fun D i ys H4=>∃ qs:List Addr,ys=qs.map V.ref/\RowsAt H H4 D qs (rowsW (R.take i) w)) (fun D nD=>⟨[],rfl,⟨⟨A1,.nil⟩,by simp,fun r hr=>by rw [D3.mp hr];exact nD,Same.new nD⟩⟩)
   (by rintro D i ys H4 nD _ ⟨qs,_,RA⟩;exact .of (RA.same _ _ hR.top)) ?_ ?_⟩
  .rintro D i x ys H4 nD hi hx ⟨qs,rfl,RA⟩ hD hy;obtain ⟨t,ht,rfl⟩:=J1 hx;obtain ⟨z,hz,C0⟩:=Paired.at hR.row ht;have aO:i<R.length:=(F8.mp hz).1;have E8:D1 K H4 t ((z.1::z.2).map V.str):=.of (RA.same _ _ C0);have A6:1<=((z.1::z.2).map V.str).length:=by rw [A3,G8];lia
   walk_at "rd";refine ⟨_,.inr E8,V.str z.1,Y5 _ _,?_⟩;walk_at "rd";refine iteD (fun e=>rSlR.t E8 (u5 (k:=1) 'g' A6) fun p np=>?_) fun e=>⟨hD,CW.skip hi hy ⟨qs,rfl,?_⟩⟩
   .rw [J3,sS];walk_at "rd";refine rListR.l (.inr (.of A1)) fun p2 Q4=>⟨C2 (C2 hD np) Q4,?_,CW.put hi hy ⟨qs++[p2],by rw [E2];rfl,?_⟩⟩
    .rw [A3] at hy;rw [A3];exact K8 'b'
    .rw [oS hz,if_pos e];have n2:H4 p2=none:=(Same.new np).free Q4;exact RA.grow (fun b o h=>C2 (C2 h np) Q4) n2 A1
   .rw [oS hz,if_neg e];exact RA
  rintro D ys H4 nD ⟨qs,rfl,RA⟩ hD hy;rw [A3,hR.len,J7] at RA;exact q D qs H4 RA.same RA.rows
theorem agk:FnScope ["_law_rows_here", "_law_one", "_law_other", "_law_row", "_law_k"] zAl (C8 uZ):=L4
theorem akm(F:FunD K "_law_said" "_law_said" uZ f fd)(T:Txt P w K mg C C_Clash C_NoLetter C_Round):FnOk P w K mg base G9 1 f fd zAl (ahO K):=by
 refine F.ok agk ?_ ?_
 .rintro _ _ _ _ ⟨a,rs,zss,x,y,rfl,_⟩;rfl
 .intro cdv A outer s H vs Q E hr h;have C9:=hu_of hr;have hu:=hr.units;have hZ:=K9 agk;refine ⟨_,QSs.out (C1 (N4 PassesOwn.never (O4 (K:=K) (qz 0)) (K0 3) (B5 (N4 PassesOwn.never (qi_r2 T.b_range (qa_c A8 (qa_c (qe_cB (q_len (K:=K)) T.b_len Y9 (qa_c (qz 3) A2)) A2))) (K0 4) (B5 (qs_if (QW.pt (kO (E6 (q_eq (K:=K) hu) (qe_ix (K:=K) (qz 3) (qe_op q_sub (qz 4) A8)) (qz 1)) (kN (E6 (q_eq (K:=K) hu) (qe_ix (K:=K) (qz 3) (qz 4)) (qz 2))))) (B5 (E4 qe_bl)) K1)))))
   (B5 (E4 qe_bl))),?_⟩
  obtain ⟨a,rs,zss,x,y,rfl,hR,hL,q⟩:=h;have hRl:rs.length=zss.length:=hR.row.length;walk_at "rd";refine ⟨⟨_,.of hR.top⟩,forLs (xs:=rs.map V.ref) (fun i Y H2=>∃ u v,Y=[some 'f',some (.str x),some (.str y),u,v]/\H2=H/\(x,y)∉edges (zss.take i)) ⟨none,none,rfl,rfl,by simp [edges]⟩ ?_ ?_ ?_⟩
  .rintro i Y H2 _ ⟨u,v,rfl,rfl,_⟩;exact .of hR.top
  .rintro P' Bk hP i x0 Y H2 hx ⟨u,v,rfl,rfl,hn⟩;obtain ⟨t,ht,rfl⟩:=J1 hx;obtain ⟨zs,F7,C0⟩:=Paired.at hR.row ht;walk_at "rd";have dN:=hL zs (L7 F7);refine ⟨zs.length,.inl ⟨_,.of C0,by rw [A3]⟩,by lia,by lia,by lia,by lia,forRs (fun j Y H3=>∃ v,Y=[some 'f',some (.str x),some (.str y),some (.ref t),v]/\H3=H2/\(x,y)∉edges (zss.take i)/\(x,y)∉(O0 zs).take j) ⟨_,rfl,rfl,hn,by simp⟩ ?_ ?_⟩
   .rintro P2 Bk2 hP2 j Y H3 hj ⟨v,rfl,rfl,mH,dL⟩;have i5:j+1<zs.length:=by lia
    have a1:=vS zs i5;have a2:=vT zs i5;have gA:(O0 zs)[j]?=some (zs[j],zs[j+1]):=oQ (E9 'b') (by rw [List.getElem?_tail];exact E9 i5);walk_at "rd";refine ⟨_,.inl (.of C0),_,a1,?_⟩;walk_at "rd";have nxt:¬ (zs[j]=x/\zs[j+1]=y)->P2 (j+1) [some (V.ref a),some (V.str x),some (V.str y),some (V.ref t),some (V.int (1+(j:Int)))] H3:=fun G7=>hP2 _ _ _ ⟨_,rfl,rfl,mH,fun hm=>by
     rw [J9 gA] at hm
     rcases D8.mp hm with hm | hm
     .exact dL hm
     .have e:=D3.mp hm;exact G7 ⟨(congrArg Prod.fst e).symm,(congrArg Prod.snd e).symm⟩⟩
    refine iteD (fun e1=>⟨_,.inl (.of C0),_,a2,?_⟩) fun e1=>nxt fun z=>e1 z.1
    walk_at "rd";refine iteD (fun e2=>?_) fun e2=>nxt fun z=>e2 z.2
    have L5:(x,y)∈edges zss:=U7.mpr ⟨zs,L7 F7,by rw [<- e1,<- e2];exact L7 gA⟩;rw [decide_eq_true L5] at q;exact q
   rintro Y H3 ⟨v,rfl,rfl,mH,dL⟩;refine hP _ _ _ ⟨_,_,rfl,rfl,fun hm=>?_⟩;rw [oP F7] at hm
   rcases D8.mp hm with hm | hm
   .exact mH hm
   .refine dL ?_;rw [j1 (by rw [kY,List.length_tail];lia)];exact hm
  rintro Y H2 ⟨u,v,rfl,rfl,hn⟩;walk_at "rd";rw [A3,hRl,J7] at hn;rw [decide_eq_false hn] at q;exact q
theorem sc_l_goes_round:FnScope zAm zAn (C8 iU):=L4
theorem vac:LS iU "_law_left":=lq
theorem aee(F:FunD K "_law_goes_round" "_law_goes_round" iU f fd)(T:Txt P w K mg C C_Clash C_NoLetter C_Round):FnOk P w K mg base G9 1 f fd zAn (pV K):=by
 refine F.ok sc_l_goes_round ?_ ?_
 .rintro _ _ _ _ ⟨a,rs,zss,rfl,_⟩;rfl
 .intro cdv A outer s H vs Q E hr h;have C9:=hu_of hr;have hu:=hr.units;have hZ:=K9 sc_l_goes_round;refine ⟨_,QSs.out (C1 (E1 1 (M6 A2))
   (eS (N4 PassesOwn.never (O4 (K:=K) (qz 0)) (K0 2) (B5 (N4 PassesOwn.never (qi_r2 T.b_range (qa_c A8 (qa_c (qe_cB (q_len (K:=K)) T.b_len Y9 (qa_c (qz 2) A2)) A2))) (K0 3) (B5 (qs_if (E6 (aq2 (K:=K) hu) (R9 (qa_c (qe_ix (K:=K) (qz 2) (qe_op q_sub (qz 3) A8)) (qa_c (qe_ix (K:=K) (qz 2) (qz 3)) A2))) (qz 1)) (B5 (R0 (qe_mB (K:=K) U1 j6 j5 m9 (qz 1) (qa_c (R9 (qa_c (qe_ix (K:=K) (qz 2) (qe_op q_sub (qz 3) A8)) (qa_c (qe_ix (K:=K) (qz 2) (qz 3)) A2))) A2)))) K1)))))
   (C1 (N4 PassesOwn.never (qi_r1 T.b_range (qa_c A8 A2)) (K0 4) (C1 (E1 5 (u0  (Z5:CompOk zAm (C8 iU).names _ ["_law_pair"] 1 []) (O4 (K:=K) (qz 1)) (fun _ _ _ _ _=>W7 (n:=0) (show List.Nodup (["_law_pair"]:List Str) by decide +kernel) rfl (Or.inl rfl)) (fun _ _ _ _ _=>eQ) (fun _ _ _ _ _=>(qe_ix (K:=K) (qv 0) A8))))
   (B5 (sO (n:=1) sc_l_goes_round.nd rfl vac (Z5:CompOk zAm (C8 iU).names _ ["_law_pair", "_law_behind"] 1 [5]) (O4 (K:=K) (qz 1)) (fun _ _ _ _ _=>W7 (n:=0) (show List.Nodup (["_law_pair", "_law_behind"]:List Str) by decide +kernel) rfl (Or.inl rfl)) (fun _ _ _ _ _=>(eR (E6 (q_in (K:=K) hu) (qe_ix (K:=K) (qv 0) A8) (qv 1)))) (fun _ _ _ _ _=>(qv 0))))))
   (B5 (E4 (cW (q_ne (K:=K) hu) (qz 1) (M6 A2))))))),?_⟩
  obtain ⟨a,rs,zss,rfl,hR,T6,hok,q⟩:=h;have hRl:rs.length=zss.length:=hR.row.length;walk_at "rd";intro p np;have RA0:RulesAt H (A0 H p (.lst [])) p [] (V3 (ddPs [] (edges (zss.take 0)))):=⟨⟨A1,.nil⟩,by simp,fun b hb=>by rw [D3.mp hb];exact np,Same.new np⟩
  generalize A0 H p (.lst [])=H0 at RA0;refine midS (fun Y H2=>∃ (u v:Option V) (ts:List Addr),Y=[some 'f',some (.ref p),u,v,none,none]/\RulesAt H H2 p ts (V3 (X2 zss))) ?_ ?_
  .intro M' hM';walk_at "rd";refine ⟨⟨_,.of (RA0.same _ _ hR.top)⟩,forLs (xs:=rs.map V.ref) (fun i Y H2=>∃ (u v:Option V) (ts:List Addr),Y=[some 'f',some (.ref p),u,v,none,none]/\RulesAt H H2 p ts (V3 (ddPs [] (edges (zss.take i))))) ⟨none,none,[],rfl,RA0⟩ ?_ ?_ ?_⟩
   .rintro i Y H2 _ ⟨u,v,ts,rfl,RA⟩;exact .of (RA.same _ _ hR.top)
   .rintro P' Bk hP i x0 Y H2 hx ⟨u,v,ts,rfl,RA⟩;obtain ⟨t,ht,rfl⟩:=J1 hx;obtain ⟨zs,F7,C0⟩:=Paired.at hR.row ht;have dN:zs.length<=1000:=D5 (List.Sublist.length_le (nG (L7 F7))) T6;have W0:(edges (zss.take i)++O0 zs).length<=1000:=by
     rw [<- oP F7];have h2:=kZ (zss.take (i+1));have h3:(zss.take (i+1)).flatten.length<=zss.flatten.length:=by
      conv=>rhs;rw [<- X7 (i+1) zss]
      rw [eC,D4];lia
     lia
    walk_at "rd";refine ⟨zs.length,.inl ⟨_,.of (RA.same _ _ C0),by rw [A3]⟩,by lia,by lia,by lia,by lia,forRs (fun j Y H3=>∃ (v:Option V) (ts:List Addr),Y=[some 'f',some (.ref p),some (.ref t),v,none,none]/\RulesAt H H3 p ts (V3 (ddPs [] (edges (zss.take i)++(O0 zs).take j)))) ⟨_,ts,rfl,by rw [j2,K7];exact RA⟩ ?_ ?_⟩
    .rintro P2 Bk2 hP2 j Y H3 hj ⟨v,ts,rfl,RB⟩;have i5:j+1<zs.length:=by lia
     have a1:=vS zs i5;have a2:=vT zs i5;have gA:(O0 zs)[j]?=some (zs[j],zs[j+1]):=oQ (E9 'b') (by rw [List.getElem?_tail];exact E9 i5);have R4:=RB.same _ _ C0;walk_at "rd";refine ⟨_,.inl (.of R4),_,a1,_,.inl (.of R4),_,a2,by decide,fun t1 nt1=>?_⟩;have S4:Same H3 (A0 H3 t1 (HO.tup [V.str zs[j],V.str zs[j+1]])):=Same.new nt1;have ht1:A0 H3 t1 (HO.tup [V.str zs[j],V.str zs[j+1]]) t1=some (tupR (zs[j],[zs[j+1]])):=A1;generalize A0 H3 t1 (HO.tup [V.str zs[j],V.str zs[j+1]])=H4 at S4 ht1;have hEl:=ahL (acc:=[]) (es:=edges (zss.take i)++(O0 zs).take j);rw [D4,K6] at hEl;rw [D4] at W0;have okE:∀ e∈ddPs [] (edges (zss.take i)++(O0 zs).take j),e∈edges zss:=fun e he=>by
      rcases ddPs_mem.mp he with he | he
      .cases he
      .rcases D8.mp he with he | he
       .obtain ⟨z,hz,he⟩:=U7.mp he;exact U7.mpr ⟨z,jY hz,he⟩
       .exact U7.mpr ⟨zs,L7 F7,jY he⟩
     have snoc:ddPs [] (edges (zss.take i)++(O0 zs).take (j+1))=o3 (ddPs [] (edges (zss.take i)++(O0 zs).take j)) (zs[j],zs[j+1]):=by
      rw [J9 gA,<- X9];unfold ddPs;rw [cG];rfl
     have hz2:(zs[j],zs[j+1])∈edges zss:=U7.mpr ⟨zs,L7 F7,L7 gA⟩;have fin:∀ {H5:Hp} {ts5:List Addr},RulesAt H H5 p ts5 (V3 (o3 (ddPs [] (edges (zss.take i)++(O0 zs).take j)) (zs[j],zs[j+1])))->P2 (j+1) [some (V.ref a),some (V.ref p),some (V.ref t),some (V.int (1+(j:Int))),none,none] H5:=fun {H5 ts5} RC=>hP2 _ _ _ ⟨_,ts5,rfl,by rw [snoc];exact RC⟩
     generalize ddPs [] (edges (zss.take i)++(O0 zs).take j)=E0 at RB hEl okE fin;have hR4:=RB.rows.same S4;refine ⟨ruleD (zs[j],[zs[j+1]]),.tup (.of ht1) (eK (akg hok hz2)),(V3 E0).map ruleD,aht hR4 (amw hok okE),D5 (Nat.min_le_left _ _) (D5 (adU _) 'g'),?_⟩;rw [aoq]
     by_cases hm:(zs[j],zs[j+1])∈E0
     .rw [if_neg (by rw [decide_eq_true hm];decide)];refine fin (ts5:=ts) ?_;unfold o3;rw [if_pos hm];exact ⟨hR4,RB.nd,RB.new,RB.same.trans S4⟩
     .rw [if_pos (by rw [decide_eq_false hm];rfl)];have E8:=S4 _ _ R4;refine ⟨R8 hR4.top,_,.inl (.of E8),_,a1,_,.inl (.of E8),_,a2,by decide,fun t2 yC=>?_⟩;have RC:=RB.grow (S4.trans (Same.new yC)) (S4.free yC) (z:=(zs[j],[zs[j+1]])) A1;refine appOk (C2 hR4.top yC) (by rw [A3,hR4.len];unfold V3;rw [A3];exact K8 (by simp at hEl;lia)) (fin (ts5:=ts++[t2]) ?_);unfold o3;rw [if_neg hm];unfold V3;rw [E2];exact RC
    rintro Y H3 ⟨v,ts,rfl,RB⟩;rw [j1 (l:=O0 zs) (by rw [kY,List.length_tail];lia),<- oP F7] at RB;exact hP _ _ _ ⟨_,_,ts,rfl,RB⟩
   rintro Y H2 ⟨u,v,ts,rfl,RA⟩;rw [A3,hRl,J7] at RA;exact hM' _ _ ⟨u,v,ts,rfl,RA⟩
  rintro Y H2 ⟨u,v,ts,rfl,RA⟩;have hR2:=RA.rows;have S2:=RA.same;have hE8:(X2 zss).length<=1000:=by
   have h1:=ahL (acc:=[]) (es:=edges zss);have h2:=kZ zss;unfold X2;simp at h1;lia
  have okG:∀ e∈X2 zss,e∈edges zss:=fun e he=>goE_mem.mp he
  walk_at "rd";refine ⟨by decide,by decide,forRs (fun i Y H3=>∃ (u v x y:Option V) (lf:Addr) (ts:List Addr),Y=[some 'f',some (.ref lf),u,v,x,y]/\Same H H3/\IsRules H3 lf ts (V3 (pruN (X2 zss) i))) ⟨_,_,_,_,p,ts,rfl,S2,hR2⟩ ?_ ?_⟩
  .rintro P' Bk hP i Y H3 hi ⟨u,v,x,y,lf,ts,rfl,S3,hR3⟩;have x4:=akf (E:=X2 zss) i;have fin:∀ {H5:Hp} {qS:Addr} {ts5:List Addr} {u v x y:Option V},Same H H5->IsRules H5 qS ts5 (V3 (pruE (pruN (X2 zss) i)))->P' (i+1) [some (V.ref a),some (V.ref qS),u,v,x,y] H5:=fun {H5 qS ts5 u v x y} S h=>hP _ _ _ ⟨_,_,_,_,qS,ts5,rfl,S,h⟩
   generalize pruN (X2 zss) i=E0 at hR3 x4 fin;have mV:ts.length=E0.length:=by rw [hR3.len];unfold V3;rw [A3]
   walk_at "rd";refine ⟨⟨_,.of hR3.top⟩,compL (xs:=ts.map V.ref) [] rfl (fun D k ys H4=>ys=((E0.take k).map (·.2)).map V.str/\Same H3 H4) (fun D nD=>⟨rfl,Same.new nD⟩) (by rintro D k ys H4 nD _ ⟨_,S⟩;exact .of (S _ _ hR3.top)) ?_ ?_⟩
   .rintro D k x0 ys H4 nD hk hx ⟨rfl,S4⟩ hD hy;obtain ⟨t,ht,rfl⟩:=J1 hx;obtain ⟨z,hz,C0⟩:=Paired.at hR3.row ht;obtain ⟨e,he,rfl⟩:∃ e,E0[k]?=some e/\z=(e.1,[e.2]):=J1 hz;walk_at "rd";refine ⟨_,.inr (.of (S4 _ _ C0)),V.str e.2,rfl,hD,?_,CW.put hk hy ⟨?_,S4.put nD⟩⟩
    .rw [A3,A3,K6];exact K8 'b'
    .rw [J9 he,E2,E2];rfl
   rintro D ys H4 nD ⟨rfl,S4⟩ hD hy;rw [A3,mV,J7] at hD;have hR4:=hR3.same S4
   try walk_at "rd"
   refine ⟨⟨_,.of hR4.top⟩,compL (xs:=ts.map V.ref) [some (.ref D)] rfl (fun D2 k ys H5=>∃ qs:List Addr,ys=qs.map V.ref/\Same H4 H5/\Paired (fun r z=>H4 r=some (tupR z)) qs (V3 ((E0.take k).filter fun e=>decide (e.1∈E0.map (·.2))))) (fun D2 nD2=>⟨[],rfl,Same.new nD2,.nil⟩) (by rintro D2 k ys H5 nD2 _ ⟨qs,_,S,_⟩;exact .of (S _ _ hR4.top)) ?_ ?_⟩
   .rintro D2 k x0 ys H5 nD2 hk hx ⟨qs,rfl,S5,hq⟩ hD2 hy;obtain ⟨t,ht,rfl⟩:=J1 hx;obtain ⟨z,hz,C0⟩:=Paired.at hR4.row ht;obtain ⟨e,he,rfl⟩:∃ e,E0[k]?=some e/\z=(e.1,[e.2]):=J1 hz;walk_at "rd";refine ⟨_,.inr (.of (S5 _ _ C0)),V.str e.1,rfl,rInR.l (.inl (.of (S5 _ _ hD))) rfl (afH _) ⟨_,rfl,?_⟩⟩;rw [oH,Bool.false_xor];have step:(E0.take (k+1)).filter (fun e=>decide (e.1∈E0.map (·.2)))=(E0.take k).filter (fun e=>decide (e.1∈E0.map (·.2)))++if e.1∈E0.map (·.2) then [e] else []:=by
     rw [J9 he,f6]
     congr 1
     by_cases hm:e.1∈E0.map (·.2)
     .rw [if_pos hm,p0 (by simpa using hm)];rfl
     .rw [if_neg hm,p5 (by simpa using hm)];rfl
    refine iteD (fun hm=>⟨hD2,?_,CW.put hk hy ⟨qs++[t],by rw [E2];rfl,S5.put nD2,?_⟩⟩) fun hm=>⟨hD2,CW.skip hk hy ⟨qs,rfl,S5,?_⟩⟩
    .rw [A3] at hy ⊢;rw [A3,mV] at hk;exact K8 'b'
    .rw [step,if_pos hm];unfold V3;rw [E2];exact pW hq (.cons C0 .nil)
    .rw [step,if_neg hm,K7];exact hq
   rintro D2 ys H5 nD2 ⟨qs,rfl,S5,hq⟩ hD2 hy;rw [A3,mV,J7] at hq
   try walk_at "rd"
   exact fin (S3.trans (S4.trans S5)) ⟨hD2,j8 hq fun _ _ e=>S5 _ _ e⟩
  rintro Y H3 ⟨u,v,x,y,lf,ts,rfl,S3,hR3⟩;walk_at "rd";intro l5 nl5;have S5:=Same.new (u:=HO.lst []) nl5;refine ⟨_,aht (hR3.same S5) (amw hok fun e he=>okG e (pU he)),.list [],.lst (.of A1) .nil,D5 (Nat.min_le_right _ _) 'g',?_⟩
  have:=q _ (S3.trans S5)
  unfold dF at this;rw [show (Int.toNat 8)=8 from rfl];rw [arf];exact this
theorem aeJ:FnScope ["_law_rows_here", "_law_found", "_law_k"] zA7 (C8 vA):=L4
theorem aiq(F:FunD K "_law_round" "_law_round" vA f fd)(T:Txt P w K mg C C_Clash C_NoLetter C_Round)(G_shortest_round:FO P w K mg base 3 "shortest_round" zA3 [] vE)(G_l_said:FO P w K mg base 1 "_law_said" zAl [] (ahO K)):FnOk P w K mg base G9 4 f fd zA7 (af9 K):=by
 refine F.ok aeJ ?_ ?_
 .rintro _ _ _ _ ⟨a,l,rs,zss,g,rfl,_⟩;rfl
 .intro cdv A outer s H vs Q E hr h;have C9:=hu_of hr;have hu:=hr.units;have hZ:=K9 aeJ;refine ⟨_,QSs.out (C1 (qs_if (QW.pt (qw_or (sL (m8 (K:=K) (qe_cB q_isi T.b_isinstance Z0 (qa_c (qz 1) (qa_c (qe_ty T.b_list y9) A2))))) (qw_or (E6 (q_eq (K:=K) hu) (qz 1) (M6 A2)) (sM (E6 (q_ne (K:=K) hu) (qe_cB (aqZ (P:=P) (w:=w)) T.b_len Y9 (qa_c (qe_cT (uB (P:=P) (w:=w) (K:=K) (calm:=true)) T.b_set sF (qa_c (qz 1) A2)) A2)) (qe_cB (q_len (K:=K)) T.b_len Y9 (qa_c (qz 1) A2))))))) (B5 (E4 qe_bl)) K1)
   (C1 (qs_if (E6 (q_ne (K:=K) hu) (qe_cB (q_len (K:=K)) T.b_len Y9 (qa_c (E3 G_shortest_round (hm hr) (qa_c (qz 0) A2)) A2)) (qe_cB (q_len (K:=K)) T.b_len Y9 (qa_c (qz 1) A2))) (B5 (E4 qe_bl)) K1)
   (C1 (N4 PassesOwn.never (qi_r1 T.b_range (qa_c (qe_cB (q_len (K:=K)) T.b_len Y9 (qa_c (qz 1) A2)) A2)) (K0 2) (B5 (qs_if (sL (m8 (K:=K) (E3 G_l_said (hm hr) (qa_c (qz 0) (qa_c (qe_ix (K:=K) (qz 1) (qe_op q_sub (qz 2) A8)) (qa_c (qe_ix (K:=K) (qz 1) (qz 2)) A2)))))) (B5 (E4 qe_bl)) K1)))
   (B5 (E4 qe_bl))))),?_⟩
  obtain ⟨a,l,rs,zss,g,rfl,hR,hl,T6,hok,lst,q⟩:=h;have dQ:∀ x∈g,x∈toldL zss:=vF lst.rnd;have hgl:g.length<=500:=D5 (vG lst.rnd.nd dQ) (D5 (eM zss) T6);have yD:∀ z∈g,P8 z=true:=fun z hz=>by
   obtain ⟨zs,F7,h⟩:=cJ.mp ((dB _ _).mp (dQ z hz));exact (hok zs F7 z h).2
  have i4:0<g.length:=List.length_pos_iff.mpr lst.rnd.ne;have dep1:min (j7 (g.map U9)).depth (j7 (([]:List Str).map U9)).depth<=60:=D5 (Nat.min_le_right _ _) 'g';have dn0:∀ {H:Hp} {l:Addr},H l=some (.lst [])->Dn K H (.ref l) (.list (([]:List Str).map U9)):=fun h=>.lst (.of h) .nil
  have aG:(kS g).length=g.length:=by unfold kS;rw [A3]
  have lnk:(metK (kS g)).length=g.length:=by rw [(al9 (show (kS g).Nodup from pH (fun _ _ e=>Sum.inr.inj e) lst.rnd.nd)).length_eq,aG]
  have dN:∀ zs∈zss,zs.length<=1000:=fun zs F7=>by have:=List.Sublist.length_le (nG F7);lia
  walk_at "rd";refine ⟨"list",ai8 hl,rfl,iteF fun p np=>⟨_,.lst (.of (C2 hl np)) (eK yD),_,dn0 A1,dep1,?_⟩⟩;rw [ahe,decide_eq_false lst.rnd.ne];have S1:Same H (A0 H p (.lst [])):=Same.new np;generalize A0 H p (.lst [])=H1 at S1 ⊢
  have jG:=S1 _ _ hl;refine iteF ⟨kS g,by rw [kS_kV];exact .of jG,by lia,fun s1 ns1=>⟨_,A1,g.length,.inl ⟨_,.of (C2 jG ns1),by rw [A3]⟩,?_⟩⟩;rw [lnk]
  try walk_at "rd"
  rw [show (!decide True)=false from rfl];have S2:=S1.trans (Same.new (u:=SetV P w s1 (metK (kS g))) ns1);generalize A0 H1 s1 (SetV P w s1 (metK (kS g)))=H2 at S2 ⊢
  refine iteF ⟨a,rs,zss,rfl,hR.same S2,by lia,fun l3 g3 H3 S3 x4 hg3=>?_⟩;have e3:g3.length=g.length:=by
   rcases hg3 with h | ⟨_,h⟩
   .exact h.same lst
   .exact absurd lst.rnd (h g)
  have S4:=S2.trans S3;refine ⟨g3.length,.inl ⟨_,.of x4,by rw [A3]⟩,g.length,.inl ⟨_,.of (S4 _ _ hl),by rw [A3]⟩,?_⟩;rw [e3]
  try walk_at "rd"
  rw [show (!decide True)=false from rfl];refine iteF ⟨g.length,.inl ⟨_,.of (S4 _ _ hl),by rw [A3]⟩,by lia,by lia,forRs (fun i Y H5=>∃ u,Y=[some 'f',some (.ref l),u]/\H5=H3) ⟨none,rfl,rfl⟩ ?_ ?_⟩
  .rintro P' Bk hP i Y H5 hi ⟨u,rfl,rfl⟩;obtain ⟨x,y,hx,hy,o6⟩:=lst.rnd.step i 'b';walk_at "rd";refine ⟨_,.inl (.of (S4 _ _ hl)),V.str x,hx,_,.inl (.of (S4 _ _ hl)),V.str y,hy,a,rs,zss,x,y,rfl,hR.same S4,dN,_,rfl,?_⟩;rw [decide_eq_true o6];exact iteF (hP _ _ _ ⟨_,rfl,rfl⟩)
  rintro Y H5 ⟨u,rfl,rfl⟩;walk_at "rd";exact q _ S4
theorem aeK:FnScope ["_law_rows_here", "_law_found", "_law_due", "_law_row", "_law_k"] zA7 (C8 vB):=L4
theorem air(F:FunD K "_law_lined" "_law_lined" vB f fd)(T:Txt P w K mg C C_Clash C_NoLetter C_Round):FnOk P w K mg base G9 1 f fd zA7 (aga K):=by
 refine F.ok aeK ?_ ?_
 .rintro _ _ _ _ ⟨a,l,rs,zss,L,rfl,_⟩;rfl
 .intro cdv A outer s H vs Q E hr h;have C9:=hu_of hr;have hu:=hr.units;have hZ:=K9 aeK;refine ⟨_,QSs.out (C1 (E1 2 (M6 A2))
   (eS (N4 PassesOwn.never (O4 (K:=K) (qz 0)) (K0 3) (B5 (E1 2 (qe_op (q_add (K:=K)) (qz 2) (qz 3)))))
   (C1 (qs_if (QW.pt (qw_or (sL (m8 (K:=K) (qe_cB q_isi T.b_isinstance Z0 (qa_c (qz 1) (qa_c (qe_ty T.b_list y9) A2))))) (sM (E6 (q_ne (K:=K) hu) (qe_cB (alI (P:=P) (w:=w) (calm:=true)) T.b_sorted tK (qa_c (qe_cT (uB (P:=P) (w:=w) (K:=K) (calm:=true)) T.b_set sF (qa_c (qz 2) A2)) A2)) (qe_cB alJ T.b_sorted tK (qa_c (qz 1) A2)))))) (B5 (E4 qe_bl)) K1)
   (C1 (N4 PassesOwn.never (O4 (K:=K) (qz 0)) (K0 3) (B5 (N4 PassesOwn.never (qi_r2 T.b_range (qa_c A8 (qa_c (qe_cB (q_len (K:=K)) T.b_len Y9 (qa_c (qz 3) A2)) A2))) (K0 4) (B5 (qs_if (E6 q_ge (qe_mB (K:=K) U1 PySem.F.slot_list_index PySem.F.type_list_index ahn (qz 1) (qa_c (qe_ix (K:=K) (qz 3) (qe_op q_sub (qz 4) A8)) A2)) (qe_mB (K:=K) U1 PySem.F.slot_list_index PySem.F.type_list_index ahn (qz 1) (qa_c (qe_ix (K:=K) (qz 3) (qz 4)) A2))) (B5 (E4 qe_bl)) K1)))))
   (B5 (E4 qe_bl)))))),?_⟩
  obtain ⟨a,l,rs,zss,L,rfl,hR,hl,T6,hok,run,cov,hL7,q⟩:=h;have hRl:rs.length=zss.length:=hR.row.length;have memL:∀ s,s∈L↔s∈zss.flatten:=fun s=>⟨fun h=>(dB _ _).mp (run.sub h),fun h=>cov _ ((dB _ _).mpr h)⟩
  have hokL:∀ z∈L,P8 z=true:=fun z hz=>by
   obtain ⟨zs,F7,h⟩:=cJ.mp ((memL z).mp hz);exact (hok zs F7 z h).2
  walk_at "rd";intro p np;refine midS (fun Y H2=>∃ (d:Addr) (u:Option V),Y=[some 'f',some (.ref l),some (.ref d),u,none]/\Same H H2/\H2 d=some (.lst (zss.flatten.map V.str))) ?_ ?_
  .intro M' hM';walk_at "rd";refine ⟨⟨_,.of ((Same.new np) _ _ hR.top)⟩,forLs (xs:=rs.map V.ref) (fun i Y H2=>∃ (d:Addr) (u:Option V),Y=[some 'f',some (.ref l),some (.ref d),u,none]/\Same H H2/\H2 d=some (.lst ((zss.take i).flatten.map V.str))) ⟨p,none,rfl,Same.new np,A1⟩ ?_ ?_ ?_⟩
   .rintro i Y H2 _ ⟨d,u,rfl,S,_⟩;exact .of (S _ _ hR.top)
   .rintro P' Bk hP i x0 Y H2 hx ⟨d,u,rfl,S,hd⟩;obtain ⟨t,ht,rfl⟩:=J1 hx;obtain ⟨zs,F7,C0⟩:=Paired.at hR.row ht;have hfi:((zss.take i).flatten++zs).length<=500:=by
     have e:(zss.take i).flatten++zs=(zss.take (i+1)).flatten:=by rw [J9 F7,eC];simp
     rw [e]
     have:(zss.take (i+1)).flatten.length<=zss.flatten.length:=by
      conv=>rhs;rw [<- X7 (i+1) zss]
      rw [eC,D4];lia
     lia
    walk_at "rd";refine rAddR.l hd (S _ _ C0) (by rw [A3,A3,<- D4];exact z0 'b') fun p3 o7=>hP _ _ _ ⟨p3,_,rfl,S.trans (Same.new o7),?_⟩
    rw [A1,J9 F7,eC,E2]
    simp
   rintro Y H2 ⟨d,u,rfl,S,hd⟩;rw [A3,hRl,J7] at hd;exact hM' _ _ ⟨d,u,rfl,S,hd⟩
  rintro Y H2 ⟨d,u,rfl,S,hd⟩;walk_at "rd";obtain ⟨ss,es,nds,hss⟩:=ama zss.flatten;have v9:ss.Perm L:=pG run.nodup (fun x hx=>(hss x).mpr ((memL x).mp hx)) (vG nds fun x hx=>(memL x).mpr ((hss x).mp hx));have aG:(kS zss.flatten).length=zss.flatten.length:=by unfold kS;rw [A3]
  refine ⟨"list",ai8 (S _ _ hl),rfl,iteF ⟨kS zss.flatten,by rw [kS_kV];exact .of hd,by lia,fun l1 n1=>⟨ss,by rw [A1,es],nds,by rw [v9.length_eq];lia,fun l2 o8 n2 p1 o1=>⟨L,C2 (C2 (S _ _ hl) n1) n2,by lia,fun l3 ts2 n3 p2 o2=>?_⟩⟩⟩⟩;have e12:o8=ts2:=adY o1 o2 (p1.trans (v9.trans p2.symm));subst e12;have S5:=S.trans ((Same.new (u:=SetV P w l1 (metK (kS zss.flatten))) n1).trans ((Same.new (u:=HO.lst (o8.map V.str)) n2).trans (Same.new (u:=HO.lst (o8.map V.str)) n3)));have h5a:A0 (A0 (A0 H2 l1 (SetV P w l1 (metK (kS zss.flatten)))) l2 (HO.lst (o8.map V.str))) l3 (HO.lst (o8.map V.str)) l2=some (HO.lst (o8.map V.str)):=C2 A1 n3;have h5b:A0 (A0 (A0 H2 l1 (SetV P w l1 (metK (kS zss.flatten)))) l2 (HO.lst (o8.map V.str))) l3 (HO.lst (o8.map V.str)) l3=some (HO.lst (o8.map V.str)):=A1;generalize A0 (A0 (A0 H2 l1 (SetV P w l1 (metK (kS zss.flatten)))) l2 (HO.lst (o8.map V.str))) l3 (HO.lst (o8.map V.str))=H5 at S5 h5a h5b;have okT:∀ z∈o8,P8 z=true:=fun z hz=>hokL z (p2.mem_iff.mp hz)
  refine ⟨_,.lst (.of h5a) (eK okT),_,.lst (.of h5b) (eK okT),D5 (Nat.min_le_left _ _) (by rw [PyData.depth,sH];decide),?_⟩;rw [ahe,decide_eq_true rfl];refine iteF ⟨⟨_,.of (S5 _ _ hR.top)⟩,forLs (xs:=rs.map V.ref) (fun i Y H6=>∃ u v,Y=[some 'f',some (.ref l),some (.ref d),u,v]/\H6=H5) ⟨_,_,rfl,rfl⟩ ?_ ?_ ?_⟩
  .rintro i Y H6 _ ⟨u,v,rfl,rfl⟩;exact .of (S5 _ _ hR.top)
  .rintro P' Bk hP i x0 Y H6 hx ⟨u,v,rfl,rfl⟩;obtain ⟨t,ht,rfl⟩:=J1 hx;obtain ⟨zs,F7,C0⟩:=Paired.at hR.row ht;have dN:zs.length<=500:=D5 (List.Sublist.length_le (nG (L7 F7))) T6;have x5:=S5 _ _ C0;have jS:=S5 _ _ hl;walk_at "rd";refine ⟨zs.length,.inl ⟨_,.of x5,by rw [A3]⟩,by lia,by lia,by lia,by lia,forRs (fun j Y H7=>∃ v,Y=[some 'f',some (.ref l),some (.ref d),some (.ref t),v]/\H7=H6) ⟨_,rfl,rfl⟩ ?_ ?_⟩
   .rintro P2 Bk2 hP2 j Y H7 hj ⟨v,rfl,rfl⟩;have i5:j+1<zs.length:=by lia
    have a1:=vS zs i5;have a2:=vT zs i5;have gA:(O0 zs)[j]?=some (zs[j],zs[j+1]):=oQ (E9 'b') (by rw [List.getElem?_tail];exact E9 i5);have L5:(zs[j],zs[j+1])∈edges zss:=U7.mpr ⟨zs,L7 F7,L7 gA⟩;have m1:=cov _ (bE L5).1;have m2:=cov _ (bE L5).2;have C7:L.idxOf zs[j]<L.idxOf zs[j+1]:=pP run L5 m2;walk_at "rd";refine ⟨R8 jS,_,.inl (.of x5),_,a1,idxOk jS m1 ⟨R8 jS,_,.inl (.of x5),_,a2,idxOk jS m2 ?_⟩⟩;walk_at "rd";exact iteD (fun e=>absurd e 'b') fun _=>hP2 _ _ _ ⟨_,rfl,rfl⟩
   rintro Y H7 ⟨v,rfl,rfl⟩;exact hP _ _ _ ⟨_,_,rfl,rfl⟩
  rintro Y H6 ⟨u,v,rfl,rfl⟩;walk_at "rd";exact q _ S5
theorem aeL:FnScope ["_law_e", "_law_some"] ["_law_e"] (C8 vC):=L4
theorem ais(F:FunD K "_law_kinds" "_law_kinds" vC f fd)(T:Txt P w K mg C C_Clash C_NoLetter C_Round):FnOk P w K mg base G9 1 f fd ["_law_e"] (agb C_Clash C_NoLetter C_Round):=by
 refine F.ok aeL ?_ ?_
 .rintro _ _ _ _ ⟨x,i,fs,rfl,_⟩;rfl
 .intro cdv A outer s H vs Q E hr h;have C9:=hu_of hr;have hu:=hr.units;obtain ⟨a_Clash,m_Clash,M_Clash⟩:=T.x_Clash;obtain ⟨a_NoDeed,m_NoDeed,M_NoDeed⟩:=T.x_NoDeed;obtain ⟨a_NoLetter,m_NoLetter,M_NoLetter⟩:=T.x_NoLetter;obtain ⟨a_NoName,m_NoName,M_NoName⟩:=T.x_NoName;obtain ⟨a_NoRule,m_NoRule,M_NoRule⟩:=T.x_NoRule;obtain ⟨a_NoSign,m_NoSign,M_NoSign⟩:=T.x_NoSign;obtain ⟨a_NoText,m_NoText,M_NoText⟩:=T.x_NoText;obtain ⟨a_NotPlain,m_NotPlain,M_NotPlain⟩:=T.x_NotPlain;obtain ⟨a_Ring,m_Ring,M_Ring⟩:=T.x_Ring;obtain ⟨a_Round,m_Round,M_Round⟩:=T.x_Round;obtain ⟨a_Twice,m_Twice,M_Twice⟩:=T.x_Twice;have hZ:=K9 aeL;refine ⟨_,QSs.out (C1 (E1 1 (M6 (qa_c (qe_cB (q_isX T.cn T.ct (K:=K)) T.b_isinstance Z0 (qa_c (qz 0) (qa_c (Y4 m_Clash) A2))) (qa_c (qe_cB (q_isX T.cn T.ct (K:=K)) T.b_isinstance Z0 (qa_c (qz 0) (qa_c (Y4 m_NoLetter) A2))) (qa_c (qe_cB (q_isX T.cn T.ct (K:=K)) T.b_isinstance Z0 (qa_c (qz 0) (qa_c (Y4 m_Round) A2))) (qa_c (qe_cB (q_isX T.cn T.ct (K:=K)) T.b_isinstance Z0 (qa_c (qz 0) (qa_c (Y4 m_NoSign) A2))) A2))))))
   (C1 (E1 1 (qe_op (q_add (K:=K)) (qz 1) (M6 (qa_c (qe_cB (q_isX T.cn T.ct (K:=K)) T.b_isinstance Z0 (qa_c (qz 0) (qa_c (Y4 m_NoRule) A2))) (qa_c (qe_cB (q_isX T.cn T.ct (K:=K)) T.b_isinstance Z0 (qa_c (qz 0) (qa_c (Y4 m_Twice) A2))) (qa_c (qe_cB (q_isX T.cn T.ct (K:=K)) T.b_isinstance Z0 (qa_c (qz 0) (qa_c (Y4 m_NoText) A2))) (qa_c (qe_cB (q_isX T.cn T.ct (K:=K)) T.b_isinstance Z0 (qa_c (qz 0) (qa_c (Y4 m_NotPlain) A2))) A2)))))))
   (B5 (E4 (qe_op (q_add (K:=K)) (qz 1) (M6 (qa_c (qe_cB (q_isX T.cn T.ct (K:=K)) T.b_isinstance Z0 (qa_c (qz 0) (qa_c (Y4 m_NoName) A2))) (qa_c (qe_cB (q_isX T.cn T.ct (K:=K)) T.b_isinstance Z0 (qa_c (qz 0) (qa_c (Y4 m_Ring) A2))) (qa_c (qe_cB (q_isX T.cn T.ct (K:=K)) T.b_isinstance Z0 (qa_c (qz 0) (qa_c (Y4 m_NoDeed) A2))) (qa_c (anD (K:=K) (qe_cB (q_isX T.cn T.ct (K:=K)) T.b_isinstance Z0 (qa_c (qz 0) (qa_c (qe_ty T.b_ValueError afb) A2)))) A2)))))))))),?_⟩
  obtain ⟨x,i,fs,rfl,hk,q⟩:=h;obtain ⟨Ce,dx,hC,hx,hd⟩:=hk.ex;have fact:(∃ fN,ErrC K Ce fN)/\(C5 K (.ref Ce) (.ref a_Clash)=some (i==0))/\(C5 K (.ref Ce) (.ref a_NoLetter)=some (i==1))/\(C5 K (.ref Ce) (.ref a_Round)=some (i==2))/\(C5 K (.ref Ce) (.ref a_NoSign)=some false)/\(C5 K (.ref Ce) (.ref a_NoRule)=some false)/\(C5 K (.ref Ce) (.ref a_Twice)=some false)/\(C5 K (.ref Ce) (.ref a_NoText)=some false)/\(C5 K (.ref Ce) (.ref a_NotPlain)=some false)/\(C5 K (.ref Ce) (.ref a_NoName)=some false)/\(C5 K (.ref Ce) (.ref a_Ring)=some false)/\(C5 K (.ref Ce) (.ref a_NoDeed)=some false)/\C5 K (.ref Ce) (.type "ValueError")=some true:=by
   rcases hC with ⟨rfl,rfl⟩ | ⟨rfl,rfl⟩ | ⟨rfl,rfl⟩
   .exact ⟨T.er_Clash,M_Clash.1,M_NoLetter.1,M_Round.1,M_NoSign.1,M_NoRule.1,M_Twice.1,M_NoText.1,M_NotPlain.1,M_NoName.1,M_Ring.1,M_NoDeed.1,T.y_ValueError⟩
   .exact ⟨T.er_NoLetter,M_Clash.2.1,M_NoLetter.2.1,M_Round.2.1,M_NoSign.2.1,M_NoRule.2.1,M_Twice.2.1,M_NoText.2.1,M_NotPlain.2.1,M_NoName.2.1,M_Ring.2.1,M_NoDeed.2.1,T.y_ValueError_NoLetter⟩
   .exact ⟨T.er_Round,M_Clash.2.2,M_NoLetter.2.2,M_Round.2.2,M_NoSign.2.2,M_NoRule.2.2,M_Twice.2.2,M_NoText.2.2,M_NotPlain.2.2,M_NoName.2.2,M_Ring.2.2,M_NoDeed.2.2,T.y_ValueError_Round⟩
  clear hC;obtain ⟨⟨fN,MN⟩,k1,k2,k3,k4,k5,k6,k7,k8,k9,k10,k11,k12⟩:=fact;have no:∀ {a:Addr} {b:Bool} {H1:Hp} {Q':V->Hp->Prop},Same H H1->C5 K (.ref Ce) 'f'=some b->Q' (V.bl b) H1->rIsX K [V.ref x,V.ref a] H1 Q':=fun S h1 h2=>⟨x,Ce,dx,fN,_,.ref _,.ref _,_,rfl,S _ _ hx,S _ _ hd,MN,rfl,h1,h2⟩
  walk_at "rd";refine no (Same.refl _) k1 (no (Same.refl _) k2 (no (Same.refl _) k3 (no (Same.refl _) k4 ⟨by decide,fun p np=>?_⟩)));have S1:Same H (A0 H p (.lst [V.bl (i==0),V.bl (i==1),V.bl (i==2),V.bl false])):=Same.new np;refine no S1 k5 (no S1 k6 (no S1 k7 (no S1 k8 ⟨by decide,fun p1 N8=>?_⟩)));refine rAddR.l (C2 A1 N8) A1 (by show 4+4<=sizeLine;decide) fun p2 Q4=>?_
  have S2:=(S1.trans (Same.new N8)).trans (Same.new (u:=HO.lst ([V.bl (i==0),V.bl (i==1),V.bl (i==2),V.bl false]++[V.bl false,V.bl false,V.bl false,V.bl false])) Q4);refine no S2 k9 (no S2 k10 (no S2 k11 ⟨x,Ce,dx,fN,_,_,_,true,rfl,S2 _ _ hx,S2 _ _ hd,MN,rfl,k12,true,rfl,by decide,fun p3 o7=>?_⟩));walk_at "rd";refine rAddR.l (C2 A1 o7) A1 (by show 8+4<=sizeLine;decide) fun p4 np4=>?_
  have S3:=S2.trans (Same.new (u:=HO.lst [V.bl false,V.bl false,V.bl false,V.bl (!true)]) o7);exact q p4 _ (S3.free np4) (S3.trans (Same.new np4)) A1
theorem sc_l_asked:FnScope ["_law_rules_here", "_law_kept", "_law_order", "_law_e"] zAo (C8 lF):=L4
theorem vad:LS lF "_law_order":=lq
theorem ag2:(C8 lF).names.lookup ("_law_e" : Str)=some .local:=by decide +kernel
theorem ait(F:FunD K "_law_asked" "_law_asked" lF f fd)(T:Txt P w K mg C C_Clash C_NoLetter C_Round)(G_Order___init__:uL P w K mg base 6 C "Order" zA9 (vP C C_Clash C_NoLetter C_Round))(G_l_kinds:FO P w K mg base 1 "_law_kinds" ["_law_e"] [] (agb C_Clash C_NoLetter C_Round)):FnOk P w K mg base G9 8 f fd zAo (akh C C_Clash C_NoLetter C_Round):=by
 refine F.ok sc_l_asked ?_ ?_
 .rintro _ _ _ _ ⟨r,ts,R,rfl,_⟩;rfl
 .intro cdv A outer s H vs Q E hr h;have C9:=hu_of hr;have hu:=hr.units;obtain ⟨d_LoreError,md_LoreError,CC_LoreError,mr_LoreError⟩:=T.c_LoreError;have hZ:=K9 sc_l_asked;refine ⟨_,QSs.out (C1 (E1 1 sJ)
   (C1 (E1 2 sJ)
   (C1 (aoi (alZ (qh_as md_LoreError CC_LoreError sc_l_asked.nd (i:=3) rfl ag2 (fun _ _=>(B5 (E1 1 (qz 3)))) aq7 (K:=K)) (aog G_Order___init__ (hm hr) (fun _=>(qa_c (qz 0) A2))) sc_l_asked.nd (j:=2) rfl vad))
   (C1 (qs_if (E6 q_isN (qz 1) sJ) (B5 (E4 (R9 (qa_c (M6 A2) (qa_c (qz 2) A2))))) K1)
   (B5 (E4 (R9 (qa_c (E3 G_l_kinds (hm hr) (qa_c (qz 1) A2)) (qa_c (qz 1) A2))))))))),?_⟩
  obtain ⟨r,ts,R,rfl,hR,rw',q⟩:=h;obtain ⟨ml1,ml2,ml3⟩:=mr_LoreError;walk_at "rd";intro x dx nx ndx ndxx;have S1:Same H (A0 (A0 H dx (.own x)) x (.ins C dx [])):=(Same.new ndx).trans (Same.new (by rw [A4 ndxx.symm];exact nx));have aI:A0 (A0 H dx (.own x)) x (.ins C dx []) x=some (.ins C dx []):=A1;generalize A0 (A0 H dx (.own x)) x (.ins C dx [])=H1 at S1 aI;have e8:∀ {H2:Hp},SameBut x H1 H2->Same H H2:=fun B b o hb=>B b o (fun e=>by rw [e,nx] at hb;cases hb) (S1 b o hb)
  refine ⟨x,dx,r,ts,R,rfl,aI,hR.same S1,rw',fun hc hm j ll ml md L M H2 _ _ _ _ B2 hO=>⟨rfl,iteT fun p np=>⟨by decide,fun t nt=>q t p x 3 _ ((e8 B2).trans ((Same.new np).trans (Same.new nt))) A1 (C2 A1 nt) (.ok hc hm (hO.same ((Same.new np).trans (Same.new nt))))⟩⟩,fun p hp dx' H2 B2 hd=>⟨C_Clash,dx',rfl,rfl,true,ml1,?_⟩,fun p hc hp dx' H2 B2 hd=>⟨C_NoLetter,dx',rfl,rfl,true,ml2,?_⟩,fun hc hm w hw dx' l g H2 B2 hd hl hL=>⟨C_Round,dx',rfl,rfl,true,ml3,?_⟩⟩
  .rw [if_pos rfl];intro y ny;walk_at "rd";rw [if_neg 'g'];refine ⟨y,0,_,rfl,⟨C_Clash,dx',.inl ⟨rfl,rfl⟩,A1,C2 hd ny⟩,fun l H3 nl S3 hl=>⟨by decide,fun t nt=>?_⟩⟩;exact q t l y 0 _ ((e8 B2).trans ((Same.new ny).trans (S3.trans (Same.new nt)))) A1 (C2 hl nt) (.cl hp ⟨C_Clash,dx',.inl ⟨rfl,rfl⟩,C2 (S3 _ _ A1) nt,C2 (S3 _ _ (C2 hd ny)) nt⟩)
  .rw [if_pos rfl];intro y ny;walk_at "rd";rw [if_neg 'g'];refine ⟨y,1,_,rfl,⟨C_NoLetter,dx',.inr (.inl ⟨rfl,rfl⟩),A1,C2 hd ny⟩,fun l H3 nl S3 hl=>⟨by decide,fun t nt=>?_⟩⟩;exact q t l y 1 _ ((e8 B2).trans ((Same.new ny).trans (S3.trans (Same.new nt)))) A1 (C2 hl nt) (.nl hc hp ⟨C_NoLetter,dx',.inr (.inl ⟨rfl,rfl⟩),C2 (S3 _ _ A1) nt,C2 (S3 _ _ (C2 hd ny)) nt⟩)
  .rw [if_pos rfl];intro y ny;walk_at "rd";rw [if_neg 'g'];refine ⟨y,2,_,rfl,⟨C_Round,dx',.inr (.inr ⟨rfl,rfl⟩),A1,C2 hd ny⟩,fun l3 H3 nl S3 x4=>⟨by decide,fun t nt=>?_⟩⟩;exact q t l3 y 2 _ ((e8 B2).trans ((Same.new ny).trans (S3.trans (Same.new nt)))) A1 (C2 x4 nt) (.rd hc hm hw ⟨C_Round,dx',.inr (.inr ⟨rfl,rfl⟩),C2 (S3 _ _ A1) nt,C2 (S3 _ _ (C2 hd ny)) nt⟩ (C2 (S3 _ _ (C2 hl ny)) nt) hL)
theorem aeM:FnScope zAp zA5 (C8 lG):=L4
theorem aiu(F:FunD K "_law_rules" "_law_rules" lG f fd)(T:Txt P w K mg C C_Clash C_NoLetter C_Round)(G_l_cell_at:FO P w K mg base 1 "_law_cell_at" zA2 [] (oU K))(G_l_sign:FO P w K mg base 2 "_law_sign" zA2 [] (pR K))(G_l_turn:FO P w K mg base 1 "_law_turn" zAk [] ahM):FnOk P w K mg base G9 3 f fd zA5 (agc K):=by
 refine F.ok aeM ?_ ?_
 .rintro _ _ _ _ ⟨a,ns,rfl,_⟩;rfl
 .intro cdv A outer s H vs Q E hr h;have C9:=hu_of hr;have hu:=hr.units;have hZ:=K9 aeM;refine ⟨_,QSs.out (C1 (E1 1 (M6 A2))
   (eS (N4 PassesOwn.never (oR T.b_enumerate (qa_c (W6 (K:=K) (qz 0) (Q9 A8) (Q9 A8)) A2)) (eP (K:=K) (n:=2) (Z2 ((K0 2)) (Z2 ((K0 3)) eO))) (eS (qs_if (E6 q_lt (qe_op q_mod (qz 3) A8) A8) (B5 (R0 (qe_mB (K:=K) U1 j6 j5 m9 (qz 1) (qa_c (qe_op (q_add (K:=K)) (R9 (qa_c M3 A2)) (qe_cT (sQ (K:=K)) T.b_tuple sE (qa_c (u0  (Z5:CompOk zAp (C8 lG).names _ zAf 1 [0]) (O4 (K:=K) (E3 G_l_turn (hm hr) (qa_c (qe_op q_mod (qe_op bD (qz 3) A8) (qe_op q_pow A8 A8)) (qa_c A8 A2)))) (fun _ _ _ _ _=>W7 (n:=0) (show List.Nodup (zAf:List Str) by decide +kernel) rfl (Or.inl rfl)) (fun _ _ _ _ _=>eQ) (fun _ _ _ _ _=>(E3 G_l_sign (hm hr) (qa_c (qv 1) (qa_c (qv 0) A2))))) A2))) A2)))) K1)
   (eS (qs_if (E6 (q_eq (K:=K) hu) (qe_op q_mod (qz 3) A8) A8) (B5 (R0 (qe_mB (K:=K) U1 j6 j5 m9 (qz 1) (qa_c (qe_op (q_add (K:=K)) (R9 (qa_c M3 A2)) (qe_cT (sQ (K:=K)) T.b_tuple sE (qa_c (u0  (Z5:CompOk zAp (C8 lG).names _ zAf 1 [0]) (O4 (K:=K) (E3 G_l_turn (hm hr) (qa_c (qe_op q_mod (qe_op bD (qz 3) A8) (qe_op q_pow A8 A8)) (qa_c A8 A2)))) (fun _ _ _ _ _=>W7 (n:=0) (show List.Nodup (zAf:List Str) by decide +kernel) rfl (Or.inl rfl)) (fun _ _ _ _ _=>eQ) (fun _ _ _ _ _=>(E3 G_l_sign (hm hr) (qa_c (qv 1) (qa_c (qe_op (q_add (K:=K)) A8 (qv 0)) A2))))) A2))) A2)))) K1)
   (B5 (qs_if (E6 (q_eq (K:=K) hu) (qe_op q_mod (qz 3) A8) A8) (B5 (R0 (qe_mB (K:=K) U1 j6 j5 m9 (qz 1) (qa_c (R9 (qa_c M3 (qa_c (E3 G_l_sign (hm hr) (qa_c (qz 0) (qa_c A8 A2))) (qa_c (E3 G_l_sign (hm hr) (qa_c (qz 0) (qa_c (qe_op (q_add (K:=K)) A8 (qz 2)) A2))) A2)))) A2)))) K1)))))
   (C1 (R0 (qe_mB (K:=K) U1 j6 j5 m9 (qz 1) (qa_c (R9 (qa_c M3 (qa_c (E3 G_l_sign (hm hr) (qa_c (qz 0) (qa_c A8 A2))) A2))) A2)))
   (C1 (E1 3 (E3 G_l_cell_at (hm hr) (qa_c (qz 0) (qa_c A8 A2))))
   (C1 (E1 4 (qe_op q_mod (qe_op bD (qz 3) A8) (qe_op (q_add (K:=K)) (qe_cB (q_len (K:=K)) T.b_len Y9 (qa_c (qz 1) A2)) A8)))
   (eS (qs_if (E6 (q_eq (K:=K) hu) (qe_op q_mod (qz 3) A8) A8) (B5 (E1 1 (qe_op (q_add (K:=K)) (qe_op (q_add (K:=K)) (W6 (K:=K) (qz 1) l8 (Q9 (qz 4))) (M6 (qa_c (R9 (qa_c M3 (qa_c (E3 G_l_sign (hm hr) (qa_c (qz 0) (qa_c A8 A2))) (qa_c (E3 G_l_sign (hm hr) (qa_c (qz 0) (qa_c A8 A2))) A2)))) A2))) (W6 (K:=K) (qz 1) (Q9 (qz 4)) l8)))) K1)
   (C1 (qs_if (E6 (q_eq (K:=K) hu) (qe_op q_mod (qe_op bD (qz 3) A8) A8) A8) (B5 (E1 1 (qe_op (q_add (K:=K)) (qe_op (q_add (K:=K)) (W6 (K:=K) (qz 1) l8 (Q9 (qz 4))) (M6 (qa_c (R9 (qa_c M3 (qa_c (E3 G_l_sign (hm hr) (qa_c (qz 0) (qa_c A8 A2))) A2))) A2))) (W6 (K:=K) (qz 1) (Q9 (qz 4)) l8)))) K1)
   (B5 (E4 (qz 1)))))))))),?_⟩
  obtain ⟨a,ns,rfl,hS,q⟩:=h;have sg:∀ (e:Nat) (z:Int) (H1:Hp) {Z:VK},z=(e:Int)->Same H H1->(∀ H2,Same H1 H2->Z (.str (C6 ns e)) H2)->pR K [V.ref a,V.int z] H1 Z E0:=fun e z H1 Z hz S h=>by subst hz;exact ⟨a,ns,_,rfl,S.seq hS,by lia,h⟩
  walk_at "rd";intro p np;refine midS (fun Y H2=>∃ (u v:Option V) (ts:List Addr) (B:List Rl),Y=[some 'f',some (.ref p),u,v,none]/\RulesAt H H2 p ts B/\Bs ns B) ?_ ?_
  .intro M' hM';walk_at "rd";refine rSlR.l ((Same.new np).seq hS) fun c nc=>?_
   rw [show cutV (ns.map V.int) (some 3) (some 43)=((ns.drop 3).take 40).map V.int by rw [show cutV (ns.map V.int) (some 3) (some 43)=_ from tQ _ (i:=3) (j:=43) 'g',<- List.map_drop,<- List.map_take]];have N7:((ns.drop 3).take 40).length<=40:=by rw [K6];lia
   generalize (ns.drop 3).take 40=cs at N7;have S1:Same H (A0 (A0 H p (.lst [])) c (.lst (cs.map V.int))):=(Same.new np).trans (Same.new nc);have yE:A0 (A0 H p (.lst [])) c (.lst (cs.map V.int)) c=some (.lst (cs.map V.int)):=A1;have U6:A0 (A0 H p (.lst [])) c (.lst (cs.map V.int)) p=some (.lst []):=C2 A1 nc;have ncp:c≠p:=fun e=>by rw [e,A1] at nc;cases nc
   generalize A0 (A0 H p (.lst [])) c (.lst (cs.map V.int))=H1 at S1 yE U6;have RA0:RulesAt H H1 p [] []:=⟨⟨U6,.nil⟩,by simp,fun b hb=>by rw [D3.mp hb];exact np,S1⟩
   refine ⟨c,rfl,⟨_,yE⟩,forEs (xs:=cs.map V.int) (fun i Y H2=>∃ (u v:Option V) (ts:List Addr) (B:List Rl),Y=[some 'f',some (.ref p),u,v,none]/\RulesAt H H2 p ts B/\H2 c=some (.lst (cs.map V.int))/\B.length=i/\Bs ns B) ⟨none,none,[],[],rfl,RA0,yE,rfl,Bs.nil ns⟩ (by rintro i Y H2 ⟨_,_,_,_,_,_,h,_⟩;exact h) ?_ ?_⟩
   .rintro P' Bk hP i x t Y H2 hx ⟨u,v,ts,B,rfl,RA,bK,hBl,hB⟩ nt;obtain ⟨cv,mK,rfl⟩:=J1 hx;have hi:i<cs.length:=(F8.mp mK).1;have S3:Same H2 (A0 H2 t (.tup [V.int i,V.int cv])):=Same.new nt;have yF:A0 H2 t (.tup [V.int i,V.int cv]) t=some (.tup [V.int i,V.int cv]):=A1;generalize A0 H2 t (.tup [V.int i,V.int cv])=H3 at S3 yF;have RA3:RulesAt H H3 p ts B:=⟨RA.rows.same S3,RA.nd,RA.new,RA.same.trans S3⟩
    have yG:=S3 _ _ bK;clear RA bK S3;walk_at "rd";refine ⟨_,.of yF,rfl,_,_,rfl,_,_,rfl,rfl,?_⟩;refine midS (fun Y H4=>∃ (ts:List Addr) (B:List Rl),Y=[some 'f',some (.ref p),some (.int (i:Int)),some (.int cv),none]/\RulesAt H H4 p ts B/\H4 c=some (.lst (cs.map V.int))/\B.length=(if cv % 4<2 then i+1 else i)/\Bs ns B) ?_ ?_
    .intro M2 hM2;walk_at "rd";refine iteD (fun C7=>⟨R8 RA3.rows.top,by decide,fun p1 N8=>⟨10,9,rfl,rfl,⟨by decide,by decide,by decide⟩,_,rfl,by decide,_,7,rfl,by decide,by decide,fun l3 is G4 qR S4 x4 h0 hl hi=>⟨l3,rfl,⟨_,.of x4⟩,?_⟩⟩⟩) fun C7=>hM2 _ _ ⟨ts,B,rfl,RA3,yG,by rw [if_neg C7];exact hBl,hB⟩
     have nA:Same H3 G4:=(Same.new N8).trans S4;have gB:G4 p1=some (.tup [V.str (Str.ofString "row")]):=S4 _ _ A1;refine compL (xs:=is.map fun i:Nat=>V.int (i:Int)) [some 'f'] rfl (fun D k ys H5=>ys=(((is.take k).map (X3 0)).map (C6 ns)).map V.str/\Same G4 H5) (fun D nD=>⟨rfl,Same.new nD⟩) (by rintro D k ys H5 nD _ ⟨_,S⟩;exact .of (S _ _ x4)) ?_ ?_
     .rintro D k x0 ys H5 nD hk bX ⟨rfl,S5⟩ hD hy;obtain ⟨j,hj,rfl⟩:=J1 bX;have hk3:k<3:=by rw [A3] at hk;lia
      walk_at "rd";refine sg (X3 0 j) _ _ (by unfold X3;lia) (RA3.same.trans (nA.trans S5)) fun H6 S6=>⟨S6 _ _ hD,?_,CW.put hk hy ⟨?_,(S5.trans S6).put nD⟩⟩
      .rw [A3,A3,A3,K6];exact K8 'b'
      .rw [J9 hj,E2,E2,E2];rfl
     rintro D ys H5 nD ⟨rfl,S5⟩ hD hy;rw [A3,J7] at hD
     try walk_at "rd"
     refine rTupR.l (.of hD) fun t6 nB=>?_
     walk_at "rd";have G7:((is.map (X3 0)).map (C6 ns)).map V.str≠[]:=fun e=>h0 (aP.mp (aP.mp (aP.mp e)))
     refine rAddR.t (.of (C2 (S5 _ _ gB) nB)) (.of A1) 'c' (by simp only [A3,G8,T8];exact z0 'b') (fun e=>absurd e G7) fun _ t7 cE=>?_
     have S7:=(nA.trans S5).trans (Same.new (u:=HO.tup (((is.map (X3 0)).map (C6 ns)).map V.str)) nB);have RB:=RA3.grow (S7.trans (Same.new cE)) (S7.free cE) (z:=((Str.ofString "row" : Str),(is.map (X3 0)).map (C6 ns))) A1;refine appOk (C2 (S7 _ _ RA3.rows.top) cE) (by rw [A3,RA3.rows.len];exact K8 (by have:=hB.len;lia)) (hM2 _ _ ⟨ts++[t7],B++[((Str.ofString "row" : Str),(is.map (X3 0)).map (C6 ns))],rfl,RB,?_,?_,?_⟩)
     .rw [A4 ncp];exact C2 (S7 _ _ yG) cE
     .rw [D4];rw [if_pos C7,hBl];rfl
     .refine hB.snoc (RM.row _ (fun e=>h0 (aP.mp e)) (by rw [A3];exact hl) fun i' bO=>?_) 'b';obtain ⟨j,hj,rfl⟩:=D0.mp bO
      have:=hi j hj
      unfold X3;lia
    rintro Y H4 ⟨ts,B,rfl,RA4,R5,hB4,hBs4⟩;clear RA3 yG hB hBl yF;refine midS (fun Y H5=>∃ (ts:List Addr) (B:List Rl),Y=[some 'f',some (.ref p),some (.int (i:Int)),some (.int cv),none]/\RulesAt H H5 p ts B/\H5 c=some (.lst (cs.map V.int))/\B.length=(if cv % 4<3 then i+1 else i)/\Bs ns B) ?_ ?_
    .intro M2 hM2;walk_at "rd";refine iteD (fun C7=>⟨R8 RA4.rows.top,by decide,fun p1 N8=>⟨10,9,rfl,rfl,⟨by decide,by decide,by decide⟩,_,rfl,by decide,_,3,rfl,by decide,by decide,fun l3 is G4 qR S4 x4 h0 hl hi=>⟨l3,rfl,⟨_,.of x4⟩,?_⟩⟩⟩) fun C7=>hM2 _ _ ⟨ts,B,rfl,RA4,R5,by rw [hB4];split <;> split <;> lia,hBs4⟩
     have nA:Same H4 G4:=(Same.new N8).trans S4;have gB:G4 p1=some (.tup [V.str (Str.ofString "marks")]):=S4 _ _ A1;refine compL (xs:=is.map fun i:Nat=>V.int (i:Int)) [some 'f'] rfl (fun D k ys H5=>ys=(((is.take k).map (X3 7)).map (C6 ns)).map V.str/\Same G4 H5) (fun D nD=>⟨rfl,Same.new nD⟩) (by rintro D k ys H5 nD _ ⟨_,S⟩;exact .of (S _ _ x4)) ?_ ?_
     .rintro D k x0 ys H5 nD hk bX ⟨rfl,S5⟩ hD hy;obtain ⟨j,hj,rfl⟩:=J1 bX;have hk3:k<3:=by rw [A3] at hk;lia
      walk_at "rd";refine sg (X3 7 j) _ _ (by unfold X3;lia) (RA4.same.trans (nA.trans S5)) fun H6 S6=>⟨S6 _ _ hD,?_,CW.put hk hy ⟨?_,(S5.trans S6).put nD⟩⟩
      .rw [A3,A3,A3,K6];exact K8 'b'
      .rw [J9 hj,E2,E2,E2];rfl
     rintro D ys H5 nD ⟨rfl,S5⟩ hD hy;rw [A3,J7] at hD
     try walk_at "rd"
     refine rTupR.l (.of hD) fun t6 nB=>?_
     walk_at "rd";have G7:((is.map (X3 7)).map (C6 ns)).map V.str≠[]:=fun e=>h0 (aP.mp (aP.mp (aP.mp e)))
     refine rAddR.t (.of (C2 (S5 _ _ gB) nB)) (.of A1) 'c' (by simp only [A3,G8,T8];exact z0 'b') (fun e=>absurd e G7) fun _ t7 cE=>?_
     have S7:=(nA.trans S5).trans (Same.new (u:=HO.tup (((is.map (X3 7)).map (C6 ns)).map V.str)) nB);have RB:=RA4.grow (S7.trans (Same.new cE)) (S7.free cE) (z:=((Str.ofString "marks" : Str),(is.map (X3 7)).map (C6 ns))) A1;refine appOk (C2 (S7 _ _ RA4.rows.top) cE) (by rw [A3,RA4.rows.len];exact K8 (by have:=hBs4.len;lia)) (hM2 _ _ ⟨ts++[t7],B++[((Str.ofString "marks" : Str),(is.map (X3 7)).map (C6 ns))],rfl,RB,?_,?_,?_⟩)
     .rw [A4 ncp];exact C2 (S7 _ _ R5) cE
     .rw [D4];rw [hB4,if_neg 'b',if_pos 'b'];rfl
     .refine hBs4.snoc (RM.marks _ (fun e=>h0 (aP.mp e)) (by rw [A3];exact hl) fun i' bO=>?_) (by rw [hB4,if_neg 'b'];lia);obtain ⟨j,hj,rfl⟩:=D0.mp bO
      have:=hi j hj
      unfold X3;lia
    rintro Y H5 ⟨ts,B,rfl,RA5,W2,hB5,hBs5⟩;walk_at "rd";refine iteD (fun C7=>⟨R8 RA5.rows.top,sg 0 _ _ rfl RA5.same fun H6 S6=>sg (20+i) _ _ 'b' (RA5.same.trans S6) fun H7 S7=>⟨by decide,fun t8 qT=>?_⟩⟩) fun C7=>hP _ _ _ ⟨_,_,ts,B,rfl,RA5,W2,by rw [hB5,if_pos 'b'],hBs5⟩
    have hBl:B.length=i:=by rw [hB5,if_neg 'b']
    have qU:=S6.trans S7;have RB:=RA5.grow (qU.trans (Same.new qT)) (qU.free qT) (z:=(("great" : Str),[C6 ns 0,C6 ns (20+i)])) A1;refine appOk (C2 (qU _ _ RA5.rows.top) qT) (by rw [A3,RA5.rows.len];exact K8 'b') (hP _ _ _ ⟨_,_,ts++[t8],_,rfl,RB,?_,by rw [D4,hBl];rfl,hBs5.snoc (by rw [hBl];exact RM.great) 'b'⟩);rw [A4 ncp];exact C2 (qU _ _ W2) qT
   rintro Y H2 ⟨u,v,ts,B,rfl,RA,bK,hBl,hB⟩;exact hM' _ _ ⟨u,v,ts,B,rfl,RA,hB⟩
  rintro Y H2 ⟨u,v,ts,B,rfl,RA,hB⟩;walk_at "rd";refine ⟨R8 RA.rows.top,sg 0 _ _ rfl RA.same fun H3 S3=>⟨by decide,fun t4 yH=>?_⟩⟩;have RB:RulesAt H (A0 (A0 H3 t4 (HO.tup [V.str (Str.ofString "row"),V.str (C6 ns 0)])) p (HO.lst (ts.map V.ref++[V.ref t4]))) p (ts++[t4]) (B++[row0 ns]):=RA.grow (S3.trans (Same.new yH)) (S3.free yH) (z:=row0 ns) A1;have hBl:=hB.len;refine appOk (C2 (S3 _ _ RA.rows.top) yH) (by rw [A3,RA.rows.len];exact K8 'b') ?_;generalize A0 (A0 H3 t4 (HO.tup [V.str (Str.ofString "row"),V.str (C6 ns 0)])) p (HO.lst (ts.map V.ref++[V.ref t4]))=H5 at RB ⊢
  have hR5:=RB.rows;have S5:=RB.same;generalize ts++[t4]=ts5 at hR5;have hRl:(B++[row0 ns]).length<=41:=by rw [D4];simp;lia
  have yI:(B++[row0 ns]).Perm (B++[row0 ns]):=.rfl;clear RA RB;refine ⟨a,ns,2,rfl,S5.seq hS,by decide,_,rfl,(B++[row0 ns]).length,.inl ⟨_,.of hR5.top,by rw [A3,hR5.len]⟩,by lia,?_⟩;obtain ⟨k,hk,aG⟩:∃ k:Nat,cellF ns 2 / 8 % (((B++[row0 ns]).length:Nat)+1:Int)=(k:Int)/\k<=41:=by
   have h1:=Int.emod_nonneg (cellF ns 2 / 8) (show (((B++[row0 ns]).length:Nat)+1:Int)≠0 by lia);have h2:=Int.emod_lt_of_pos (cellF ns 2 / 8) (show (0:Int)<(((B++[row0 ns]).length:Nat)+1:Int) by lia);exact ⟨(cellF ns 2 / 8 % (((B++[row0 ns]).length:Nat)+1:Int)).toNat,by lia,by lia⟩
  rw [hk];generalize qV:cellF ns 2=ce at hk ⊢
  refine midS (fun Y H6=>∃ (lr:Addr) (ts:List Addr) (R:List Rl),Y=[some 'f',some (.ref lr),u,some (.int ce),some (.int (k:Int))]/\Same H H6/\IsRules H6 lr ts R/\R.length<=42/\R.Perm ((B++[row0 ns])++if decide (ce % 4=1)=true then [Z6 ns] else [])) ?_ ?_
  .intro M' hM';walk_at "rd";refine iteD (fun h4=>?_) fun h4=>hM' _ _ ⟨p,ts5,_,rfl,S5,hR5,by lia,by rw [if_neg (by simpa using h4),K7]⟩
   refine rSlR.l (.of hR5.top) fun q1 n1=>?_
   rw [sR];have T1:Same H5 (A0 H5 q1 (.lst ((ts5.map V.ref).take k))):=Same.new n1;have g1:A0 H5 q1 (.lst ((ts5.map V.ref).take k)) q1=some (.lst ((ts5.map V.ref).take k)):=A1;generalize A0 H5 q1 (.lst ((ts5.map V.ref).take k))=G1 at T1 g1;refine sg 12 _ _ rfl (S5.trans T1) fun G2 U2=>sg 13 _ _ rfl (S5.trans (T1.trans U2)) fun G3 U3=>⟨by decide,fun t9 n9=>⟨by decide,fun l10 n10=>?_⟩⟩
   have T9:Same G1 (A0 G3 t9 (HO.tup [V.str (Str.ofString "as"),V.str (C6 ns 12),V.str (C6 ns 13)])):=(U2.trans U3).trans (Same.new n9);have T10:Same G1 (A0 (A0 G3 t9 (HO.tup [V.str (Str.ofString "as"),V.str (C6 ns 12),V.str (C6 ns 13)])) l10 (HO.lst [V.ref t9])):=T9.trans (Same.new n10);have g9:A0 (A0 G3 t9 (HO.tup [V.str (Str.ofString "as"),V.str (C6 ns 12),V.str (C6 ns 13)])) l10 (HO.lst [V.ref t9]) t9=some (tupR (Z6 ns)):=C2 A1 n10;have g10:A0 (A0 G3 t9 (HO.tup [V.str (Str.ofString "as"),V.str (C6 ns 12),V.str (C6 ns 13)])) l10 (HO.lst [V.ref t9]) l10=some (.lst [V.ref t9]):=A1;generalize A0 (A0 G3 t9 (HO.tup [V.str (Str.ofString "as"),V.str (C6 ns 12),V.str (C6 ns 13)])) l10 (HO.lst [V.ref t9])=G4 at T10 g9 g10;walk_at "rd";have bN:(ts5.map V.ref).length<=50:=by rw [A3,hR5.len];lia
   refine rAddR.l (T10 _ _ g1) g10 (by rw [K6];simp only [G8,T8];exact z0 'b') fun q11 n11=>?_
   have T11:Same G4 (A0 G4 q11 (.lst ((ts5.map V.ref).take k++[V.ref t9]))):=Same.new n11;have g11:A0 G4 q11 (.lst ((ts5.map V.ref).take k++[V.ref t9])) q11=some (.lst ((ts5.map V.ref).take k++[V.ref t9])):=A1;generalize A0 G4 q11 (.lst ((ts5.map V.ref).take k++[V.ref t9]))=G5 at T11 g11;have hR5':=((hR5.same T1).same T10).same T11;refine rSlR.l (.of hR5'.top) fun q12 n12=>?_
   rw [cY]
   try walk_at "rd"
   refine rAddR.l (C2 g11 n12) A1 (by rw [D4,K6,f7];simp only [G8,T8];exact z0 'b') fun q13 n13=>?_
   have T13:=(Same.new (u:=HO.lst ((ts5.map V.ref).drop k)) n12).trans (Same.new (u:=HO.lst (((ts5.map V.ref).take k++[V.ref t9])++(ts5.map V.ref).drop k)) n13);have hI:=agd k (hR5'.same T13) (T13 _ _ (T11 _ _ g9)) A1;have TA:=S5.trans (T1.trans (T10.trans (T11.trans T13)));have qW:=ahR (B++[row0 ns]) k (Z6 ns);exact hM' _ _ ⟨q13,_,_,rfl,TA,hI,by rw [qW.length_eq,D4];simp only [G8,T8];lia,by rw [if_pos (by simpa using h4)];exact qW⟩
  rintro Y H6 ⟨lr,i9,R,rfl,S6,hR6,hRl6,v9⟩;walk_at "rd";refine iteD (fun h4=>?_) fun h4=>q lr i9 R H6 S6 hR6 ?_
  .refine rSlR.l (.of hR6.top) fun q1 n1=>?_
   rw [sR];have T1:Same H6 (A0 H6 q1 (.lst ((i9.map V.ref).take k))):=Same.new n1;have g1:A0 H6 q1 (.lst ((i9.map V.ref).take k)) q1=some (.lst ((i9.map V.ref).take k)):=A1;generalize A0 H6 q1 (.lst ((i9.map V.ref).take k))=G1 at T1 g1;refine sg 0 _ _ rfl (S6.trans T1) fun G3 U3=>⟨by decide,fun t9 n9=>⟨by decide,fun l10 n10=>?_⟩⟩
   have T9:Same G1 (A0 G3 t9 (HO.tup [V.str (Str.ofString "over"),V.str (C6 ns 0)])):=U3.trans (Same.new n9);have T10:Same G1 (A0 (A0 G3 t9 (HO.tup [V.str (Str.ofString "over"),V.str (C6 ns 0)])) l10 (HO.lst [V.ref t9])):=T9.trans (Same.new n10);have g9:A0 (A0 G3 t9 (HO.tup [V.str (Str.ofString "over"),V.str (C6 ns 0)])) l10 (HO.lst [V.ref t9]) t9=some (tupR (overR ns)):=C2 A1 n10;have g10:A0 (A0 G3 t9 (HO.tup [V.str (Str.ofString "over"),V.str (C6 ns 0)])) l10 (HO.lst [V.ref t9]) l10=some (.lst [V.ref t9]):=A1;generalize A0 (A0 G3 t9 (HO.tup [V.str (Str.ofString "over"),V.str (C6 ns 0)])) l10 (HO.lst [V.ref t9])=G4 at T10 g9 g10;walk_at "rd";have bN:(i9.map V.ref).length<=50:=by rw [A3,hR6.len];lia
   refine rAddR.l (T10 _ _ g1) g10 (by rw [K6];simp only [G8,T8];exact z0 'b') fun q11 n11=>?_
   have T11:Same G4 (A0 G4 q11 (.lst ((i9.map V.ref).take k++[V.ref t9]))):=Same.new n11;have g11:A0 G4 q11 (.lst ((i9.map V.ref).take k++[V.ref t9])) q11=some (.lst ((i9.map V.ref).take k++[V.ref t9])):=A1;generalize A0 G4 q11 (.lst ((i9.map V.ref).take k++[V.ref t9]))=G5 at T11 g11;have hR5':=((hR6.same T1).same T10).same T11;refine rSlR.l (.of hR5'.top) fun q12 n12=>?_
   rw [cY]
   try walk_at "rd"
   refine rAddR.l (C2 g11 n12) A1 (by rw [D4,K6,f7];simp only [G8,T8];exact z0 'b') fun q13 n13=>?_
   have T13:=(Same.new (u:=HO.lst ((i9.map V.ref).drop k)) n12).trans (Same.new (u:=HO.lst (((i9.map V.ref).take k++[V.ref t9])++(i9.map V.ref).drop k)) n13);have hI:=agd k (hR5'.same T13) (T13 _ _ (T11 _ _ g9)) A1;have TA:=S6.trans (T1.trans (T10.trans (T11.trans T13)));have qW:=ahR R k (overR ns);refine q q13 _ _ _ TA hI ?_;rw [qV];refine ⟨B,hB,qW.trans ?_⟩;rw [if_pos (show decide (ce / 4 % 4=1)=true by simpa using h4),<- X9];exact v9.append_right _
  rw [qV];refine ⟨B,hB,v9.trans ?_⟩;rw [if_neg (show ¬ (decide (ce / 4 % 4=1)=true) by simpa using h4),K7]
theorem amx:FnScope ["_law_script", "_law_rules_here", "_law_letters", "_law_marks", "_law_kinds_here", "_law_found"] zA5 (C8 s_law):=L4
theorem arh(F:FunD K "law" "law" s_law f fd)(T:Txt P w K mg C C_Clash C_NoLetter C_Round)(G_Order_letters:MO P w K mg base 1 C "letters" zA1 (tS C))(G_Order_marks:MO P w K mg base 1 C "marks" zA1 (tT C))(G_l_cell_at:FO P w K mg base 1 "_law_cell_at" zA2 [] (oU K))(G_l_sign:FO P w K mg base 2 "_law_sign" zA2 [] (pR K))(G_l_rows:FO P w K mg base 1 "_law_rows" zAa [] (ahN K))(G_l_goes_round:FO P w K mg base 1 "_law_goes_round" zAn [] (pV K))(G_l_round:FO P w K mg base 4 "_law_round" zA7 [] (af9 K))(G_l_lined:FO P w K mg base 1 "_law_lined" zA7 [] (aga K))(G_l_asked:FO P w K mg base 8 "_law_asked" zAo [] (akh C C_Clash C_NoLetter C_Round))(G_l_rules:FO P w K mg base 3 "_law_rules" zA5 [] (agc K)):FnOk P w K mg base G9 9 f fd zA5 (spLaw K):=by
 refine F.ok amx ?_ ?_
 .rintro _ _ _ _ ⟨a,ns,rfl,_⟩;rfl
 .intro cdv A outer s H vs Q E hr h;have C9:=hu_of hr;have hu:=hr.units;have hZ:=K9 amx;refine ⟨_,QSs.out (C1 (E1 1 (E3 G_l_rules (hm hr) (qa_c (qz 0) A2)))
   (C1 (E1 2 (E3 G_l_rows (hm hr) (qa_c (qz 1) (qa_c M3 A2))))
   (C1 (E1 3 (E3 G_l_rows (hm hr) (qa_c (qz 1) (qa_c M3 A2))))
   (C1 (aqD (E3 G_l_asked (hm hr) (qa_c (qe_cT (cX (K:=K) (calm:=true)) T.b_list y9 (qa_c (qz 1) A2)) A2)) (eP (K:=K) (n:=2) (Z2 ((K0 4)) (Z2 ((K0 5)) eO))))
   (C1 (qs_if (E6 (q_eq (K:=K) hu) (qe_op q_mod (qe_op bD (E3 G_l_cell_at (hm hr) (qa_c (qz 0) (qa_c A8 A2))) A8) A8) A8) (B5 (E4 (iF (cW (q_eq (K:=K) hu) (qz 4) (qe_op (q_add (K:=K)) (M6 (qa_c qe_bl A2)) (qe_op q_mul (M6 (qa_c qe_bl A2)) A8))) (iE (cW (q_eq (K:=K) hu) (pI (qz 5) (K:=K)) (E3 G_l_sign (hm hr) (qa_c (qz 0) (qa_c A8 A2)))))))) K1)
   (C1 (qs_if (E6 (q_eq (K:=K) hu) (qe_op q_mod (E3 G_l_cell_at (hm hr) (qa_c (qz 0) (qa_c A8 A2))) A8) A8) (B5 (E4 (iF (cW (q_eq (K:=K) hu) (qz 4) (qe_op (q_add (K:=K)) (M6 (qa_c qe_bl (qa_c qe_bl A2))) (qe_op q_mul (M6 (qa_c qe_bl A2)) A8))) (iE (cW (q_eq (K:=K) hu) (pI (qz 5) (K:=K)) (E3 G_l_sign (hm hr) (qa_c (qz 0) (qa_c A8 A2)))))))) K1)
   (C1 (qs_if (m8 (K:=K) (E3 G_l_goes_round (hm hr) (qa_c (qz 2) A2))) (B5 (E4 (iF (cW (q_eq (K:=K) hu) (qz 4) (qe_op (q_add (K:=K)) (M6 (qa_c qe_bl (qa_c qe_bl (qa_c qe_bl A2)))) (qe_op q_mul (M6 (qa_c qe_bl A2)) A8))) (iE (E3 G_l_round (hm hr) (qa_c (qz 2) (qa_c (pI (qz 5) (K:=K)) A2))))))) K1)
   (C1 (qs_if (m8 (K:=K) (E3 G_l_goes_round (hm hr) (qa_c (qz 3) A2))) (B5 (E4 (iF (cW (q_eq (K:=K) hu) (qz 4) (qe_op (q_add (K:=K)) (M6 (qa_c qe_bl (qa_c qe_bl (qa_c qe_bl A2)))) (qe_op q_mul (M6 (qa_c qe_bl A2)) A8))) (iE (E3 G_l_round (hm hr) (qa_c (qz 3) (qa_c (pI (qz 5) (K:=K)) A2))))))) K1)
   (C1 (qs_if (E6 (q_ne (K:=K) hu) (qz 4) (M6 A2)) (B5 (E4 qe_bl)) K1)
   (B5 (E4 (iF (E3 G_l_lined (hm hr) (qa_c (qz 2) (qa_c (ahl (qz 5) G_Order_letters (hm hr)) A2))) (iE (E3 G_l_lined (hm hr) (qa_c (qz 3) (qa_c (ahl (qz 5) G_Order_marks (hm hr)) A2)))))))))))))))),?_⟩
  obtain ⟨a,ns,rfl,hS,A6,q⟩:=h;obtain ⟨fC,MC⟩:=T.er_Clash;obtain ⟨fN,MN⟩:=T.er_NoLetter;obtain ⟨fR,MR⟩:=T.er_Round;walk_at "rd";refine ⟨a,ns,rfl,hS,fun l1 ts R H1 S1 hR hD=>⟨l1,ts,R,_,rfl,hR,hD.rl,hD.len,fun l2 yJ H2 S2 hW2=>⟨l1,ts,R,_,rfl,hR.same S2,hD.rl,hD.len,fun l3 yK H3 S3 hW3=>?_⟩⟩⟩;have hR3:=(hR.same S2).same S3;have hW23:=hW2.same S3
  try walk_at "rd"
  refine rListR.l (.inl (.of hR3.top)) fun r2 nr2=>?_
  have S4:Same H3 (A0 H3 r2 (.lst (ts.map V.ref))):=Same.new nr2;have hR4:IsRules (A0 H3 r2 (.lst (ts.map V.ref))) r2 ts R:=⟨A1,(hR3.same S4).row⟩
  generalize A0 H3 r2 (.lst (ts.map V.ref))=H4 at S4 hR4;refine ⟨r2,ts,R,rfl,hR4,hD.raw,fun t lk x i H5 S5 ht hk hA=>?_⟩;have SA:=(S1.trans S2).trans (S3.trans (S4.trans S5));have hL:=(hW23.same S4).same S5;have hM:=(hW3.same S4).same S5;clear S1 S2 S3 S4 S5 hW2 hW3 hW23 hR hR3 hR4;walk_at "rd";refine ⟨_,.of ht,rfl,_,_,rfl,_,_,rfl,rfl,a,ns,2,rfl,SA.seq hS,by decide,_,rfl,?_⟩;generalize qV:cellF ns 2=ce at hD
  by_cases ho:ce / 4 % 4=1
  .rw [if_pos (decide_eq_true ho)];rw [decide_eq_true ho] at hD;have N7:=hD.cl;rw [if_pos rfl] at N7;cases hA with
   | ok h1=>rw [N7] at h1;cases h1
   | nl h1=>rw [N7] at h1;cases h1
   | rd h1=>rw [N7] at h1;cases h1
   | cl h1 hK=>
    rw [N7] at h1;cases h1;obtain ⟨Ce,d,hC,hx,hd⟩:=hK.ex;have hCe:Ce=C_Clash:=by rcases hC with ⟨_,h⟩ | ⟨h,_⟩ | ⟨h,_⟩;exact h;cases h;cases h
    rw [hCe] at hx;refine ⟨by decide,fun p np=>⟨by decide,fun p1 N8=>⟨p1,11,[V.bl false],rfl,rfl,A1,by decide,by decide,by decide,fun p2 Q4=>?_⟩⟩⟩;walk_at "rd";refine rAddR.l (C2 (C2 A1 N8) Q4) A1 'g' fun p3 o7=>?_
    have V4:=(Same.new (u:=HO.lst [V.bl true]) np).trans ((Same.new (u:=HO.lst [V.bl false]) N8).trans ((Same.new (u:=HO.lst (J2 (11:Int).toNat [V.bl false]).flatten) Q4).trans (Same.new (u:=HO.lst ([V.bl true]++(J2 (11:Int).toNat [V.bl false]).flatten)) o7)));have v4:A0 (A0 (A0 (A0 H5 p (HO.lst [V.bl true])) p1 (HO.lst [V.bl false])) p2 (HO.lst (J2 (11:Int).toNat [V.bl false]).flatten)) p3 (HO.lst ([V.bl true]++(J2 (11:Int).toNat [V.bl false]).flatten)) p3=some (.lst ((kd 0).map V.bl)):=A1;generalize A0 (A0 (A0 (A0 H5 p (HO.lst [V.bl true])) p1 (HO.lst [V.bl false])) p2 (HO.lst (J2 (11:Int).toNat [V.bl false]).flatten)) p3 (HO.lst ([V.bl true]++(J2 (11:Int).toNat [V.bl false]).flatten))=HK at V4 v4
    try walk_at "rd"
    refine ⟨_,.lst (.of (V4 _ _ hk)) (bI _),_,.lst (.of v4) (bI _),by decide,?_⟩;rw [show (j7 ((lI 0).map aX)).eqv (j7 ((kd 0).map aX))=true by decide];rw [if_pos rfl];refine ⟨C_Clash,d,V4 _ _ hx,fC,_,V4 _ _ hd,MC,T.na_Clash,_,rfl,a,ns,0,rfl,(SA.trans V4).seq hS,by decide,fun H7 S7=>?_⟩;show rEqU K (V.str (C6 ns 0)) (V.str (C6 ns 0)) H7 _;walk_at "rd";exact q _
  rw [if_neg (by simpa using ho)];rw [decide_eq_false ho] at hD;refine ⟨a,ns,2,rfl,SA.seq hS,by decide,_,rfl,?_⟩;rw [qV];have N7:=hD.cl;rw [if_neg K4] at N7;have j0:=hD.mis
  by_cases ha:ce % 4=1
  .rw [if_pos (decide_eq_true ha)];rw [decide_eq_true ha,if_pos rfl] at j0;cases hA with
   | ok h1 h2=>rw [j0] at h2;cases h2
   | cl h1=>rw [N7] at h1;cases h1
   | rd h1 h2=>rw [j0] at h2;cases h2
   | nl h1 h2 hK=>
    rw [j0] at h2;cases h2;obtain ⟨Ce,d,hC,hx,hd⟩:=hK.ex;have hCe:Ce=C_NoLetter:=by rcases hC with ⟨h,_⟩ | ⟨_,h⟩ | ⟨h,_⟩;cases h;exact h;cases h
    rw [hCe] at hx;refine ⟨by decide,fun p np=>⟨by decide,fun p1 N8=>⟨p1,10,[V.bl false],rfl,rfl,A1,by decide,by decide,by decide,fun p2 Q4=>?_⟩⟩⟩;walk_at "rd";refine rAddR.l (C2 (C2 A1 N8) Q4) A1 'g' fun p3 o7=>?_
    have V4:=(Same.new (u:=HO.lst [V.bl false,V.bl true]) np).trans ((Same.new (u:=HO.lst [V.bl false]) N8).trans ((Same.new (u:=HO.lst (J2 (10:Int).toNat [V.bl false]).flatten) Q4).trans (Same.new (u:=HO.lst ([V.bl false,V.bl true]++(J2 (10:Int).toNat [V.bl false]).flatten)) o7)));have v4:A0 (A0 (A0 (A0 H5 p (HO.lst [V.bl false,V.bl true])) p1 (HO.lst [V.bl false])) p2 (HO.lst (J2 (10:Int).toNat [V.bl false]).flatten)) p3 (HO.lst ([V.bl false,V.bl true]++(J2 (10:Int).toNat [V.bl false]).flatten)) p3=some (.lst ((kd 1).map V.bl)):=A1;generalize A0 (A0 (A0 (A0 H5 p (HO.lst [V.bl false,V.bl true])) p1 (HO.lst [V.bl false])) p2 (HO.lst (J2 (10:Int).toNat [V.bl false]).flatten)) p3 (HO.lst ([V.bl false,V.bl true]++(J2 (10:Int).toNat [V.bl false]).flatten))=HK at V4 v4
    try walk_at "rd"
    refine ⟨_,.lst (.of (V4 _ _ hk)) (bI _),_,.lst (.of v4) (bI _),by decide,?_⟩;rw [show (j7 ((lI 1).map aX)).eqv (j7 ((kd 1).map aX))=true by decide];rw [if_pos rfl];refine ⟨C_NoLetter,d,V4 _ _ hx,fN,_,V4 _ _ hd,MN,T.na_NoLetter,_,rfl,a,ns,13,rfl,(SA.trans V4).seq hS,by decide,fun H7 S7=>?_⟩;show rEqU K (V.str (C6 ns 13)) (V.str (C6 ns 13)) H7 _;walk_at "rd";exact q _
  rw [if_neg (by simpa using ha)];rw [decide_eq_false ha,if_neg K4] at j0;obtain ⟨fw,fm⟩:=hD.few;have b1:=fw.flat;have b2:=fm.flat;have yL:∀ {H6:Hp} {Z:VK},Same H5 H6->(∀ H7,Same H6 H7->Z (.bl (dF (rowsW R "row"))) H7)->pV K [V.ref l2] H6 Z E0:=fun S h=>⟨l2,yJ,_,rfl,hL.same S,by lia,fw.pc,h⟩
  have go2:∀ {H6:Hp} {Z:VK},Same H5 H6->(∀ H7,Same H6 H7->Z (.bl (dF (rowsW R "marks"))) H7)->pV K [V.ref l3] H6 Z E0:=fun S h=>⟨l3,yK,_,rfl,hM.same S,by lia,fm.pc,h⟩
  cases hA with
  | cl h1=>rw [N7] at h1;cases h1
  | nl h1 h2=>rw [j0] at h2;cases h2
  | rd h1 h2 hw hK hlg hLe=>
   obtain ⟨Ce,d,hC,hx,hd⟩:=hK.ex;have hCe:Ce=C_Round:=by rcases hC with ⟨h,_⟩ | ⟨h,_⟩ | ⟨_,h⟩;cases h;cases h;exact h
   rw [hCe] at hx
   rcases hw with rfl | ⟨rfl,L,hLin⟩
   .refine yL (Same.refl _) fun H6 S6=>⟨_,rfl,?_⟩
    rw [amv hLe.rnd,if_pos rfl];refine ⟨by decide,fun p np=>⟨by decide,fun p1 N8=>⟨p1,9,[V.bl false],rfl,rfl,A1,by decide,by decide,by decide,fun p2 Q4=>?_⟩⟩⟩;walk_at "rd";refine rAddR.l (C2 (C2 A1 N8) Q4) A1 'g' fun p3 o7=>?_
    have V4:=(Same.new (u:=HO.lst [V.bl false,V.bl false,V.bl true]) np).trans ((Same.new (u:=HO.lst [V.bl false]) N8).trans ((Same.new (u:=HO.lst (J2 (9:Int).toNat [V.bl false]).flatten) Q4).trans (Same.new (u:=HO.lst ([V.bl false,V.bl false,V.bl true]++(J2 (9:Int).toNat [V.bl false]).flatten)) o7)));have v4:A0 (A0 (A0 (A0 H6 p (HO.lst [V.bl false,V.bl false,V.bl true])) p1 (HO.lst [V.bl false])) p2 (HO.lst (J2 (9:Int).toNat [V.bl false]).flatten)) p3 (HO.lst ([V.bl false,V.bl false,V.bl true]++(J2 (9:Int).toNat [V.bl false]).flatten)) p3=some (.lst ((kd 2).map V.bl)):=A1;generalize A0 (A0 (A0 (A0 H6 p (HO.lst [V.bl false,V.bl false,V.bl true])) p1 (HO.lst [V.bl false])) p2 (HO.lst (J2 (9:Int).toNat [V.bl false]).flatten)) p3 (HO.lst ([V.bl false,V.bl false,V.bl true]++(J2 (9:Int).toNat [V.bl false]).flatten))=HK at V4 v4
    try walk_at "rd"
    refine ⟨_,.lst (.of (V4 _ _ (S6 _ _ hk))) (bI _),_,.lst (.of v4) (bI _),by decide,?_⟩;rw [show (j7 ((lI 2).map aX)).eqv (j7 ((kd 2).map aX))=true by decide];rw [if_pos rfl];have SK:=S6.trans V4;exact ⟨C_Round,d,SK _ _ hx,fR,_,SK _ _ hd,MR,T.na_Round,_,rfl,l2,_,yJ,_,_,rfl,hL.same SK,SK _ _ hlg,by lia,fw.pc,hLe,fun H' _=>q H'⟩
   .refine yL (Same.refl _) fun H6 S6=>⟨_,rfl,?_⟩
    rw [go_no hLin.1 hLin.2 (fw.line 'g' hLin.1),if_neg K4];refine go2 S6 fun H7 S7=>⟨_,rfl,?_⟩
    rw [amv hLe.rnd,if_pos rfl];refine ⟨by decide,fun p np=>⟨by decide,fun p1 N8=>⟨p1,9,[V.bl false],rfl,rfl,A1,by decide,by decide,by decide,fun p2 Q4=>?_⟩⟩⟩;walk_at "rd";refine rAddR.l (C2 (C2 A1 N8) Q4) A1 'g' fun p3 o7=>?_
    have V4:=(Same.new (u:=HO.lst [V.bl false,V.bl false,V.bl true]) np).trans ((Same.new (u:=HO.lst [V.bl false]) N8).trans ((Same.new (u:=HO.lst (J2 (9:Int).toNat [V.bl false]).flatten) Q4).trans (Same.new (u:=HO.lst ([V.bl false,V.bl false,V.bl true]++(J2 (9:Int).toNat [V.bl false]).flatten)) o7)));have v4:A0 (A0 (A0 (A0 H7 p (HO.lst [V.bl false,V.bl false,V.bl true])) p1 (HO.lst [V.bl false])) p2 (HO.lst (J2 (9:Int).toNat [V.bl false]).flatten)) p3 (HO.lst ([V.bl false,V.bl false,V.bl true]++(J2 (9:Int).toNat [V.bl false]).flatten)) p3=some (.lst ((kd 2).map V.bl)):=A1;generalize A0 (A0 (A0 (A0 H7 p (HO.lst [V.bl false,V.bl false,V.bl true])) p1 (HO.lst [V.bl false])) p2 (HO.lst (J2 (9:Int).toNat [V.bl false]).flatten)) p3 (HO.lst ([V.bl false,V.bl false,V.bl true]++(J2 (9:Int).toNat [V.bl false]).flatten))=HK at V4 v4
    try walk_at "rd"
    refine ⟨_,.lst (.of (V4 _ _ ((S6.trans S7) _ _ hk))) (bI _),_,.lst (.of v4) (bI _),by decide,?_⟩;rw [show (j7 ((lI 2).map aX)).eqv (j7 ((kd 2).map aX))=true by decide];rw [if_pos rfl];have SK:=S6.trans (S7.trans V4);exact ⟨C_Round,d,SK _ _ hx,fR,_,SK _ _ hd,MR,T.na_Round,_,rfl,l3,_,yK,_,_,rfl,hM.same SK,SK _ _ hlg,by lia,fm.pc,hLe,fun H' _=>q H'⟩
  | @ok _ j ll ml md L M h1 h2 hO=>
   have r1:=hO.l1;have r2:=hO.l2;refine yL (Same.refl _) fun H6 S6=>⟨_,rfl,?_⟩
   rw [go_no r1.1 r1.2 (fw.line 'g' r1.1),if_neg K4];refine go2 S6 fun H7 S7=>⟨_,rfl,?_⟩
   rw [go_no r2.1 r2.2 (fm.line 'g' r2.1),if_neg K4];intro p8 n8;have S8:=S6.trans (S7.trans (Same.new (u:=HO.lst []) n8));refine ⟨.list [],.lst (.of (S8 _ _ hk)) .nil,.list [],.lst (.of A1) .nil,by decide,?_⟩;rw [if_neg 'g'];generalize A0 H7 p8 (HO.lst [])=H8 at S8;have hO8:=hO.same S8;obtain ⟨dx,jJ⟩:=hO8.ob;refine ⟨x,rfl,dx,_,jJ,by first | rfl | decide +kernel | exact ajl _ _ _ _ _ _ (by decide +kernel),x,j,ll,ml,md,_,R,L,M,rfl,hO8,fun l9 n9=>?_⟩;have S9:=S8.trans (Same.new (u:=HO.lst (L.map V.str)) n9);have h9:A0 H8 l9 (HO.lst (L.map V.str)) l9=some (.lst (L.map V.str)):=A1;generalize A0 H8 l9 (HO.lst (L.map V.str))=H9 at S9 h9;refine ⟨l2,l9,yJ,_,L,rfl,hL.same S9,h9,by lia,fw.pc,r1.1,r1.2,fw.line 'g' r1.1,fun X6 fZ=>⟨true,rfl,?_⟩⟩;rw [if_pos rfl];have S11:=S9.trans fZ;have hO11:=hO.same S11;obtain ⟨dx2,yM⟩:=hO11.ob;refine ⟨x,rfl,dx2,_,yM,by first | rfl | decide +kernel | exact ajl _ _ _ _ _ _ (by decide +kernel),x,j,ll,ml,md,_,R,L,M,rfl,hO11,fun l12 n12=>?_⟩;have aN:=S11.trans (Same.new (u:=HO.lst (M.map V.str)) n12);exact ⟨l3,l12,yK,_,M,rfl,hM.same aN,A1,by lia,fm.pc,r2.1,r2.2,fm.line 'g' r2.1,fun H' _=>q H'⟩
end
theorem all_mk{l:PySem.W.OpenLaw}{w:World}{C_Clash C_NoLetter C_Round:Addr}(X:K.In h)(G:h.Ns mainGlobals mg)(hfa:mg "law"=some (.ref fa)){f0:Addr}{od0 an0:Option Addr}{sl0:Array (Option Value)}{oc0 kV0 dc0 pm0 cd0 ct0:Value}(i0:y1 K (.ref f0)=true)(l0:K.lookup f0=some ⟨oc0,od0,.func (P7 "__init__" "Clash.__init__" (R7 iM) (P9 iM) (C8 iM) .none kV0 dc0 pm0 an0 cd0 ct0),sl0⟩)(c0:U8 K cd0 "Clash.__init__"=true)(k0:O8 K (.ref f0)=true){f1:Addr}{od1 an1:Option Addr}{sl1:Array (Option Value)}{oc1 kV1 dc1 pm1 cd1 ct1:Value}(i1:y1 K (.ref f1)=true)(l1:K.lookup f1=some ⟨oc1,od1,.func (P7 "__init__" "NoLetter.__init__" (R7 iN) (P9 iN) (C8 iN) .none kV1 dc1 pm1 an1 cd1 ct1),sl1⟩)(c1:U8 K cd1 "NoLetter.__init__"=true)(k1:O8 K (.ref f1)=true){f2:Addr}{od2 an2:Option Addr}{kH:Array (Option Value)}{oc2 kV2 dc2 pm2 cd2 ct2:Value}(i2:y1 K (.ref f2)=true)(l2:K.lookup f2=some ⟨oc2,od2,.func (P7 "__init__" "Round.__init__" (R7 iO) (P9 iO) (C8 iO) .none kV2 dc2 pm2 an2 cd2 ct2),kH⟩)(c2:U8 K cd2 "Round.__init__"=true)(k2:O8 K (.ref f2)=true)(d3:DF K "told" uM)(d4:DF K "followers" uN)(d5:DF K "count_ahead" uO)(d6:DF K "way_back" uP)(d7:DF K "round_from" uQ)(d8:DF K "take_out" uR)(d9:DF K "shortest_round" uS){f10:Addr}{od10 an10:Option Addr}{sl10:Array (Option Value)}{oc10 kV10 dc10 pm10 cd10 ct10:Value}(a10:E5 K mainGlobals "lined_up"=some (some (.ref f10)))(l10:K.lookup f10=some ⟨oc10,od10,.func (P7 "lined_up" "lined_up" (R7 bH) (P9 bH) (C8 bH) .none kV10 dc10 pm10 an10 cd10 ct10),sl10⟩)(c10:U8 K cd10 "lined_up"=true)(k10:O8 K (.ref f10)=true)(d11:DF K "is_figure" uT)(d12:DF K "has_rule" pK)(d13:DF K "pieces_told" uU)(d14:DF K "is_clash" pL){f15:Addr}{od15 an15:Option Addr}{sl15:Array (Option Value)}{oc15 kV15 dc15 pm15 cd15 ct15:Value}(a15:E5 K mainGlobals "jobs_of"=some (some (.ref f15)))(l15:K.lookup f15=some ⟨oc15,od15,.func (P7 "jobs_of" "jobs_of" (R7 iP) (P9 iP) (C8 iP) .none kV15 dc15 pm15 an15 cd15 ct15),sl15⟩)(c15:U8 K cd15 "jobs_of"=true)(k15:O8 K (.ref f15)=true)(d16:DF K "misused" eY){f17:Addr}{od17 an17:Option Addr}{sl17:Array (Option Value)}{oc17 kV17 dc17 pm17 cd17 ct17:Value}(a17:E5 K mainGlobals "check_letters"=some (some (.ref f17)))(l17:K.lookup f17=some ⟨oc17,od17,.func (P7 "check_letters" "check_letters" (R7 iQ) (P9 iQ) (C8 iQ) .none kV17 dc17 pm17 an17 cd17 ct17),sl17⟩)(c17:U8 K cd17 "check_letters"=true)(k17:O8 K (.ref f17)=true){f18:Addr}{od18 an18:Option Addr}{sl18:Array (Option Value)}{oc18 kV18 dc18 pm18 cd18 ct18:Value}(a18:E5 K mainGlobals "line_of"=some (some (.ref f18)))(l18:K.lookup f18=some ⟨oc18,od18,.func (P7 "line_of" "line_of" (R7 eZ) (P9 eZ) (C8 eZ) .none kV18 dc18 pm18 an18 cd18 ct18),sl18⟩)(c18:U8 K cd18 "line_of"=true)(k18:O8 K (.ref f18)=true)(d19:DF K "forms_of" uV)(d20:DF K "steps_of" pM){f21:Addr}{od21 an21:Option Addr}{sl21:Array (Option Value)}{oc21 kV21 dc21 pm21 cd21 ct21:Value}(a21:J8 K (.ref C) "__init__"=some (some (.ref f21)))(i21:y1 K (.ref f21)=true)(l21:K.lookup f21=some ⟨oc21,od21,.func (P7 "__init__" "Order.__init__" (R7 iR) (P9 iR) (C8 iR) .none kV21 dc21 pm21 an21 cd21 ct21),sl21⟩)(c21:U8 K cd21 "Order.__init__"=true)(k21:O8 K (.ref f21)=true){f22:Addr}{od22 an22:Option Addr}{sl22:Array (Option Value)}{oc22 kV22 dc22 pm22 cd22 ct22:Value}(a22:J8 K (.ref C) "letters"=some (some (.ref f22)))(i22:y1 K (.ref f22)=true)(l22:K.lookup f22=some ⟨oc22,od22,.func (P7 "letters" "Order.letters" (R7 iS) (P9 iS) (C8 iS) .none kV22 dc22 pm22 an22 cd22 ct22),sl22⟩)(c22:U8 K cd22 "Order.letters"=true)(k22:O8 K (.ref f22)=true){f23:Addr}{od23 an23:Option Addr}{sl23:Array (Option Value)}{oc23 kV23 dc23 pm23 cd23 ct23:Value}(a23:J8 K (.ref C) "marks"=some (some (.ref f23)))(i23:y1 K (.ref f23)=true)(l23:K.lookup f23=some ⟨oc23,od23,.func (P7 "marks" "Order.marks" (R7 iT) (P9 iT) (C8 iT) .none kV23 dc23 pm23 an23 cd23 ct23),sl23⟩)(c23:U8 K cd23 "Order.marks"=true)(k23:O8 K (.ref f23)=true)(d24:DF K "_law_cell_at" uW)(d25:DF K "_law_sign" uX)(d26:DF K "_law_turn" uY)(d27:DF K "_law_rows" pN)(d28:DF K "_law_said" uZ)(d29:DF K "_law_goes_round" iU)(d30:DF K "_law_round" vA)(d31:DF K "_law_lined" vB)(d32:DF K "_law_kinds" vC)(d33:DF K "_law_asked" lF)(d34:DF K "_law_rules" lG){f35:Addr}{od35 an35:Option Addr}{sl35:Array (Option Value)}{oc35 kV35 dc35 pm35 cd35 ct35:Value}(a35:E5 K mainGlobals "law"=some (some (.ref f35)))(l35:K.lookup f35=some ⟨oc35,od35,.func (P7 "law" "law" (R7 s_law) (P9 s_law) (C8 s_law) .none kV35 dc35 pm35 an35 cd35 ct35),sl35⟩)(c35:U8 K cd35 "law"=true)(k35:O8 K (.ref f35)=true){N_Clash:Addr}{nm_Clash q_Clash:Str}{bs_Clash bm_Clash sub_Clash:List Value}{sn_Clash:List Str}{ab_Clash:Bool}{col_Clash:Option Bool}{dd_Clash:Option Addr}{k0_Clash k1_Clash k2_Clash k3_Clash k5_Clash:Option Value}(aE_Clash:E5 K mainGlobals "Clash"=some (some (.ref C_Clash)))(lE_Clash:K.lookup C_Clash=some (excClassObj nm_Clash q_Clash C_Clash N_Clash bs_Clash bm_Clash true sn_Clash sub_Clash ab_Clash col_Clash dd_Clash k0_Clash k1_Clash k2_Clash k3_Clash k5_Clash "ValueError.__new__"))(t1_Clash:cL K bF bm_Clash=true)(t2_Clash:u6 bF (.ref C_Clash::bm_Clash)=true)(t3_Clash:eF K N_Clash=true)(t4_Clash:E5 K N_Clash "__init__"=some (some (.ref f0)))(sa_Clash:J8 K (.ref C_Clash) "__setattr__"=some (some (.builtin "object.__setattr__")))(ga_Clash:J8 K (.ref C_Clash) "__getattribute__"=some (some (.builtin "BaseException.__getattribute__")))(gt_Clash:J8 K (.ref C_Clash) "__getattr__"=some (none))(cl_Clash:J8 K (.ref C_Clash) "__class__"=some (some (.builtin "object.__class__")))(bx_Clash:R6 K C_Clash (.type "BaseException")=some true)(ob_Clash:R6 K C_Clash (.type "object")=some true)(kp_Clash:O8 K (.ref C_Clash)=true)(nE_Clash:J8 K (.ref C_Clash) "piece"=some none){N_NoLetter:Addr}{nm_NoLetter q_NoLetter:Str}{bs_NoLetter bm_NoLetter sub_NoLetter:List Value}{sn_NoLetter:List Str}{ab_NoLetter:Bool}{col_NoLetter:Option Bool}{dd_NoLetter:Option Addr}{k0_NoLetter k1_NoLetter k2_NoLetter k3_NoLetter k5_NoLetter:Option Value}(aE_NoLetter:E5 K mainGlobals "NoLetter"=some (some (.ref C_NoLetter)))(lE_NoLetter:K.lookup C_NoLetter=some (excClassObj nm_NoLetter q_NoLetter C_NoLetter N_NoLetter bs_NoLetter bm_NoLetter true sn_NoLetter sub_NoLetter ab_NoLetter col_NoLetter dd_NoLetter k0_NoLetter k1_NoLetter k2_NoLetter k3_NoLetter k5_NoLetter "ValueError.__new__"))(t1_NoLetter:cL K bF bm_NoLetter=true)(t2_NoLetter:u6 bF (.ref C_NoLetter::bm_NoLetter)=true)(t3_NoLetter:eF K N_NoLetter=true)(t4_NoLetter:E5 K N_NoLetter "__init__"=some (some (.ref f1)))(sa_NoLetter:J8 K (.ref C_NoLetter) "__setattr__"=some (some (.builtin "object.__setattr__")))(ga_NoLetter:J8 K (.ref C_NoLetter) "__getattribute__"=some (some (.builtin "BaseException.__getattribute__")))(gt_NoLetter:J8 K (.ref C_NoLetter) "__getattr__"=some (none))(cl_NoLetter:J8 K (.ref C_NoLetter) "__class__"=some (some (.builtin "object.__class__")))(bx_NoLetter:R6 K C_NoLetter (.type "BaseException")=some true)(ob_NoLetter:R6 K C_NoLetter (.type "object")=some true)(kp_NoLetter:O8 K (.ref C_NoLetter)=true)(nE_NoLetter:J8 K (.ref C_NoLetter) "piece"=some none){N_Round:Addr}{nm_Round q_Round:Str}{bs_Round bm_Round sub_Round:List Value}{sn_Round:List Str}{ab_Round:Bool}{col_Round:Option Bool}{dd_Round:Option Addr}{k0_Round k1_Round k2_Round k3_Round k5_Round:Option Value}(aE_Round:E5 K mainGlobals "Round"=some (some (.ref C_Round)))(lE_Round:K.lookup C_Round=some (excClassObj nm_Round q_Round C_Round N_Round bs_Round bm_Round true sn_Round sub_Round ab_Round col_Round dd_Round k0_Round k1_Round k2_Round k3_Round k5_Round "ValueError.__new__"))(t1_Round:cL K bF bm_Round=true)(t2_Round:u6 bF (.ref C_Round::bm_Round)=true)(t3_Round:eF K N_Round=true)(t4_Round:E5 K N_Round "__init__"=some (some (.ref f2)))(sa_Round:J8 K (.ref C_Round) "__setattr__"=some (some (.builtin "object.__setattr__")))(ga_Round:J8 K (.ref C_Round) "__getattribute__"=some (some (.builtin "BaseException.__getattribute__")))(gt_Round:J8 K (.ref C_Round) "__getattr__"=some (none))(cl_Round:J8 K (.ref C_Round) "__class__"=some (some (.builtin "object.__class__")))(bx_Round:R6 K C_Round (.type "BaseException")=some true)(ob_Round:R6 K C_Round (.type "object")=some true)(kp_Round:O8 K (.ref C_Round)=true)(nE_Round:J8 K (.ref C_Round) "pieces"=some none){aL:Addr}(eL:E5 K mainGlobals "LoreError"=some (some (.ref aL)))(eL1:eE K (.ref aL) "__getattribute__"=some (some (.builtin "type.__getattribute__")))(eL2:PySem.W.readsIn K aL (.type "type")=true)(eL3:PySem.W.findCls K (.ref aL) (.type "type") "__init__"=some (.val (.builtin "ValueError.__init__")))(ecn:eE K (.builtin "object.__class__") "__get__"=some (some (.builtin "getset_descriptor.__get__")))(ect:kC K (.builtin "object.__class__")=some true){d_LoreError:Addr}{cd_LoreError:ClassData}(aD_LoreError:E5 K mainGlobals "LoreError"=some (some (.ref d_LoreError)))(D1_LoreError:PySem.W.clsIn K d_LoreError=some cd_LoreError)(D2_LoreError:PySem.W.typeIn K (.ref d_LoreError)=some (.type "type"))(D3_LoreError:R6 K d_LoreError (.type "BaseException")=some true)(D4Clash_LoreError:R6 K C_Clash (.ref d_LoreError)=some true)(D4NoLetter_LoreError:R6 K C_NoLetter (.ref d_LoreError)=some true)(D4Round_LoreError:R6 K C_Round (.ref d_LoreError)=some true){x_NoDeed:Addr}(aX_NoDeed:E5 K mainGlobals "NoDeed"=some (some (.ref x_NoDeed)))(X1Clash_NoDeed:C5 K (.ref C_Clash) (.ref x_NoDeed)=some false)(X1NoLetter_NoDeed:C5 K (.ref C_NoLetter) (.ref x_NoDeed)=some false)(X1Round_NoDeed:C5 K (.ref C_Round) (.ref x_NoDeed)=some false){x_NoSign:Addr}(aX_NoSign:E5 K mainGlobals "NoSign"=some (some (.ref x_NoSign)))(X1Clash_NoSign:C5 K (.ref C_Clash) (.ref x_NoSign)=some false)(X1NoLetter_NoSign:C5 K (.ref C_NoLetter) (.ref x_NoSign)=some false)(X1Round_NoSign:C5 K (.ref C_Round) (.ref x_NoSign)=some false){x_NoName:Addr}(aX_NoName:E5 K mainGlobals "NoName"=some (some (.ref x_NoName)))(X1Clash_NoName:C5 K (.ref C_Clash) (.ref x_NoName)=some false)(X1NoLetter_NoName:C5 K (.ref C_NoLetter) (.ref x_NoName)=some false)(X1Round_NoName:C5 K (.ref C_Round) (.ref x_NoName)=some false){x_NoRule:Addr}(aX_NoRule:E5 K mainGlobals "NoRule"=some (some (.ref x_NoRule)))(X1Clash_NoRule:C5 K (.ref C_Clash) (.ref x_NoRule)=some false)(X1NoLetter_NoRule:C5 K (.ref C_NoLetter) (.ref x_NoRule)=some false)(X1Round_NoRule:C5 K (.ref C_Round) (.ref x_NoRule)=some false){x_NotPlain:Addr}(aX_NotPlain:E5 K mainGlobals "NotPlain"=some (some (.ref x_NotPlain)))(X1Clash_NotPlain:C5 K (.ref C_Clash) (.ref x_NotPlain)=some false)(X1NoLetter_NotPlain:C5 K (.ref C_NoLetter) (.ref x_NotPlain)=some false)(X1Round_NotPlain:C5 K (.ref C_Round) (.ref x_NotPlain)=some false){x_NoText:Addr}(aX_NoText:E5 K mainGlobals "NoText"=some (some (.ref x_NoText)))(X1Clash_NoText:C5 K (.ref C_Clash) (.ref x_NoText)=some false)(X1NoLetter_NoText:C5 K (.ref C_NoLetter) (.ref x_NoText)=some false)(X1Round_NoText:C5 K (.ref C_Round) (.ref x_NoText)=some false){x_Ring:Addr}(aX_Ring:E5 K mainGlobals "Ring"=some (some (.ref x_Ring)))(X1Clash_Ring:C5 K (.ref C_Clash) (.ref x_Ring)=some false)(X1NoLetter_Ring:C5 K (.ref C_NoLetter) (.ref x_Ring)=some false)(X1Round_Ring:C5 K (.ref C_Round) (.ref x_Ring)=some false){x_Twice:Addr}(aX_Twice:E5 K mainGlobals "Twice"=some (some (.ref x_Twice)))(X1Clash_Twice:C5 K (.ref C_Clash) (.ref x_Twice)=some false)(X1NoLetter_Twice:C5 K (.ref C_NoLetter) (.ref x_Twice)=some false)(X1Round_Twice:C5 K (.ref C_Round) (.ref x_Twice)=some false){x_Clash:Addr}(aX_Clash:E5 K mainGlobals "Clash"=some (some (.ref x_Clash)))(X1Clash_Clash:C5 K (.ref C_Clash) (.ref x_Clash)=some true)(X1NoLetter_Clash:C5 K (.ref C_NoLetter) (.ref x_Clash)=some false)(X1Round_Clash:C5 K (.ref C_Round) (.ref x_Clash)=some false){x_NoLetter:Addr}(aX_NoLetter:E5 K mainGlobals "NoLetter"=some (some (.ref x_NoLetter)))(X1Clash_NoLetter:C5 K (.ref C_Clash) (.ref x_NoLetter)=some false)(X1NoLetter_NoLetter:C5 K (.ref C_NoLetter) (.ref x_NoLetter)=some true)(X1Round_NoLetter:C5 K (.ref C_Round) (.ref x_NoLetter)=some false){x_Round:Addr}(aX_Round:E5 K mainGlobals "Round"=some (some (.ref x_Round)))(X1Clash_Round:C5 K (.ref C_Clash) (.ref x_Round)=some false)(X1NoLetter_Round:C5 K (.ref C_NoLetter) (.ref x_Round)=some false)(X1Round_Round:C5 K (.ref C_Round) (.ref x_Round)=some true)(Y1_ValueError:C5 K (.ref C_Clash) (.type "ValueError")=some true)(Y1_ValueError_NoLetter:C5 K (.ref C_NoLetter) (.type "ValueError")=some true)(Y1_ValueError_Round:C5 K (.ref C_Round) (.type "ValueError")=some true)(aC:E5 K mainGlobals "Order"=some (some (.ref C)))(pgC:kB K C Str.empty=true)(hdC:gI K C=true)(poC:PySem.W.plainOver K C=true)(saC:J8 K (.ref C) "__setattr__"=some (some (.builtin "object.__setattr__")))(mkC:PySem.W.makesIn K C=true)(kcC:O8 K (.ref C)=true)(nC_figures:J8 K (.ref C) "figures"=some none)(nC_behind:J8 K (.ref C) "behind"=some none)(nC_jobs:J8 K (.ref C) "jobs"=some none)(nC_letter_line:J8 K (.ref C) "letter_line"=some none)(nC_mark_line:J8 K (.ref C) "mark_line"=some none)(nC_made:J8 K (.ref C) "made"=some none)(z_ValueError:E5 K mainGlobals "ValueError"=some none)(z_any:E5 K mainGlobals "any"=some none)(z_dict:E5 K mainGlobals "dict"=some none)(z_enumerate:E5 K mainGlobals "enumerate"=some none)(z_isinstance:E5 K mainGlobals "isinstance"=some none)(z_len:E5 K mainGlobals "len"=some none)(z_list:E5 K mainGlobals "list"=some none)(z_min:E5 K mainGlobals "min"=some none)(z_range:E5 K mainGlobals "range"=some none)(z_set:E5 K mainGlobals "set"=some none)(z_sorted:E5 K mainGlobals "sorted"=some none)(z_tuple:E5 K mainGlobals "tuple"=some none)(z_zip:E5 K mainGlobals "zip"=some none){a_JOBS:Addr}{ep_JOBS:Nat}{h_JOBS_0:Int}{t_JOBS_0 u_JOBS_0:Tok}{h_JOBS_1:Int}{t_JOBS_1 u_JOBS_1:Tok}{h_JOBS_2:Int}{t_JOBS_2 u_JOBS_2:Tok}{h_JOBS_3:Int}{t_JOBS_3 u_JOBS_3:Tok}{h_JOBS_4:Int}{t_JOBS_4 u_JOBS_4:Tok}(y_JOBS:E5 K mainGlobals "JOBS"=some (some (.ref a_JOBS)))(d_JOBS:K.lookup a_JOBS=some { cls:=.type "dict",dict:=none,data:=.dict #[⟨h_JOBS_0,.str "row" t_JOBS_0,.str "letter" u_JOBS_0⟩,⟨h_JOBS_1,.str "marks" t_JOBS_1,.str "mark" u_JOBS_1⟩,⟨h_JOBS_2,.str "great" t_JOBS_2,.str "great" u_JOBS_2⟩,⟨h_JOBS_3,.str "as" t_JOBS_3,.str "as" u_JOBS_3⟩,⟨h_JOBS_4,.str "over" t_JOBS_4,.str "over" u_JOBS_4⟩] ep_JOBS,slots:=#[] })(s_JOBS:(a_JOBS==sysModules)=false)(e_JOBS_0:h_JOBS_0=keyH w (Sum.inr ("row" : Str)))(e_JOBS_1:h_JOBS_1=keyH w (Sum.inr ("marks" : Str)))(e_JOBS_2:h_JOBS_2=keyH w (Sum.inr ("great" : Str)))(e_JOBS_3:h_JOBS_3=keyH w (Sum.inr ("as" : Str)))(e_JOBS_4:h_JOBS_4=keyH w (Sum.inr ("over" : Str))){a_AGAIN:Addr}{n_AGAIN:Nat}{od_AGAIN:Option Addr}{sl_AGAIN:Array (Option Value)}{t_AGAIN_0:Tok}{t_AGAIN_1:Tok}{t_AGAIN_2:Tok}(y_AGAIN:E5 K mainGlobals "AGAIN"=some (some (.ref a_AGAIN)))(d_AGAIN:K.lookup a_AGAIN=some ⟨.type "tuple",od_AGAIN,.seq #[.str "letter" t_AGAIN_0,.str "mark" t_AGAIN_1,.str "over" t_AGAIN_2] n_AGAIN,sl_AGAIN⟩){tMARK tLETTER:Tok}(y_MARK:E5 K mainGlobals "MARK"=some (some (.int 0 tMARK)))(y_LETTER:E5 K mainGlobals "LETTER"=some (some (.int 2 tLETTER)))
  : ∃ fd:FuncData,(∀ (s:Shared) (v:Value),BindsTo s fd ⟨[v],[]⟩ [("_law_script",v)])/\∀ base:Heap,K.In base->base.Ns mainGlobals mg->FnOk l.prog w K mg base G9 9 fa fd zA5 (spLaw K):=by
 have e:=hfa.symm.trans (N9 X G a35);cases e;have M_Clash:ErrC K C_Clash f0:=⟨⟨_,_,_,_,_,_,_,_,_,_,_,_,_,_,_,lE_Clash,t1_Clash,t2_Clash,t3_Clash,t4_Clash⟩,i0,sa_Clash,ga_Clash,gt_Clash,cl_Clash,bx_Clash,ob_Clash,kp_Clash⟩
 have M_NoLetter:ErrC K C_NoLetter f1:=⟨⟨_,_,_,_,_,_,_,_,_,_,_,_,_,_,_,lE_NoLetter,t1_NoLetter,t2_NoLetter,t3_NoLetter,t4_NoLetter⟩,i1,sa_NoLetter,ga_NoLetter,gt_NoLetter,cl_NoLetter,bx_NoLetter,ob_NoLetter,kp_NoLetter⟩
 have M_Round:ErrC K C_Round f2:=⟨⟨_,_,_,_,_,_,_,_,_,_,_,_,_,_,_,lE_Round,t1_Round,t2_Round,t3_Round,t4_Round⟩,i2,sa_Round,ga_Round,gt_Round,cl_Round,bx_Round,ob_Round,kp_Round⟩
 have T:Txt l.prog w K mg C C_Clash C_NoLetter C_Round:=⟨⟨pgC,hdC,poC,saC⟩,nC_figures,nC_behind,nC_jobs,nC_letter_line,nC_mark_line,nC_made,⟨aL,N9 X G eL,⟨eL1,eL2,eL3⟩⟩,nE_Clash,⟨_,M_Clash⟩,nE_NoLetter,⟨_,M_NoLetter⟩,nE_Round,⟨_,M_Round⟩,ecn,ect,⟨d_LoreError,N9 X G aD_LoreError,⟨⟨_,D1_LoreError⟩,D2_LoreError,D3_LoreError⟩,D4Clash_LoreError,D4NoLetter_LoreError,D4Round_LoreError⟩,⟨x_NoDeed,N9 X G aX_NoDeed,X1Clash_NoDeed,X1NoLetter_NoDeed,X1Round_NoDeed⟩,⟨x_NoSign,N9 X G aX_NoSign,X1Clash_NoSign,X1NoLetter_NoSign,X1Round_NoSign⟩,⟨x_NoName,N9 X G aX_NoName,X1Clash_NoName,X1NoLetter_NoName,X1Round_NoName⟩,⟨x_NoRule,N9 X G aX_NoRule,X1Clash_NoRule,X1NoLetter_NoRule,X1Round_NoRule⟩,⟨x_NotPlain,N9 X G aX_NotPlain,X1Clash_NotPlain,X1NoLetter_NotPlain,X1Round_NotPlain⟩,⟨x_NoText,N9 X G aX_NoText,X1Clash_NoText,X1NoLetter_NoText,X1Round_NoText⟩,⟨x_Ring,N9 X G aX_Ring,X1Clash_Ring,X1NoLetter_Ring,X1Round_Ring⟩,⟨x_Twice,N9 X G aX_Twice,X1Clash_Twice,X1NoLetter_Twice,X1Round_Twice⟩,⟨x_Clash,N9 X G aX_Clash,X1Clash_Clash,X1NoLetter_Clash,X1Round_Clash⟩,⟨x_NoLetter,N9 X G aX_NoLetter,X1Clash_NoLetter,X1NoLetter_NoLetter,X1Round_NoLetter⟩,⟨x_Round,N9 X G aX_Round,X1Clash_Round,X1NoLetter_Round,X1Round_Round⟩,Y1_ValueError,Y1_ValueError_NoLetter,Y1_ValueError_Round,f8 X G z_ValueError,f8 X G z_any,f8 X G z_dict,f8 X G z_enumerate,f8 X G z_isinstance,f8 X G z_len,f8 X G z_list,f8 X G z_min,f8 X G z_range,f8 X G z_set,f8 X G z_sorted,f8 X G z_tuple,f8 X G z_zip,⟨_,N9 X G y_MARK⟩,⟨_,N9 X G y_LETTER⟩,⟨_,N9 X G y_JOBS,anE d_JOBS s_JOBS (.cons ⟨gM _ _,e_JOBS_0,⟨_,rfl⟩⟩ ( .cons ⟨gM _ _,e_JOBS_1,⟨_,rfl⟩⟩ ( .cons ⟨gM _ _,e_JOBS_2,⟨_,rfl⟩⟩ ( .cons ⟨gM _ _,e_JOBS_3,⟨_,rfl⟩⟩ ( .cons ⟨gM _ _,e_JOBS_4,⟨_,rfl⟩⟩ ( .nil)))))) 'e'⟩,⟨_,N9 X G y_AGAIN,fun H=>.inr ⟨_,_,_,d_AGAIN,rfl,rfl,(by show 3<=sizeLine;decide),.cons ⟨_,rfl⟩ ( .cons ⟨_,rfl⟩ ( .cons ⟨_,rfl⟩ ( .nil)))⟩⟩⟩
 have F0:=l7 (st:=iM) l0 c0;have F1:=l7 (st:=iN) l1 c1;have F2:=l7 (st:=iO) l2 c2;have F10:=l7 (st:=bH) l10 c10;have F15:=l7 (st:=iP) l15 c15;have F17:=l7 (st:=iQ) l17 c17;have F18:=l7 (st:=eZ) l18 c18;have F21:=l7 (st:=iR) l21 c21;have F22:=l7 (st:=iS) l22 c22;have F23:=l7 (st:=iT) l23 c23;have F35:=l7 (st:=s_law) l35 c35;refine ⟨P7 "law" "law" (R7 s_law) (P9 s_law) (C8 s_law) .none kV35 dc35 pm35 an35 cd35 ct35,fun s v=>.of_eq rfl,fun base hb hn=>?_⟩;have G_Clash___init__:EO l.prog w K mg base 1 C_Clash "Clash" zAc (iW K C_Clash "piece"):=⟨_,_,adf F0 T,N9 X G aE_Clash,M_Clash,.all (len2 fun _ _=>rfl)⟩
 have G_NoLetter___init__:EO l.prog w K mg base 1 C_NoLetter "NoLetter" zAc (iW K C_NoLetter "piece"):=⟨_,_,acv F1 T,N9 X G aE_NoLetter,M_NoLetter,.all (len2 fun _ _=>rfl)⟩
 have G_Round___init__:EO l.prog w K mg base 1 C_Round "Round" ["self", "pieces"] (vD K C_Round "pieces"):=⟨_,_,adg F2 T,N9 X G aE_Round,M_Round,.all (len2 fun _ _=>rfl)⟩
 have G_told:=d3.go X G hb fun F=>aor F T
 have G_followers:=d4.go X G hb fun F=>age F T G_told
 have G_count_ahead:=d5.go X G hb fun F=>aej F T
 have G_way_back:=d6.go X G hb fun F=>agV F T
 have G_round_from:=d7.go X G hb fun F=>afn F T G_way_back
 have G_take_out:=d8.go X G hb fun F=>agW F T
 have G_shortest_round:=d9.go X G hb fun F=>adh F T G_told G_followers G_count_ahead G_round_from G_take_out
 have G_lined_up:bG l.prog w K mg base 4 "lined_up" zA3 [] (vH C_Round):=⟨_,_,agX F10 T G_Round___init__ G_followers G_count_ahead G_shortest_round,N9 X G a10,k10,[],.all (len1 fun _=>rfl),.nil⟩
 have G_is_figure:=d11.go X G hb fun F=>agf F T
 have G_has_rule:=d12.go X G hb fun F=>agY F T
 have G_pieces_told:=d13.go X G hb fun F=>aek F T
 have G_is_clash:=d14.go X G hb fun F=>agZ F T G_is_figure
 have G_jobs_of:bG l.prog w K mg base 3 "jobs_of" zA4 [] (vM K C_Clash):=⟨_,_,ain F15 T G_Clash___init__ G_has_rule G_pieces_told G_is_clash,N9 X G a15,k15,[],.all (len1 fun _=>rfl),.nil⟩
 have G_misused:=d16.go X G hb fun F=>aio F T
 have G_check_letters:bG l.prog w K mg base 3 "check_letters" zAe [] (vJ K C_NoLetter):=⟨_,_,adr F17 T G_NoLetter___init__ G_misused,N9 X G a17,k17,[],.all (len2 fun _ _=>rfl),.nil⟩
 have G_line_of:bG l.prog w K mg base 5 "line_of" zA0 [] (vN K C_Round):=⟨_,_,aip F18 T G_lined_up,N9 X G a18,k18,[],.all (len2 fun _ _=>rfl),.nil⟩
 have G_forms_of:=d19.go X G hb fun F=>ag0 F T
 have G_steps_of:=d20.go X G hb fun F=>ag1 F T G_forms_of
 have G_Order___init__:uL l.prog w K mg base 6 C "Order" zA9 (vP C C_Clash C_NoLetter C_Round):=⟨_,_,adi F21 T G_has_rule G_jobs_of G_check_letters G_line_of G_steps_of,⟨mkC,a21,i21,kcC⟩,N9 X G aC,.all (len2 fun _ _=>rfl)⟩
 have G_Order_letters:MO l.prog w K mg base 1 C "letters" zA1 (tS C):=⟨_,_,ads F22 T,T.cl,⟨a22,i22,k22⟩,.all (len1 fun _=>rfl)⟩
 have G_Order_marks:MO l.prog w K mg base 1 C "marks" zA1 (tT C):=⟨_,_,ael F23 T,T.cl,⟨a23,i23,k23⟩,.all (len1 fun _=>rfl)⟩
 have G_l_cell_at:=d24.go X G hb fun F=>agg F T
 have G_l_sign:=d25.go X G hb fun F=>akj F T G_l_cell_at
 have G_l_turn:=d26.go X G hb fun F=>akk F T
 have G_l_rows:=d27.go X G hb fun F=>akl F T
 have G_l_said:=d28.go X G hb fun F=>akm F T
 have G_l_goes_round:=d29.go X G hb fun F=>aee F T
 have G_l_round:=d30.go X G hb fun F=>aiq F T G_shortest_round G_l_said
 have G_l_lined:=d31.go X G hb fun F=>air F T
 have G_l_kinds:=d32.go X G hb fun F=>ais F T
 have G_l_asked:=d33.go X G hb fun F=>ait F T G_Order___init__ G_l_kinds
 have G_l_rules:=d34.go X G hb fun F=>aiu F T G_l_cell_at G_l_sign G_l_turn
 exact arh F35 T G_Order_letters G_Order_marks G_l_cell_at G_l_sign G_l_rows G_l_goes_round G_l_round G_l_lined G_l_asked G_l_rules
theorem walk{l:PySem.W.OpenLaw}{q:Program}{XP:(Str->Option Value)->Heap->Prop}{YP:World->Heap->Prop}{d:DefRec}{K:Params->PySem.W.Frag}(hn:l.most=some 63)(aF:d.params.defaults=[])(hY:∀ (w:World) (h:Heap),YP w h->(K w.params).In h)(F:∀ (w:World) (mg:Str->Option Value) (fa:Addr) (h:Heap),(K w.params).In h->h.Ns mainGlobals mg->mg d.name=some (.ref fa)->
   ∃ fd:FuncData,(∀ (s:Shared) (u:Value),BindsTo s fd ⟨[u],[]⟩ [("_law_script",u)])/\∀ base:Heap,(K w.params).In base->base.Ns mainGlobals mg->FnOk l.prog w (K w.params) mg base G9 9 fa fd zA5 (spLaw (K w.params))) :
  PySem.W.WalkO q loose XP YP l.row.toRowW d [] (fun f vs=>PySem.call f vs):=
 L2.walk_of (n:=63) (k:=9) (x:="_law_script") (CX:=fun _=>G9) (sp:=fun w=>spLaw (K w.params)) hn 'g' aF ⟨rfl,by decide,by decide,rfl⟩ hY F (fun _ _ a ns hl _ hS=>⟨a,ns,rfl,hS,hl,fun _=>rfl⟩) fun _ _ _ _ _ z=>z
end K25
open PySem PySem.W PyProof.Rows
set_option maxRecDepth 100000 in
set_option maxHeartbeats 0 in
theorem PySem.Challenge.cw_sortlore_k25_rounds_of_orders_holds : PySem.Challenge.rw_sortlore_k25_rounds_of_orders.Holds := by
 w_on;o_law;k_head;(case hw=>w_witness2)
 k_fill
 refine K25.walk (l:=PySem.Challenge.rw_sortlore_k25_rounds_of_orders) rfl rfl (fun w h zy=>PySem.W.kIn_of zy) ?F
 case F=>
  intro w mg fa h KX G fH
  refine' K25.all_mk KX G fH ?i0 ?l0 ?c0 ?k0 ?i1 ?l1 ?c1 ?k1 ?i2 ?l2 ?c2 ?k2 ?d3 ?d4 ?d5 ?d6 ?d7 ?d8 ?d9 ?a10 ?l10 ?c10 ?k10 ?d11 ?d12 ?d13 ?d14 ?a15 ?l15 ?c15 ?k15 ?d16 ?a17 ?l17 ?c17 ?k17 ?a18 ?l18 ?c18 ?k18 ?d19 ?d20 ?a21 ?i21 ?l21 ?c21 ?k21 ?a22 ?i22 ?l22 ?c22 ?k22 ?a23 ?i23 ?l23 ?c23 ?k23 ?d24 ?d25 ?d26 ?d27 ?d28 ?d29 ?d30 ?d31 ?d32 ?d33 ?d34 ?a35 ?l35 ?c35 ?k35 ?aE_Clash ?lE_Clash ?t1_Clash ?t2_Clash ?t3_Clash ?t4_Clash ?sa_Clash ?ga_Clash ?gt_Clash ?cl_Clash ?bx_Clash ?ob_Clash ?kp_Clash ?nE_Clash ?aE_NoLetter ?lE_NoLetter ?t1_NoLetter ?t2_NoLetter ?t3_NoLetter ?t4_NoLetter ?sa_NoLetter ?ga_NoLetter ?gt_NoLetter ?cl_NoLetter ?bx_NoLetter ?ob_NoLetter ?kp_NoLetter ?nE_NoLetter ?aE_Round ?lE_Round ?t1_Round ?t2_Round ?t3_Round ?t4_Round ?sa_Round ?ga_Round ?gt_Round ?cl_Round ?bx_Round ?ob_Round ?kp_Round ?nE_Round ?eL ?eL1 ?eL2 ?eL3 ?ecn ?ect ?aD_LoreError ?D1_LoreError ?D2_LoreError ?D3_LoreError ?D4Clash_LoreError ?D4NoLetter_LoreError ?D4Round_LoreError ?aX_NoDeed ?X1Clash_NoDeed ?X1NoLetter_NoDeed ?X1Round_NoDeed ?aX_NoSign ?X1Clash_NoSign ?X1NoLetter_NoSign ?X1Round_NoSign ?aX_NoName ?X1Clash_NoName ?X1NoLetter_NoName ?X1Round_NoName ?aX_NoRule ?X1Clash_NoRule ?X1NoLetter_NoRule ?X1Round_NoRule ?aX_NotPlain ?X1Clash_NotPlain ?X1NoLetter_NotPlain ?X1Round_NotPlain ?aX_NoText ?X1Clash_NoText ?X1NoLetter_NoText ?X1Round_NoText ?aX_Ring ?X1Clash_Ring ?X1NoLetter_Ring ?X1Round_Ring ?aX_Twice ?X1Clash_Twice ?X1NoLetter_Twice ?X1Round_Twice ?aX_Clash ?X1Clash_Clash ?X1NoLetter_Clash ?X1Round_Clash ?aX_NoLetter ?X1Clash_NoLetter ?X1NoLetter_NoLetter ?X1Round_NoLetter ?aX_Round ?X1Clash_Round ?X1NoLetter_Round ?X1Round_Round ?Y1_ValueError ?Y1_ValueError_NoLetter ?Y1_ValueError_Round ?aC ?pgC ?hdC ?poC ?saC ?mkC ?kcC ?nC_figures ?nC_behind ?nC_jobs ?nC_letter_line ?nC_mark_line ?nC_made ?z_ValueError ?z_any ?z_dict ?z_enumerate ?z_isinstance ?z_len ?z_list ?z_min ?z_range ?z_set ?z_sorted ?z_tuple ?z_zip ?y_JOBS ?d_JOBS ?s_JOBS ?e_JOBS_0 ?e_JOBS_1 ?e_JOBS_2 ?e_JOBS_3 ?e_JOBS_4 ?y_AGAIN ?d_AGAIN ?y_MARK ?y_LETTER
  any_goals (refine' K25.df_mk ?da ?dl ?dc ?dk;(case da=>k_is);(case dl=>k_is);(case dc=>k_is);(case dk=>k_is))
  (case aE_Clash=>k_is)
  (case lE_Clash=>k_is)
  (case t4_Clash=>k_is)
  (case aE_NoLetter=>k_is)
  (case lE_NoLetter=>k_is)
  (case t4_NoLetter=>k_is)
  (case aE_Round=>k_is)
  (case lE_Round=>k_is)
  (case t4_Round=>k_is)
  (case aC=>k_is)
  (case i0=>k_is)
  (case l0=>k_is)
  (case c0=>k_is)
  (case k0=>k_is)
  (case i1=>k_is)
  (case l1=>k_is)
  (case c1=>k_is)
  (case k1=>k_is)
  (case i2=>k_is)
  (case l2=>k_is)
  (case c2=>k_is)
  (case k2=>k_is)
  (case a10=>k_is)
  (case l10=>k_is)
  (case c10=>k_is)
  (case k10=>k_is)
  (case a15=>k_is)
  (case l15=>k_is)
  (case c15=>k_is)
  (case k15=>k_is)
  (case a17=>k_is)
  (case l17=>k_is)
  (case c17=>k_is)
  (case k17=>k_is)
  (case a18=>k_is)
  (case l18=>k_is)
  (case c18=>k_is)
  (case k18=>k_is)
  (case a21=>k_is)
  (case i21=>k_is)
  (case l21=>k_is)
  (case c21=>k_is)
  (case k21=>k_is)
  (case a22=>k_is)
  (case i22=>k_is)
  (case l22=>k_is)
  (case c22=>k_is)
  (case k22=>k_is)
  (case a23=>k_is)
  (case i23=>k_is)
  (case l23=>k_is)
  (case c23=>k_is)
  (case k23=>k_is)
  (case a35=>k_is)
  (case l35=>k_is)
  (case c35=>k_is)
  (case k35=>k_is)
  (case t1_Clash=>refine' L2.tail_one ?nC ?nE ?nF;(case nC=>k_is);(case nF=>k_is);(case nE=>refine' L2.nsOk_of ?x6 ?x8;(case x6=>k_is);(case x8=>rfl)))
  (case t2_Clash=>rfl)
  (case t3_Clash=>refine' L2.nsOk_of ?x6 ?x8;(case x6=>k_is);(case x8=>rfl))
  (case sa_Clash=>k_is)
  (case ga_Clash=>k_is)
  (case gt_Clash=>k_is)
  (case cl_Clash=>k_is)
  (case bx_Clash=>k_is)
  (case ob_Clash=>k_is)
  (case kp_Clash=>k_is)
  (case nE_Clash=>k_is)
  (case t1_NoLetter=>refine' L2.tail_one ?nC ?nE ?nF;(case nC=>k_is);(case nF=>k_is);(case nE=>refine' L2.nsOk_of ?x6 ?x8;(case x6=>k_is);(case x8=>rfl)))
  (case t2_NoLetter=>rfl)
  (case t3_NoLetter=>refine' L2.nsOk_of ?x6 ?x8;(case x6=>k_is);(case x8=>rfl))
  (case sa_NoLetter=>k_is)
  (case ga_NoLetter=>k_is)
  (case gt_NoLetter=>k_is)
  (case cl_NoLetter=>k_is)
  (case bx_NoLetter=>k_is)
  (case ob_NoLetter=>k_is)
  (case kp_NoLetter=>k_is)
  (case nE_NoLetter=>k_is)
  (case t1_Round=>refine' L2.tail_one ?nC ?nE ?nF;(case nC=>k_is);(case nF=>k_is);(case nE=>refine' L2.nsOk_of ?x6 ?x8;(case x6=>k_is);(case x8=>rfl)))
  (case t2_Round=>rfl)
  (case t3_Round=>refine' L2.nsOk_of ?x6 ?x8;(case x6=>k_is);(case x8=>rfl))
  (case sa_Round=>k_is)
  (case ga_Round=>k_is)
  (case gt_Round=>k_is)
  (case cl_Round=>k_is)
  (case bx_Round=>k_is)
  (case ob_Round=>k_is)
  (case kp_Round=>k_is)
  (case nE_Round=>k_is)
  (case eL=>k_is)
  (case eL1=>k_is)
  (case eL2=>k_is)
  (case eL3=>k_is)
  (case ecn=>k_is)
  (case ect=>k_is)
  (case aD_LoreError=>k_is)
  (case D1_LoreError=>k_is)
  (case D2_LoreError=>k_is)
  (case D3_LoreError=>k_is)
  (case D4Clash_LoreError=>k_is)
  (case D4NoLetter_LoreError=>k_is)
  (case D4Round_LoreError=>k_is)
  (case aX_NoDeed=>k_is)
  (case X1Clash_NoDeed=>kit_is)
  (case X1NoLetter_NoDeed=>kit_is)
  (case X1Round_NoDeed=>kit_is)
  (case aX_NoSign=>k_is)
  (case X1Clash_NoSign=>kit_is)
  (case X1NoLetter_NoSign=>kit_is)
  (case X1Round_NoSign=>kit_is)
  (case aX_NoName=>k_is)
  (case X1Clash_NoName=>kit_is)
  (case X1NoLetter_NoName=>kit_is)
  (case X1Round_NoName=>kit_is)
  (case aX_NoRule=>k_is)
  (case X1Clash_NoRule=>kit_is)
  (case X1NoLetter_NoRule=>kit_is)
  (case X1Round_NoRule=>kit_is)
  (case aX_NotPlain=>k_is)
  (case X1Clash_NotPlain=>kit_is)
  (case X1NoLetter_NotPlain=>kit_is)
  (case X1Round_NotPlain=>kit_is)
  (case aX_NoText=>k_is)
  (case X1Clash_NoText=>kit_is)
  (case X1NoLetter_NoText=>kit_is)
  (case X1Round_NoText=>kit_is)
  (case aX_Ring=>k_is)
  (case X1Clash_Ring=>kit_is)
  (case X1NoLetter_Ring=>kit_is)
  (case X1Round_Ring=>kit_is)
  (case aX_Twice=>k_is)
  (case X1Clash_Twice=>kit_is)
  (case X1NoLetter_Twice=>kit_is)
  (case X1Round_Twice=>kit_is)
  (case aX_Clash=>k_is)
  (case X1Clash_Clash=>kit_is)
  (case X1NoLetter_Clash=>kit_is)
  (case X1Round_Clash=>kit_is)
  (case aX_NoLetter=>k_is)
  (case X1Clash_NoLetter=>kit_is)
  (case X1NoLetter_NoLetter=>kit_is)
  (case X1Round_NoLetter=>kit_is)
  (case aX_Round=>k_is)
  (case X1Clash_Round=>kit_is)
  (case X1NoLetter_Round=>kit_is)
  (case X1Round_Round=>kit_is)
  (case Y1_ValueError=>kit_is)
  (case Y1_ValueError_NoLetter=>kit_is)
  (case Y1_ValueError_Round=>kit_is)
  (case pgC=>k_is)
  (case hdC=>k_is)
  (case poC=>k_is)
  (case saC=>k_is)
  (case mkC=>k_is)
  (case kcC=>k_is)
  (case nC_figures=>k_is)
  (case nC_behind=>k_is)
  (case nC_jobs=>k_is)
  (case nC_letter_line=>k_is)
  (case nC_mark_line=>k_is)
  (case nC_made=>k_is)
  (case z_ValueError=>k_is)
  (case z_any=>k_is)
  (case z_dict=>k_is)
  (case z_enumerate=>k_is)
  (case z_isinstance=>k_is)
  (case z_len=>k_is)
  (case z_list=>k_is)
  (case z_min=>k_is)
  (case z_range=>k_is)
  (case z_set=>k_is)
  (case z_sorted=>k_is)
  (case z_tuple=>k_is)
  (case z_zip=>k_is)
  (case y_JOBS=>k_is)
  (case d_JOBS=>k_is)
  (case s_JOBS=>rfl)
  (case e_JOBS_0=>rfl)
  (case e_JOBS_1=>rfl)
  (case e_JOBS_2=>rfl)
  (case e_JOBS_3=>rfl)
  (case e_JOBS_4=>rfl)
  (case y_AGAIN=>k_is)
  (case d_AGAIN=>k_is)
  (case y_MARK=>k_is)
  (case y_LETTER=>k_is)
