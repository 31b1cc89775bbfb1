import PyProof.Rows.All
import Wide.All
import OpenK.AllK
import Wide.FinOn
import Lean
import PyProof.EqAt
import PyProof.EqKinds
import PyProof.TupleCall
import PySem.Challenge.RW_sortlore_k63_whole_found
set_option compiler.extract_closed false
open List renaming length_map → A6, length_append → C1, getElem?_eq_some_iff → I0, getElem?_eq_getElem → G5, map_append → D8, mem_append → E4, mem_singleton → G2, length_take → E9, mem_map → E2, mem_of_getElem? → L6, mem_cons_of_mem → M6, mem_cons → F6, append_nil → G7, take_length → K9, length_cons → L1, length_singleton → O4, map_cons → G1, mem_cons_self → O0, size_toArray → N5, getElem?_map → O7, mem_append_left → T8, append_assoc → Q1, take_append_drop → V0, mem_append_right → V1, mem_filter → Q2, take_of_length_le → Z2, length_drop → U3, mem_iff_getElem → Z3, filter_append → Y1, flatMap_append → Z4, nodup_cons → V8, length_eq_zero_iff → q9, drop_eq_getElem_cons → aD, filter_cons_of_pos → aE, map_drop → W7, length_nil → Z5, replicate → Y2, nodup_iff_pairwise_ne → dN, getD_eq_getElem?_getD → dO, filter_cons_of_neg → bR, mem_flatMap → j9, take_zero → Z6, getElem?_append_left → dQ, take_add_one → r0, flatMap_cons → r8, getElem?_append_right → fW, pairwise_iff_getElem → fX, map_map → Z7, foldl_append → aF, filter_eq_nil_iff → fY, nodup_append → bS, length → Z8, length_filter_le → fZ, find?_cons → aG, idxOf_lt_length_iff → jH, map_take → s0, zipWith → o0, nil_append → bT, filterMap_cons → gB, drop_eq_nil_of_le → jI, countP_cons → dR, mem_of_mem_take → jJ, flatten_cons → gC, replicate_succ → jK, map_congr_left → jL, any_cons → bU, cons_append → gD, mem_range → dS, drop_of_length_le → mJ, mem_filterMap → jM, range' → aH, map_nil → bV, cons → k4, takeWhile_cons_of_pos → qZ, mem_of_mem_drop → mK, mem_take_iff_getElem → rA, flatten_append → mL, filter_eq_self → mM, drop_succ_cons → mN, range → aI, getElem?_take_of_lt → rB, getElem_idxOf → mO, filter_nil → jN, lookup → dU, filter_congr → mP, not_mem_nil → mQ, flatMap_nil → mR, any_eq_true → mS
open Nat renaming le_refl → B3, le_trans → F8, zero_le → F9, lt_of_lt_of_le → Q9, ne_of_lt → O8, le_add_right → bW, min_eq_left → bX, lt_irrefl → aJ, min_le_left → dW, add_sub_cancel_left → mT, lt_of_le_of_lt → jO, le_of_lt → gE
open Bool renaming false_ne_true → N6, and_eq_true → U4, eq_iff_iff → aK, false_xor → gF, false_and → jP, not_eq_true → mU
open PySem.F renaming plainAttrs_list → R4, type_list_append → V2, slot_list_append → V3, slot_dict_get → jQ, entry_dict_get → rC
open PySem.W renaming findIn → R5, nsIn → R0, keepIn → W8, fnOf → V4, mg_none_of → o3, codeIn → Y3, mg_of → f8, kia_one → t5, emptyDict → bY, instObj → dX, isFn → bZ, binds_K → jR, plainGet → mV
open PySem.PyData renaming eqvAll → R6, depthAll → V9, eqv → O9, depth → U5, strOk → W9, int → f9
open Int renaming emod_lt_of_pos → t6, emod_nonneg → k5, zero_add → t7
open Array renaming length_toList → gG
open PySem.NumText renaming digitsVal → mW
set_option Elab.async false
set_option linter.all false
set_option maxRecDepth 100000
set_option hygiene false
local macro_rules
|`('a')=>`((by lia))
|`('b')=>`((model X.prog X.w))
|`('c')=>`((by decide +kernel))
local macro_rules
|`(tactic|sleep 0)=>`(tactic|intro pins s Y H x y v u Q I rx ry h)
|`(tactic|sleep 1)=>`(tactic|obtain ⟨f0,f1,f2,f3,f4,f5⟩:=hf it (by simp))
noncomputable section
set_option genInjectivity false in
set_option genSizeOf false in
structure PySem.W.Fast where (tw15521219198227360139 tw470513710607417628 tw1871372084587827639 tw12162491174848684576 tw2214556847175705668 tw17599139177782394798 tw11576019849678932008 tw1305771519631523973 tw18398188581705292020 tw14238656430686940227 tw4886240889634749704 tw7676388026670124471 tw17935358024679840365 tw892988380053193888 tw12776469130836287005 tw8836271687639981427 tw16049988235381918176 tw3816489924127832722 tw14713109521928102234 tw5736851284655698499 tw17596813394851032257 tw16473913991951145733 tw4481694375035662740 tw6743101377040340934 tw7400579834650170326 tw9315365010128827628 tw8685094394917447861 tw9534170250766953383 tw8017915395851227186 tw15566051983158922573 tw7128782116435349699 tw15557190299124223577 tw5692332920140146958 tw16951631418511778720 tw12631383409764497347 tw17006132272581687004 tw15824864601868207169 tw3946678188582683027 tw6772900046982304782
tw10631957465747878536 tw7559490091797261145 tw11217023208311620404 tw4470472881856820109 tw7972717281884940277 tw16597636560393221635 tw1998403010197009052 tw8522144415434630108 tw2040708550327790270 tw4572862143093993236 tw6183900025030705885 tw8134975054982550659 tw4057050799333170737 tw11023100195651945197 tw15822282480820837908 tw12939135829739689744 tw17608261300916911401 tw13331383135864461702 tw12116011003897011708 tw12610842641928632107 tw13153144127807019938 tw15278519093448740611 tw12526003653416840688 tw15906122025524591948 tw16582124366156073621 tw12429867121653110743 tw12072601485649139372 tw16968038809081602686 tw14994653895457565595 tw4009277869303924 tw9082023818177281828 tw14566168228594683984 tw9953338374199400439 tw14104534887682824550 tw11312288831882210056 tw17154085244770319037 tw16181336758936551900 tw10401156635294332181 tw18324466673683095245 tw7512717698061284051
tw15759467430716435629 tw10499987385757006840 tw13981774550113254851 tw358936064404406941 tw13459636723263713682 tw18423139053080446046 tw4156349327456902613 tw7867190602418359591 tw18059828064162941552 tw17067776842094093126 tw14412374170974318301 tw8136234995844975056 tw2388292385643662677 tw5940368234595015390 tw1696967792553102626 tw3413555324349741714 tw5869395786374902909 tw16968440575577152303 tw2482573403877455304 tw6650525132579806799 tw18308730551996308343 tw9313813869774323792 tw10604740273274398248 tw3172111125893166840 tw16145276547650792044 tw16551034794125657048 tw4596489213133051477 tw7898819597907675493 tw10440891408588461528 tw4274675101747129885 tw14554489505733503538 tw3528386170308241950 tw4841559534384561421 tw13599430760331425713 tw15522404101254148462 tw10299149115032510157 tw9113406434475796904 tw14395660052046759132 tw10387896096253681043 tw6244449285000982190
tw1391609671661836657 tw6913104289504308218 tw11519562202835614501 tw1018232695187586587 tw10043524156330111489 tw7492440857979167319 tw12934279722072107170 tw13720206027690542259 tw7622682746927742278 tw15849572729013761323 tw9020773061342267375 tw8147109578617636259 tw3615650877514674073 tw1858363933009015376 tw10686133974495686155 tw12959304530302223465 tw13131273524635308898 tw6674420976919660166 tw13599263521507018882 tw10393389904340555961 tw7661161457680157577 tw4941188623696580556 tw15509069177292022026 tw16334981467115517513 tw17866622618097017468 tw890070872199094803 tw1592722518195555551 tw11402710171747960286 tw12479994742905931358 tw15027517717722799899 tw11198815195602488960 tw12353249323991059471 tw9434414887470006931 tw15735477158354730648 tw16658374738189878571 tw14664412551753043048 tw4999353377247851305 tw11992854039655033773 tw13286419885875180073 tw9585329038901835391
tw8992327431994202503 tw13447255036962951486 tw8106882213300786694 tw1644270273426739070 tw4383437758922998011 tw5644982728640045892 tw1776984108816610557 tw4083730295558738304 tw6638236912336918401 tw10234891662135260135 tw12486745475722342355 tw5078151177096753090 tw5422609153984999434 tw10945439836737869275 tw11558035465757299237 tw680638101385968051 tw890658298002392855 tw6328696263898399866 tw11870690663355025277 tw10416775507811231386 tw1138408240047936660 tw15756807790760886826 tw17672479525718770249 tw3975299108886381039 tw11174212916907955991 tw13646146634655080624 tw13738221900927691856 tw17120672287386541886 tw3544808419152696900 tw6907669236954363887 tw14199904080522538470 tw35427948509316943 tw9229316656161943454 tw17527564774799205209 tw1288921732783692597 tw9424156861491113045 tw7579487421234094498 tw5870578264719683404 tw3094515106450260375 tw3203198320457626119
tw10395294327914793300 tw1261384980557701804 tw12097329463719567932 tw4283635792663105890 tw18272227597655838901 tw5589508258050796730 tw6549634309599164406 tw12559942788578405196 tw3247834889978212246 tw15274222359032237662 tw4502438325683120168 tw13739938749024572693 tw14225418089096832675 tw7934381355376465513 tw2206148286728503221 tw8510416840543950610 tw1027718677180345566 tw10863922823121046677 tw2306557958179254070 tw16541705279094178090 tw7232232163531971546 tw7123285902272556853 tw11366068112044562054 tw17295835035291196791 tw1028263420453888026 tw144104379081964076 tw5036845638932455252 tw10709448164555154176 tw3914950898532234122 tw4590749830213083964 tw17795622083545266839 tw17538677682788127996 tw18035076012691012391 tw10468009556444248085 tw8518907290778395263 tw401871398093560867 tw1634029622532488604 tw6249672106217931504 tw17031547288897083337 tw2190127176343500163
tw489829734373272580 tw10472477291428666659 tw6546927731547091079 tw5638729954344005385 tw12710929919245707892 tw16809987883401069632 tw14743224432090555086 tw14777172529841607873 tw17828718293439133355 tw10964605052372047132 tw5358820588891364949 tw4967919621696826719 tw18322153062958710539 tw7182298893847304034 tw4197025218367916682 tw12918637133270766799 tw2771192328518316176 tw11317184411150155081 tw4406345990970971430 tw16203959383542487214 tw10050430028306322328 tw6969255941780010316 tw13366038063731158173 tw4510318814368087733 tw7159082077253815221 tw10463032682033371247 tw3335381968347520107 tw7117511859253408939 tw3059788625213026901 tw12344024495271100929 tw16198624415466772859 tw14490508525010109152 tw12866106228902084606 tw16027482936695546060 tw17039828973678337620 tw14290090391646096372 tw13690272987694188483 tw935309431741135524 tw18171122580099485699 tw9447954555772931263
tw3565700727958884196 tw2046582473140942754 tw5790525089187149581 tw12896314462517125142 tw17058326674088178096 tw2112426264426396233 tw11314133379780228231 tw2174852090546365332 tw11621957200673017246 tw10267357488508524617 tw10552225388566239143 tw11941045817010357857 tw4427323784276239968 tw14906016470833220000 tw10475125102286866437 tw4691216908984889036 tw144584580924836343 tw4176850304070891822 tw1566962657574561667 tw10011773103365913628 tw14412455236184797444 tw16412047434730038217 tw10559123307178360343 tw9800751823333649028 tw13905630301484232516 tw5991095707025236291 tw6472966188332785958 tw2957345970304055567 tw14318973741736050823 tw3691056346311082333 tw16043384902661691237 tw17157665252606050140 tw9663500792114159253 tw10286294168775204310 tw5809143950324221124 tw6336756172226419417 tw6204596228466703979 tw17826631216445825428 tw4163179443248455656 tw12715992379167956150
tw18192024551920035635 tw13519518233263262661 tw1869916706172644542 tw889859149285315789 tw3758892766098333707 tw15870288173987005836 tw2275396209451822156 tw12630880463720415229 tw18275245019237974004 tw8396411980005558426 tw9637953281280014953 tw17719599814015133175 tw7126169339653346426 tw2138877801740020716 tw4907412874749234145 tw3730236324079111711 tw11003025732947706475 tw5607032136670365320 tw67941210682283192 tw14322601232050020965 tw12068631030707377529 tw15125414148787040737 tw11123075240865529395 tw1926064766718174750 tw17817380146499914563 tw17028751252129756152 tw11298819722215145873 tw15899339439761015994 tw4183787275555927700 tw3588379701443417033 tw8795806870150359995 tw4448033062819689347 tw7455510356239527345 tw701288417436859876 tw10120205811259577184 tw509592226886649602 tw7532928963718470866 tw5461725299444100151 tw11253863440412851501 tw9844582817175416691
tw11207659638097192617 tw12309826443766527680 tw1530125027360922349 tw10184054773177586549 tw8607569981558982938 tw18410174258873809694 tw1235269815055387023 tw4068448342862810258 tw6614046426682586285 tw7396100074245696971 tw12940324850777081717 tw17472703491124196909 tw18110930814319932096 tw5132168320719709948 tw14134917432528897416 tw3180769581057910069 tw463964792599430573 tw9558243170028478397 tw8353974385713086917 tw17762373242043011874 tw16495923998904376758 tw10788210290434844533 tw12545538377212222632 tw15875944119740310727 tw285747667265400480 tw8417451144621692120 tw902344223012490002 tw15942736933624198194 tw302003022657348402 tw10400401015051497603 tw15166995774453404597 tw13231351180000493913 tw17636219910146042609 tw13530102062561062709 tw13750808726715774033 tw749572313272034615 tw4016921450734492992 tw15022466653020655350 tw15150452570145321334 tw10951283467889430914
tw15988100631093282276 tw6371491812697478596 tw5945501075198358930 tw16162605896226820083 tw11657330752160523973 tw2118096872871145106 tw7029812112496224270 tw1821560043217991034 tw16027195026448479678 tw18407239160803620937 tw7535072548308878208 tw14610320538796480786 tw11014417596255701189 tw6860764618682813820 tw17731587051936757649 tw9766180813510137067 tw3579278757694363032 tw3146324970635604421 tw15633055836347624894 tw9164208042888485715 tw11379595902998704294 tw10534229686903384251 tw10983225786647084447 tw3638169349316743664 tw16124005211343682416 tw18044030422284232528 tw9109570020566259416 tw12269623537861001144 tw11985974610034086501 tw4334032711431005900 tw6279647582258451423 tw11921335639412129845 tw8726435249606553149 tw18166072707177784526 tw10793187308926535121 tw15410746319617447355 tw16115961575380589210 tw7003617770644139216 tw15611900081720234042 tw7102184725841244181
tw13143429239360451067 tw10908720434649442862 tw930031902651437356 tw8130273041215601629 tw12008806240323305223 tw10246483428661249856 tw15945850569970333668 tw4391628074701151424 tw11675580612880113136 tw18383209411606012962 tw6894107024555272950 tw15347625895254206556 tw9639984666343733410 tw16442286106638795952 tw6635371072283054717 tw15146244165385096384 tw2530555859847933116 tw6887817936269895551 tw7081297789020250830 tw13314518613278509413 tw7906144753516967456 tw3926213282667265325 tw7477170375907476068 tw13731529118980904596 tw878038468726102998 tw12655470154340393774 tw10575439749692700545 tw9601895729898382752 tw10626091634543807636 tw15757571046808498971 tw10955048886397654451 tw15489385841201368233 tw10677887752986913773 tw18085115562868858408 tw11479300762881325085 tw9069032641226123566 tw17030056131479901226 tw16253422537084337250 tw11021141935290463051 tw10329715159491027588
tw8129692996538435546 tw14263807022130938017 tw4434294204658793819 tw5783701661307571618 tw8879563107346849715 tw8403670426642219697 tw6124897231014634147 tw1301937825014975485 tw10070590288483592224 tw2454947446591491416 tw2563265254029273445 tw9437129992102305642 tw17616991160324177823 tw7797355499079422537 tw6706914787059110583 tw8139786584244113619 tw7729369809937606019 tw12907744041194960303 tw15351504412472020460 tw4042811909630042262 tw11457459576201219695 tw12667415684901389037 tw10328244367345838302 tw1921087296129230601 tw9028963625905879184 tw4332604720147591908 tw17680184357731947485 tw1393639860878456416 tw13503851393164970788 tw18070378099256831278 tw11554699894242590691 tw11979523770150710809 tw8637166528311126936 tw10262411910729394681 tw1112942689704975526 tw4911018377791227237 tw18317168059989778752 tw3058014046500019397:Nat)
namespace L2
open PySem PySem.Spec PyProof.Rows
noncomputable abbrev C5:=Sum Int Str
noncomputable def keyIs:C5->Value->Bool
 | .inl k,v=>Value.isInt k v
 | .inr x,v=>Value.isStrOf x v
noncomputable def keyH (w:World):C5->Int
 | .inl k=>hashInt k
 | .inr x=>hashStr w x
theorem t8:∀ {k:C5} {v:Value},keyIs k v=true->(∃ i t,k=Sum.inl i/\v=Value.int i t)\/(∃ x t,k=Sum.inr x/\v=Value.str x t)
 | .inl i,v,h=>by
  obtain ⟨t,e⟩:=Value.isInt_shape (k:=i) (v:=v) h;exact .inl ⟨i,t,rfl,e⟩
 | .inr x,v,h=>by
  obtain ⟨t,e⟩:=Value.isStrOf_shape (x:=x) (v:=v) h;exact .inr ⟨x,t,rfl,e⟩
theorem ajS(i:Int)(t:Tok):keyIs (.inl i) (.int i t)=true:=by simp [keyIs,Value.isInt]
theorem jS(x:Str)(t:Tok):keyIs (.inr x) (.str x t)=true:=by simp [keyIs,Value.isStrOf]
theorem aqg(a b:Int):decide ((Sum.inl a:C5)=Sum.inl b)=(a==b):=by
 by_cases e:a=b
 .subst e;simp
 .have h:¬ (Sum.inl a:C5)=Sum.inl b:=fun q=>e (Sum.inl.inj q)
  rw [decide_eq_false h];exact (beq_eq_false_iff_ne.mpr e).symm
theorem aqh(a b:Str):decide ((Sum.inr a:C5)=Sum.inr b)=decide (a=b):=by
 by_cases e:a=b
 .subst e;simp
 .have h:¬ (Sum.inr a:C5)=Sum.inr b:=fun q=>e (Sum.inr.inj q)
  rw [decide_eq_false h,decide_eq_false e]
theorem aqi(a:Int)(b:Str):decide ((Sum.inl a:C5)=Sum.inr b)=false:=decide_eq_false (fun q=>nomatch q)
theorem aqj(a:Str)(b:Int):decide ((Sum.inr a:C5)=Sum.inl b)=false:=decide_eq_false (fun q=>nomatch q)
noncomputable def Q3 (prog:Program) (w:World):PySem.KeyKind prog w C5 where
 is:=keyIs
 hash:=keyH w
 inj:=fun v a b ha hb=>by
  rcases t8 ha with ⟨i,t,rfl,rfl⟩ | ⟨x,t,rfl,rfl⟩
  .rcases t8 hb with ⟨j,u,rfl,e⟩ | ⟨y,u,rfl,e⟩
   .injection e with e1 _;rw [e1]
   .exact nomatch e
  .rcases t8 hb with ⟨j,u,rfl,e⟩ | ⟨y,u,rfl,e⟩
   .exact nomatch e
   .injection e with e1 _;rw [e1]
 byValue:=fun k v h=>by
  rcases t8 h with ⟨i,t,rfl,rfl⟩ | ⟨x,t,rfl,rfl⟩ <;> rfl
 pyHash:=fun hv h=>by
  rcases t8 hv with ⟨i,t,rfl,rfl⟩ | ⟨x,t,rfl,rfl⟩
  .exact wpAny_pyHash_int h
  .exact wpAny_pyHash_str h
 eqBool:=fun hu hv h=>by
  rcases t8 hu with ⟨i,t,rfl,rfl⟩ | ⟨x,t,rfl,rfl⟩
  .rcases t8 hv with ⟨j,u,rfl,rfl⟩ | ⟨y,u,rfl,rfl⟩
   .rw [aqg] at h;exact wpAny_eqBool_int h
   .rw [aqi] at h;exact SeqAt.EqAt.int_str i t y u _ _ _ _ h
  .rcases t8 hv with ⟨j,u,rfl,rfl⟩ | ⟨y,u,rfl,rfl⟩
   .rw [aqj] at h;exact SeqAt.EqAt.str_int x t j u _ _ _ _ h
   .rw [aqh] at h;exact wpAny_eqBool_str h
 «strs»:=fun k x t v h=>by
  rcases t8 h with ⟨i,u,rfl,e⟩ | ⟨y,u,rfl,e⟩
  .exact nomatch e
  .injection e with e1 _
   subst e1
   cases v <;> rfl
theorem aht(prog:Program)(w:World)(i:Int)(t:Tok):(Q3 prog w).is (.inl i) (.int i t)=true:=ajS i t
theorem ahu(prog:Program)(w:World)(x:Str)(t:Tok):(Q3 prog w).is (.inr x) (.str x t)=true:=jS x t
inductive V where
 | non | bl (b:Bool) | int (i:Int) | str (x:Str) | byt (b:Array UInt8) | flt (b:UInt64) | ref (a:Addr) | ty (n:String)
 deriving DecidableEq
noncomputable def RelV:V->Value->Prop
 | .non,u=>u=Value.none
 | .bl b,u=>u=Value.bool b
 | .int i,u=>∃ t,u=Value.int i t
 | .str x,u=>∃ t,u=Value.str x t
 | .byt b,u=>∃ t,u=Value.bytes b t
 | .flt b,u=>∃ t,u=Value.float b t
 | .ref a,u=>u=Value.ref a
 | .ty n,u=>u=Value.type n
noncomputable abbrev Vals:List V->List Value->Prop:=Paired RelV
theorem Vals.length{xs:List V}{us:List Value}(r:Vals xs us):xs.length=us.length:=Paired.length r
theorem Vals.get:∀ {xs:List V} {us:List Value} {i:Nat} {x:V},Vals xs us->xs[i]?=some x->∃ u,us[i]?=some u/\RelV x u
 | _,_,_,_,.nil,e=>by simp at e
 | _,_,0,_,.cons r _,e=>by simp at e;subst e;exact ⟨_,rfl,r⟩
 | _,_,i+1,x,.cons _ t,e=>by
  obtain ⟨u,h1,h2⟩:=Vals.get (i:=i) (x:=x) t (by simpa using e);exact ⟨u,by simpa using h1,h2⟩
theorem Vals.set{x:V}{u:Value}(r:RelV x u):∀ {xs:List V} {us:List Value} (i:Nat),Vals xs us->Vals (xs.set i x) (us.set i u)
 | _,_,_,.nil=>.nil
 | _,_,0,.cons _ t=>.cons r t
 | _,_,i+1,.cons q t=>.cons q (Vals.set r i t)
theorem Vals.append:∀ {xs ys:List V} {us ws:List Value},Vals xs us->Vals ys ws->Vals (xs++ys) (us++ws)
 | _,_,_,_,.nil,s=>s
 | _,_,_,_,.cons r t,s=>.cons r (Vals.append t s)
theorem Vals.take:∀ {xs:List V} {us:List Value} (n:Nat),Vals xs us->Vals (xs.take n) (us.take n)
 | _,_,0,_=>.nil
 | _,_,_+1,.nil=>.nil
 | _,_,n+1,.cons r t=>.cons r (Vals.take n t)
theorem Vals.drop:∀ {xs:List V} {us:List Value} (n:Nat),Vals xs us->Vals (xs.drop n) (us.drop n)
 | _,_,0,r=>r
 | _,_,_+1,.nil=>.nil
 | _,_,n+1,.cons _ t=>Vals.drop n t
theorem Vals.none_of:∀ {xs:List V} {us:List Value} {i:Nat},Vals xs us->xs[i]?=none->us[i]?=none:=fun {xs us i} r e=>by
 have h1:=r.length;have h2:xs.length<=i:=List.getElem?_eq_none_iff.mp e;exact List.getElem?_eq_none_iff.mpr 'a'
noncomputable def RelO:Option V->Option Value->Prop
 | some v,some u=>RelV v u
 | none,none=>True
 | _,_=>False
noncomputable def KV {κ:Type} : List (κ×V)->List (κ×Value)->Prop:=Paired fun (p:κ×V) (q:κ×Value)=>p.1=q.1/\RelV p.2 q.2
noncomputable def kV:C5->V
 | .inl i=>.int i
 | .inr x=>.str x
inductive HO where
 | lst (xs:List V)
 | tup (xs:List V)
 | dK (kvs:List (C5×V)) | dT (kvs:List (List C5×V))
 | set (S:Int->Bool) (n:Nat)
 | ins (C dx:Addr) (fs:List (Str×V))
 | own (x:Addr)
 | xd (fs:List (Str×V))
 | met (f x:Addr)
 | rng (lo hi:Int)
 | frz (o:Obj) (u:HO)
 | tbl (ps:Array Value)
 | ext (φ:Heap->Prop)
noncomputable abbrev Hp:=Addr->Option HO
noncomputable def A0 (H:Hp) (a:Addr) (o:HO):Hp:=fun b=>if b=a then some o else H b
theorem A5{H:Hp}{a:Addr}{o:HO} : A0 H a o a=some o:=by unfold A0;rw [if_pos rfl]
theorem A9{H:Hp}{a b:Addr}{o:HO}(h:b≠a):A0 H a o b=H b:=by unfold A0;rw [if_neg h]
theorem ne_of{H:Hp}{a b:Addr}{o u:HO}(h:H a=some o)(h':H b=some u)(d:o≠u):a≠b:=by
 intro e;subst e;rw [h] at h';exact d (Option.some.inj h')
theorem cA{H:Hp}{a b:Addr}{o:HO}(h:H a=some o)(h':H b=none):a≠b:=by
 intro e;subst e;rw [h] at h';cases h'
section
variable (P:Program) (w:World)
noncomputable def ObjOk (H:Hp) (h:Heap) (a:Addr):HO->Prop
 | .lst xs=>xs.length<=sizeLine/\∃ (its:List Value) (n:Nat),Vals xs its/\h.get? a=some { cls:=.type "list",data:=.seq its.toArray n }
 | .tup xs=>xs.length<=sizeLine/\∃ its:List Value,Vals xs its/\IsTup h a its.toArray
 | .dK kvs=>kvs.length<=sizeLine/\(a==sysModules)=false/\∃ vs,KV kvs vs/\h.DictOf (Q3 P w) a vs
 | .dT kvs=>kvs.length<=sizeLine/\(a==sysModules)=false/\∃ xs:List (List C5×Addr×Value),
   Paired (fun (p:List C5×V) (q:List C5×Addr×Value)=>p.1=q.1/\H q.2.1=some (.tup (p.1.map kV))/\RelV p.2 q.2.2) kvs xs/\
   ∃ o es ep,h.get? a=some o/\o.ExactDict/\o.data=.dict es ep/\es.toList=xs.map (entryOfKey (tupleKind (Q3 P w)))/\(xs.map (·.1)).Nodup
 | .set S n=>h.SetOf (intKind P w) a S n
 | .ins C dx fs=>H dx=some (.own a)/\fs.length<=1000/\dx≠a/\h.get? a=some (dX C dx)/\
   ∃ mA,h.Ns1 dx mA/\(∀ f,RelO (fs.lookup f) (mA f))/\PySem.Within mA (fs.map (·.1))
 | .own _=>∃ o,h.get? a=some o
 | .xd fs=>∃ mA,h.Ns1 a mA/\∀ f,RelO (fs.lookup f) (mA f)
 | .rng lo hi=>∃ t u v,h.get? a=some { cls:=.type "range",data:=.fields #[.int lo t,.int hi u,.int 1 v] }
 | .frz o u=>h.get? a=some o/\ObjOk H h a u
 | .tbl ps=>h.get? a=some { cls:=.none,data:=.fields ps }
 | .met f x=>h.get? a=some (PySem.W.methodObj (.ref f) (.ref x))
 | .ext φ=>φ h/\(∃ o,h.get? a=some o)/\∀ h1 h2:Heap,φ h1->(∀ o,h1.get? a=some o->h2.get? a=some o)->φ h2
noncomputable def O5 (H:Hp) (h:Heap):Prop:=∀ a o,H a=some o->ObjOk P w H h a o
end
section
variable {P:Program} {w:World} {H H':Hp} {h h':Heap} {a:Addr} {o:HO}
theorem ObjOk.lt(x:ObjOk P w H h a o):a<h.objs.size:=by
 cases o with
 | lst xs=>obtain ⟨_,_,_,_,e⟩:=x;exact Heap.lt_size e
 | tup xs=>obtain ⟨_,_,_,p⟩:=x;exact p.lt
 | dK kvs=>obtain ⟨_,_,_,_,o,_,_,e,_⟩:=x;exact Heap.lt_size e
 | dT kvs=>obtain ⟨_,_,_,_,o,_,_,e,_⟩:=x;exact Heap.lt_size e
 | set S n=>obtain ⟨o,_,_,_,e,_⟩:=x;exact Heap.lt_size e
 | ins C dx fs=>obtain ⟨_,_,_,e,_⟩:=x;exact Heap.lt_size e
 | own y=>obtain ⟨_,e⟩:=x;exact Heap.lt_size e
 | xd fs=>obtain ⟨_,⟨_,_,_,e,_⟩,_⟩:=x;exact Heap.lt_size e
 | rng lo hi=>obtain ⟨_,_,_,e⟩:=x;exact Heap.lt_size e
 | frz ob u=>obtain ⟨e,_⟩:=x;exact Heap.lt_size e
 | tbl ps=>exact Heap.lt_size (show h.get? a=some _ from x)
 | met f y=>exact Heap.lt_size (show h.get? a=some _ from x)
 | ext φ=>obtain ⟨_,⟨_,e⟩,_⟩:=x;exact Heap.lt_size e
theorem L0{α β:Type}{F G:α->β->Prop} : ∀ {l₁:List α} {l₂:List β},Paired F l₁ l₂->(∀ a b,F a b->G a b)->Paired G l₁ l₂
 | _,_,.nil,_=>.nil
 | _,_,.cons r t,f=>.cons (f _ _ r) (L0 t f)
theorem ObjOk.stay(x:ObjOk P w H h a o)(k:∀ b u,(b=a\/H b=some (.own a))->h.get? b=some u->h'.get? b=some u)(ho:∀ b,H b=some (.own a)->H' b=some (.own a))(ht:∀ b xs,H b=some (.tup xs)->H' b=some (.tup xs)):ObjOk P w H' h' a o:=by
 induction o with
 | lst xs=>obtain ⟨z,its,n,r,e⟩:=x;exact ⟨z,its,n,r,k _ _ (.inl rfl) e⟩
 | tup xs=>obtain ⟨z,its,r,ob,e,c⟩:=x;exact ⟨z,its,r,ob,k _ _ (.inl rfl) e,c⟩
 | dK kvs=>obtain ⟨z,y,vs,r,ob,es,ep,e,c⟩:=x;exact ⟨z,y,vs,r,ob,es,ep,k _ _ (.inl rfl) e,c⟩
 | dT kvs=>
  obtain ⟨z,y,xs,r,ob,es,ep,e,c⟩:=x;exact ⟨z,y,xs,L0 r fun p q z=>⟨z.1,ht _ _ z.2.1,z.2.2⟩,ob,es,ep,k _ _ (.inl rfl) e,c⟩
 | set S n=>obtain ⟨ob,es,ep,t,e,c⟩:=x;exact ⟨ob,es,ep,t,k _ _ (.inl rfl) e,c⟩
 | ins C dx fs=>
  obtain ⟨d,z,ne,e,mA,⟨od,es,ep,e2,c⟩,r⟩:=x;exact ⟨ho _ d,z,ne,k _ _ (.inl rfl) e,mA,⟨od,es,ep,k _ _ (.inr d) e2,c⟩,r⟩
 | own y=>obtain ⟨ob,e⟩:=x;exact ⟨ob,k _ _ (.inl rfl) e⟩
 | xd fs=>obtain ⟨mA,⟨od,es,ep,e,c⟩,r⟩:=x;exact ⟨mA,⟨od,es,ep,k _ _ (.inl rfl) e,c⟩,r⟩
 | rng lo hi=>obtain ⟨t,u,v,e⟩:=x;exact ⟨t,u,v,k _ _ (.inl rfl) e⟩
 | frz ob u ih=>obtain ⟨e,q⟩:=x;exact ⟨k _ _ (.inl rfl) e,ih q⟩
 | tbl ps=>
  have e:h.get? a=some { cls:=.none,data:=.fields ps }:=x;show h'.get? a=some { cls:=.none,data:=.fields ps };exact k a _ (.inl rfl) e
 | met f y=>
  have e:h.get? a=some (PySem.W.methodObj (.ref f) (.ref y)):=x;show h'.get? a=some (PySem.W.methodObj (.ref f) (.ref y));exact k a _ (.inl rfl) e
 | ext φ=>obtain ⟨p,⟨o,e⟩,st⟩:=x;exact ⟨st _ _ p fun o q=>k _ _ (.inl rfl) q,⟨o,k _ _ (.inl rfl) e⟩,st⟩
theorem O5.lt(x:O5 P w H h)(e:H a=some o):a<h.objs.size:=(x a o e).lt
theorem O5.fresh(x:O5 P w H h)(e:h.objs.size<=a):H a=none:=by
 cases q:H a with
 | none=>rfl
 | some u=>exact absurd (Q9 (x.lt q) e) (aJ _)
theorem O5.kept(x:O5 P w H h)(k:∀ b u,h.get? b=some u->h'.get? b=some u):O5 P w H h':=fun a o e=>
 (x a o e).stay (fun b u _ q=>k b u q) (fun _ q=>q) fun _ _ q=>q
theorem O5.laid(x:O5 P w H h)(k:∀ b u,h.get? b=some u->h'.get? b=some u)(hp:h.objs.size<=a)(new:ObjOk P w (A0 H a o) h' a o):O5 P w (A0 H a o) h':=fun b u e=>by
 have hn:=x.fresh hp
 by_cases hb:b=a
 .subst hb;rw [A5] at e;cases e;exact new
 .rw [A9 hb] at e;exact (x b u e).stay (fun c v _ q=>k c v q) (fun c q=>by rw [A9 (cA q hn)];exact q) fun c xs q=>by rw [A9 (cA q hn)];exact q
end
noncomputable def Rd (H:Hp) (a:Addr) (u:HO):Prop:=H a=some u\/∃ o,H a=some (.frz o u)
theorem Rd.of{H:Hp}{a:Addr}{u:HO}(h:H a=some u):Rd H a u:=.inl h
theorem Rd.ok{P:Program}{w:World}{H:Hp}{h:Heap}{a:Addr}{u:HO}(r:Rd H a u)(x:O5 P w H h):ObjOk P w H h a u:=by
 rcases r with r | ⟨o,r⟩
 .exact x a u r
 .obtain ⟨_,q⟩:=x a _ r;exact q
noncomputable def mX:Option HO->Prop
 | some (.lst _)=>True
 | some (.dK _)=>True
 | some (.dT _)=>True
 | some (.set _ _)=>True
 | some (.ins _ _ _)=>True
 | some (.ext _)=>True
 | _=>False
section
variable {P:Program} {w:World} {H:Hp} {h h':Heap} {x e:Addr} {o':HO}
theorem O5.write(ok:O5 P w H h)(mu:mX (H x))(he:e=x\/H e=some (.own x))(k:∀ b u,b≠e->h.get? b=some u->h'.get? b=some u)(lP:∃ u,h'.get? e=some u)(new:ObjOk P w (A0 H x o') h' x o'):O5 P w (A0 H x o') h':=fun b u q=>by
 have nown:∀ c y,H c=some (.own y)->c≠x:=fun c y r z=>by subst z;rw [r] at mu;exact mu
 have ntup:∀ c xs,H c=some (.tup xs)->c≠x:=fun c xs r z=>by subst z;rw [r] at mu;exact mu
 by_cases hb:b=x
 .subst hb;rw [A5] at q;cases q;exact new
 .rw [A9 hb] at q
  by_cases iK:b=e
  .have q':H b=some (.own x):=by
    rcases he with z | z
    .exact absurd (iK.trans z) hb
    .rw [iK];exact z
   rw [q] at q';cases q';obtain ⟨v,hv⟩:=lP;exact ⟨v,by rw [iK];exact hv⟩
  .refine (ok b u q).stay (fun c v hc r=>k c v ?_ r) (fun c r=>by rw [A9 (nown c b r)];exact r) fun c xs r=>by rw [A9 (ntup c xs r)];exact r
   rcases hc with rfl | hc
   .exact iK
   .rintro rfl
    rcases he with z | z
    .exact nown c b hc z
    .rw [hc] at z;cases z;exact hb rfl
end
structure Un(fs ex:List Addr)(H H':Hp)(h h':Heap):Prop where
 keep:∀ b o,h.get? b=some o->H b=none->b∉fs->b∉ex->h'.get? b=some o
 slot:∀ b o,h.get? b=some o->H b=none->b∈fs->b∉ex->∃ sl,h'.get? b=some { o with slots:=sl }
 free:∀ b o,h.get? b=some o->H b=none->b∉ex->H' b=none
 there:∀ b o,h.get? b=some o->b∉ex->∃ o',h'.get? b=some o'
 tups:∀ b xs,H b=some (.tup xs)->H' b=some (.tup xs)
 frzs:∀ b o u,H b=some (.frz o u)->H' b=some (.frz o u)
 tbls:∀ b ps,H b=some (.tbl ps)->∃ more,H' b=some (.tbl (ps++more))
section
variable {fs fs' ex ex':List Addr} {H H1 H2:Hp} {h h1 h2 h':Heap} {a x e:Addr} {o:HO}
theorem Un.any(u:Un fs ex H H1 h h1){b:Addr}{ob:Obj}(q:h.get? b=some ob)(n:H b=none)(hx:b∉ex):∃ sl,h1.get? b=some { ob with slots:=sl }:=by
 by_cases hb:b∈fs
 .exact u.slot b ob q n hb hx
 .exact ⟨ob.slots,u.keep b ob q n hb hx⟩
theorem Un.kept(k:∀ b u,h.get? b=some u->h'.get? b=some u):Un fs ex H H h h':=
 ⟨fun b ob q _ _ _=>k b ob q,fun b ob q _ _ _=>⟨ob.slots,k b ob q⟩,fun _ _ _ n _=>n,fun b ob q _=>⟨ob,k b ob q⟩,fun _ _ q=>q,fun _ _ _ q=>q,fun _ ps q=>⟨#[],by rw [q];simp⟩⟩
theorem uac:Un fs ex H H h h:=Un.kept fun _ _ q=>q
theorem Un.laid(k:∀ b u,h.get? b=some u->h'.get? b=some u)(hp:h.objs.size<=a)(hn:H a=none):Un fs ex H (A0 H a o) h h' where
 keep:=fun b u q _ _ _=>k b u q
 slot:=fun b u q _ _ _=>⟨u.slots,k b u q⟩
 free:=fun b u q n _=>by rw [A9 (O8 (Q9 (Heap.lt_size q) hp))];exact n
 there:=fun b u q _=>⟨u,k b u q⟩
 tups:=fun b xs q=>by rw [A9 (cA q hn)];exact q
 frzs:=fun b u xs q=>by rw [A9 (cA q hn)];exact q
 tbls:=fun b ps q=>⟨#[],by rw [A9 (cA q hn),q];simp⟩
theorem Un.write(mu:mX (H x))(he:e=x\/H e=some (.own x))(k:∀ b u,b≠e->h.get? b=some u->h'.get? b=some u)(lP:∃ u,h'.get? e=some u):Un fs ex H (A0 H x o) h h':=by
 have hx:∀ b,H b=none->b≠x:=fun b n z=>by subst z;rw [n] at mu;exact mu
 have hb:∀ b,H b=none->b≠e:=fun b n z=>by
  subst z
  rcases he with r | r
  .exact hx b n r
  .rw [n] at r;cases r
 have hm:∀ b u,H b=some u->¬ mX (some u)->b≠x:=fun b u q nm z=>by subst z;rw [q] at mu;exact nm mu
 refine ⟨fun b u q n _ _=>k b u (hb b n) q,fun b u q n _ _=>⟨u.slots,k b u (hb b n) q⟩,fun b u q n _=>by rw [A9 (hx b n)];exact n,fun b u q _=>?_,
  fun b xs q=>by rw [A9 (hm b _ q fun z=>z)];exact q,fun b u xs q=>by rw [A9 (hm b _ q fun z=>z)];exact q,fun b ps q=>⟨#[],by rw [A9 (hm b _ q fun z=>z),q];simp⟩⟩
 by_cases iK:b=e
 .subst iK;exact lP
 .exact ⟨u,k b u iK q⟩
end
noncomputable def rD (h:Heap) (H:Hp):List Addr:=(aI h.objs.size).filter fun a=>(H a).isSome
noncomputable def hidT (h:Heap) (H:Hp):Heap:=PySem.W.hideAll h (rD h H)
theorem ajT(h:Heap)(H:Hp):(hidT h H).objs.size=h.objs.size:=PySem.W.hideAll_size _ _
theorem alN{h:Heap}{H:Hp}{b:Addr}{o:Obj}(e:h.get? b=some o)(n:H b=none):(hidT h H).get? b=some o:=
 PySem.W.hideAll_get _ e fun hm=>by
  have q:(H b).isSome=true:=(Q2.mp hm).2;rw [n] at q;simp at q
theorem anG{h:Heap}{H:Hp}{b:Addr}{o:Obj}(e:(hidT h H).get? b=some o):h.get? b=some o/\H b=none:=by
 have e':h.get? b=some o:=PySem.W.of_hideAll (rD h H) e;refine ⟨e',?_⟩
 cases q:H b with
 | none=>rfl
 | some x=>
  have hm:b∈rD h H:=Q2.mpr ⟨dS.mpr (Heap.lt_size e'),by simp [q]⟩;have z:(hidT h H).get? b=none:=PySem.W.hideAll_none (rD h H) hm;rw [z] at e;cases e
noncomputable def anH (g h:Heap) (L:Addr):List (Addr×Obj):=(aI h.objs.size).filterMap fun a=>if a=L\/(g.get? a).isSome=true then none else (h.get? a).map fun o=>(a,o)
noncomputable def rest (g h:Heap) (L d:Addr):List (Addr×Obj):=(anH g h L).filter fun p=>decide (p.1≠d)
structure Mod(K:PySem.W.Frag)(mg:Str->Option Value)(base:Heap):Prop where
 kin:K.In base
 glob:base.Ns mainGlobals mg
 blt:∃ mb,base.Ns builtinsNs mb/\∀ x:Str,x≠"__name__"->mb x=bootBuiltins x
 nolimit:base.NoLimit
structure Cx where
 prog:Program
 w:World
 K:PySem.W.Frag
 mg:Str->Option Value
 base:Heap
 A:Around
 N:List Str
 s₀:Shared
 H₀:Hp
 env:Env
 outer:List Env
 stack:List Env
 ex:List Addr
 fn:Str->Bool
 calm:Bool
 pn:List (Addr×Obj)
 xe:Value->Shared->Prop
noncomputable def t9 (l:List Env):List Addr:=l.filterMap (·.frame)
noncomputable abbrev Cx.fs (X:Cx):List Addr:=t9 X.outer
noncomputable def mY (sc:Scope) (x:Str):Prop:=sc.names.lookup x=some .local\/sc.names.lookup x=some .cell\/sc.names.lookup x=some .free
noncomputable def o4 (sc:Scope) (x:Str):Prop:=sc.names.lookup x=some .local\/sc.names.lookup x=some .cell
noncomputable def Look (env:Env) (h:Heap) (m:Str->Option Value) (x:Str) (u:Value):Prop:=
 (env.kindOf x=some .local/\m x=some u)\/((env.kindOf x=some .cell\/env.kindOf x=some .free)/\∃ c,env.cells.lookup x=some c/\h.IsCell c (some u))
structure Cx.Ok(X:Cx):Prop where
 mod:Mod X.K X.mg X.base
 kind:X.env.scope.kind=.function
 glob:X.env.globals=mainGlobals
 blt:X.env.builtins=builtinsNs
 above:X.s₀.heap.objs.size<=X.env.locals
 inj:∀ x y c,X.env.cells.lookup x=some c->X.env.cells.lookup y=some c->x=y
 has:∀ x,(X.env.kindOf x=some .cell\/X.env.kindOf x=some .free)->∃ c,X.env.cells.lookup x=some c
 cab:∀ x c,X.fn x=true->X.env.cells.lookup x=some c->X.s₀.heap.objs.size<=c
 hd:X.calm=true->X.A.handled=none
 frames:X.A.frames=some X.stack
 stk:X.stack=X.outer\/(X.stack=X.env::X.outer/\X.env.frame=some X.env.locals)
 exf:∀ b∈X.ex,b≠X.env.locals/\∀ x c,X.env.cells.lookup x=some c->c≠b
 bs:∀ b o,X.base.get? b=some o->X.s₀.heap.get? b=some o/\X.H₀ b=none
 bsz:X.base.objs.size<=X.s₀.heap.objs.size
 noex:∀ b o,X.base.get? b=some o->b∉X.ex
 exfs:∀ b∈X.ex,b∉X.fs
 funs:X.s₀.heap.FunFrames X.base X.outer
 frf:∀ b∈X.fs,X.H₀ b=none
structure Inv(X:Cx)(pins:List (Addr×Obj))(Y:List (Option V))(H:Hp)(s:Shared):Prop where
 ok:X.Ok
 os:s.os=X.s₀.os
 bare:AllBare s.gens
 base:Un X.fs X.ex X.H₀ H X.s₀.heap s.heap
 loc:∃ m,s.heap.Ns X.env.locals m/\∀ (i:Nat) (x:Str) (v:V),X.N[i]?=some x->Y[i]?=some (some v)->mY X.env.scope x->∃ u,RelV v u/\Look X.env s.heap m x u
 cell:∀ x c,X.env.cells.lookup x=some c->∃ v,s.heap.IsCell c v
 free:H X.env.locals=none
 freeC:∀ x c,X.env.cells.lookup x=some c->H c=none
 pin:∀ p∈X.pn++pins,s.heap.get? p.1=some p.2/\H p.1=none/\p.1≠X.env.locals/\p.1∉X.fs/\∀ v,p.2.data≠.cell v
 hok:O5 X.prog X.w H s.heap
 len:Y.length=X.N.length
section
variable {X:Cx} {pins:List (Addr×Obj)} {Y:List (Option V)} {H H':Hp} {s:Shared} {h':Heap}
theorem Cx.Ok.nofr(ok:X.Ok){b:Addr}{o:Obj}(e:X.base.get? b=some o):b∉X.fs:=fun hb=>by
 have:=(ok.funs.mem hb).1
 rw [e] at this;cases this
theorem Inv.bs(I:Inv X pins Y H s):∀ b o,X.base.get? b=some o->s.heap.get? b=some o/\H b=none:=fun b o e=>
 ⟨I.base.keep b o (I.ok.bs b o e).1 (I.ok.bs b o e).2 (I.ok.nofr e) (I.ok.noex b o e),I.base.free b o (I.ok.bs b o e).1 (I.ok.bs b o e).2 (I.ok.noex b o e)⟩
theorem Inv.bk(I:Inv X pins Y H s):∀ b o,X.base.get? b=some o->s.heap.get? b=some o:=fun b o e=>(I.bs b o e).1
theorem Inv.mod(I:Inv X pins Y H s):Mod X.K X.mg X.base:=I.ok.mod
theorem Inv.kIn(I:Inv X pins Y H s):X.K.In s.heap:=I.ok.mod.kin.keeps I.bk
theorem Inv.lt(I:Inv X pins Y H s):X.env.locals<s.heap.objs.size:=let ⟨_,hn,_⟩:=I.loc;hn.lt
theorem Inv.sz(I:Inv X pins Y H s):X.s₀.heap.objs.size<=s.heap.objs.size:=F8 I.ok.above (gE I.lt)
theorem Inv.nofs(I:Inv X pins Y H s){a:Addr}(h:s.heap.objs.size<=a):a∉X.fs:=fun hb=>by
 obtain ⟨_,o,ho,_⟩:=I.ok.funs.mem hb;exact absurd (Q9 (Heap.lt_size ho) (F8 I.sz h)) (aJ _)
theorem Inv.cne(I:Inv X pins Y H s):∀ x c,X.env.cells.lookup x=some c->c≠X.env.locals:=fun x c e z=>by
 obtain ⟨v,o,ho,hd⟩:=I.cell x c e;obtain ⟨m,⟨o',es,ep,w8,iL,_⟩,_⟩:=I.loc;rw [z,w8] at ho;cases ho;rw [iL] at hd;cases hd
theorem Inv.funs(I:Inv X pins Y H s):s.heap.FunFrames X.base X.outer:=by
 have all:∀ (l:List Env),(∀ b∈t9 l,b∈X.fs)->X.s₀.heap.FunFrames X.base l->s.heap.FunFrames X.base l:=by
  intro l
  induction l with
  | nil=>intro _ _;trivial
  | cons env r ih=>
   intro hs hl;obtain ⟨hk,⟨L,o,hf,hn,ho,hd⟩,hr⟩:=hl;have hL:L∈X.fs:=hs L (by unfold t9;rw [gB,hf];exact O0);obtain ⟨sl,e⟩:=I.base.slot L o ho (I.ok.frf L hL) hL fun z=>I.ok.exfs L z hL
   exact ⟨hk,⟨L,_,hf,hn,e,hd⟩,ih (fun b hb=>hs b (by unfold t9;rw [gB,hf];exact M6 _ hb)) hr⟩
 exact all X.outer (fun _ hb=>hb) I.ok.funs
theorem Inv.stack(I:Inv X pins Y H s):s.heap.FunFrames X.base X.stack:=by
 rcases I.ok.stk with e | ⟨e,hf⟩
 .rw [e];exact I.funs
 .rw [e];obtain ⟨m,hn,_⟩:=I.loc;refine .cons (by rw [I.ok.kind];decide) hf hn ?_ I.funs;exact Heap.get?_none_of_le (F8 I.ok.bsz I.ok.above)
theorem Inv.stkSub(I:Inv X pins Y H s):∀ b∈t9 X.stack,b∈X.env.locals::X.fs:=fun b hb=>by
 rcases I.ok.stk with e | ⟨e,hf⟩
 .rw [e] at hb;exact M6 _ hb
 .rw [e] at hb;unfold t9 at hb;rw [gB,hf] at hb;exact hb
theorem Inv.stkFree(I:Inv X pins Y H s):∀ b∈t9 X.stack,H b=none:=fun b hb=>by
 rcases F6.mp (I.stkSub b hb) with e | hb
 .rw [e];exact I.free
 .obtain ⟨_,o,ho,_⟩:=I.ok.funs.mem hb;exact I.base.free b o ho (I.ok.frf b hb) fun z=>I.ok.exfs b z hb
theorem Inv.step{g':Array GenState}{t':Nat}{d':Drawn}{ch:List Addr}(I:Inv X pins Y H s)(bF:∀ b∈ch,(b∈X.ex\/X.s₀.heap.objs.size<=b)/\b≠X.env.locals/\(∀ x c,X.env.cells.lookup x=some c->c≠b)/\∀ p∈X.pn++pins,p.1≠b)(keep:∀ b o,b≠X.env.locals->b∉X.fs->b∉ch->s.heap.get? b=some o->H b=none->h'.get? b=some o)(slot:∀ b o,b≠X.env.locals->b∈X.fs->b∉ch->s.heap.get? b=some o->H b=none->∃ sl,h'.get? b=some { o with slots:=sl })(free:∀ b o,b∉ch->s.heap.get? b=some o->H b=none->H' b=none)(there:∀ b o,b∉ch->s.heap.get? b=some o->∃ o',h'.get? b=some o')(tups:∀ b xs,H b=some (.tup xs)->H' b=some (.tup xs))(frzs:∀ b o u,H b=some (.frz o u)->H' b=some (.frz o u))(tbls:∀ b ps,H b=some (.tbl ps)->∃ more,H' b=some (.tbl (ps++more)))(ns:∀ m,s.heap.Ns X.env.locals m->h'.Ns X.env.locals m)(hok:O5 X.prog X.w H' h')(hg:AllBare g') :
  Inv X pins Y H' { s with heap:=h',gens:=g',drawn:=d',toks:=t' }:=by
 have neL:∀ b o,X.s₀.heap.get? b=some o->b≠X.env.locals:=fun b o e=>O8 (Q9 (Heap.lt_size e) I.ok.above)
 have neC:∀ b o,X.s₀.heap.get? b=some o->b∉X.ex->b∉ch:=fun b o e hx hb=>by
  rcases (bF b hb).1 with z | z
  .exact hx z
  .exact absurd (Q9 (Heap.lt_size e) z) (aJ _)
 have cellK:∀ x c,X.env.cells.lookup x=some c->∀ v,s.heap.IsCell c v->h'.IsCell c v:=fun x c e v ⟨o,ho,hd⟩=>by
  have nch:c∉ch:=fun z=>(bF c z).2.2.1 x c e rfl
  by_cases hc:c∈X.fs
  .obtain ⟨sl,q⟩:=slot c o (I.cne x c e) hc nch ho (I.freeC x c e);exact ⟨_,q,hd⟩
  .exact ⟨o,keep c o (I.cne x c e) hc nch ho (I.freeC x c e),hd⟩
 refine ⟨I.ok,I.os,hg,⟨fun b o e n hb hx=>?_,fun b o e n hb hx=>?_,fun b o e n hx=>?_,fun b o e hx=>?_,fun b xs e=>tups b xs (I.base.tups b xs e),fun b o xs e=>frzs b o xs (I.base.frzs b o xs e),fun b ps e=>?_⟩,?_,fun x c e=>?_,?_,fun x c e=>?_,fun p hp=>?_,hok,I.len⟩
 .exact keep b o (neL b o e) hb (neC b o e hx) (I.base.keep b o e n hb hx) (I.base.free b o e n hx)
 .obtain ⟨sl,e1⟩:=I.base.slot b o e n hb hx;obtain ⟨sl',e2⟩:=slot b _ (neL b o e) hb (neC b o e hx) e1 (I.base.free b o e n hx);exact ⟨sl',e2⟩
 .obtain ⟨o',e1⟩:=I.base.there b o e hx;exact free b o' (neC b o e hx) e1 (I.base.free b o e n hx)
 .obtain ⟨o',e1⟩:=I.base.there b o e hx;exact there b o' (neC b o e hx) e1
 .obtain ⟨m1,e1⟩:=I.base.tbls b ps e;obtain ⟨m2,e2⟩:=tbls b _ e1;exact ⟨m1++m2,by rw [e2,Array.append_assoc]⟩
 .obtain ⟨m,hn,hl⟩:=I.loc;refine ⟨m,ns m hn,fun i x v e1 e2 e3=>?_⟩;obtain ⟨u,r,l⟩:=hl i x v e1 e2 e3;refine ⟨u,r,?_⟩
  rcases l with l | ⟨k,c,e,z⟩
  .exact .inl l
  .exact .inr ⟨k,c,e,cellK x c e _ z⟩
 .obtain ⟨v,z⟩:=I.cell x c e;exact ⟨v,cellK x c e v z⟩
 .obtain ⟨m,⟨o,_,_,ho,_⟩,_⟩:=I.loc;exact free _ o (fun z=>(bF _ z).2.1 rfl) ho I.free
 .obtain ⟨v,o,ho,hd⟩:=I.cell x c e;exact free c o (fun z=>(bF c z).2.2.1 x c e rfl) ho (I.freeC x c e)
 .obtain ⟨e,n,ne,nf,d⟩:=I.pin p hp;have nch:p.1∉ch:=fun z=>(bF p.1 z).2.2.2 p hp rfl
  exact ⟨keep p.1 p.2 ne nf nch e n,free p.1 p.2 nch e n,ne,nf,d⟩
theorem Inv.un{t':Nat}(I:Inv X pins Y H s)(u:Un X.fs [] H H' s.heap h')(hok:O5 X.prog X.w H' h'):Inv X pins Y H' { s with heap:=h',toks:=t' }:=by
 obtain ⟨m,⟨o,es,ep,ho,r⟩,_⟩:=id I.loc;obtain ⟨sl,hL⟩:=u.any ho I.free (by simp);exact I.step (g':=s.gens) (d':=s.drawn) (ch:=[]) (fun _ z=>nomatch z) (fun b o _ hb _ e n=>u.keep b o e n hb (by simp)) (fun b o _ hb _ e n=>u.slot b o e n hb (by simp)) (fun b o _ e n=>u.free b o e n (by simp)) (fun b o _ e=>u.there b o e (by simp)) u.tups u.frzs u.tbls (fun m' hm=>by
  obtain ⟨o',es',ep',w8,r'⟩:=hm;rw [ho] at w8;cases w8;exact ⟨_,es',ep',hL,r'⟩) hok I.bare
theorem Inv.call{g':Array GenState}{t':Nat}{d':Drawn}{ch:List Addr}(I:Inv X pins Y H s)(u:Un (t9 X.stack) ch H H' s.heap h')(hok:O5 X.prog X.w H' h')(hg:AllBare g')(bF:∀ b∈ch,(b∈X.ex\/X.s₀.heap.objs.size<=b)/\b≠X.env.locals/\(∀ x c,X.env.cells.lookup x=some c->c≠b)/\∀ p∈X.pn++pins,p.1≠b) :
  Inv X pins Y H' { s with heap:=h',gens:=g',drawn:=d',toks:=t' }:=by
 obtain ⟨m,⟨o,es,ep,ho,r⟩,_⟩:=id I.loc;obtain ⟨sl,hL⟩:=u.any ho I.free fun z=>(bF _ z).2.1 rfl
 exact I.step (ch:=ch) bF (fun b o hL hb hc e n=>u.keep b o e n (fun z=>(F6.mp (I.stkSub b z)).elim hL hb) hc) (fun b o _ _ hc e n=>u.any e n hc) (fun b o hc e n=>u.free b o e n hc) (fun b o hc e=>u.there b o e hc) u.tups u.frzs u.tbls (fun m' hm=>by
  obtain ⟨o',es',ep',w8,r'⟩:=hm;rw [ho] at w8;cases w8;exact ⟨_,es',ep',hL,r'⟩) hok hg
theorem Inv.turned{t':Nat}{it:Addr}(I:Inv X pins Y H s)(k:∀ b o,b≠it->s.heap.get? b=some o->h'.get? b=some o)(hn:H it=none)(hL:it≠X.env.locals)(h1:it∈X.ex\/X.s₀.heap.objs.size<=it)(h2:∀ x c,X.env.cells.lookup x=some c->c≠it)(h3:∀ p∈X.pn++pins,p.1≠it):Inv X pins Y H { s with heap:=h',toks:=t' }:=by
 have nit:∀ b u,H b=some u->b≠it:=fun b u e z=>by rw [z,hn] at e;cases e
 refine I.step (g':=s.gens) (d':=s.drawn) (ch:=[it]) (fun b hb=>?_) (fun b o _ _ hc e _=>k b o (fun z=>hc (by simp [z])) e) (fun b o _ _ hc e _=>⟨o.slots,k b o (fun z=>hc (by simp [z])) e⟩) (fun _ _ _ _ n=>n)
  (fun b o hc e=>⟨o,k b o (fun z=>hc (by simp [z])) e⟩) (fun _ _ e=>e) (fun _ _ _ e=>e) (fun b ps e=>⟨#[],by rw [e];simp⟩) (fun m hm=>?_) (fun b u e=>?_) I.bare
 .have e:b=it:=by simpa using hb
  subst e;exact ⟨h1,hL,h2,h3⟩
 .obtain ⟨o,es,ep,ho,r⟩:=hm;exact ⟨o,es,ep,k _ o (Ne.symm hL) ho,r⟩
 .refine (I.hok b u e).stay (fun c v hc q=>k c v ?_ q) (fun _ q=>q) fun _ _ q=>q
  rcases hc with z | z
  .rw [z];exact nit b u e
  .exact nit c _ z
theorem Inv.tok(I:Inv X pins Y H s)(t:Nat):Inv X pins Y H { s with toks:=t }:=I.un (h':=s.heap) (t':=t) uac I.hok
theorem Inv.kept{t':Nat}(I:Inv X pins Y H s)(k:∀ b u,s.heap.get? b=some u->h'.get? b=some u):Inv X pins Y H { s with heap:=h',toks:=t' }:=I.un (Un.kept k) (I.hok.kept k)
theorem Inv.laid{a:Addr}{o:HO}{t':Nat}(I:Inv X pins Y H s)(k:∀ b u,s.heap.get? b=some u->h'.get? b=some u)(hp:s.heap.objs.size<=a)(new:ObjOk X.prog X.w (A0 H a o) h' a o) :
  Inv X pins Y (A0 H a o) { s with heap:=h',toks:=t' }:=I.un (Un.laid k hp (I.hok.fresh hp)) (I.hok.laid k hp new)
theorem Inv.write{x e:Addr}{o:HO}{t':Nat}(I:Inv X pins Y H s)(mu:mX (H x))(he:e=x\/H e=some (.own x))(k:∀ b u,b≠e->s.heap.get? b=some u->h'.get? b=some u)(lP:∃ u,h'.get? e=some u)(new:ObjOk X.prog X.w (A0 H x o) h' x o):Inv X pins Y (A0 H x o) { s with heap:=h',toks:=t' }:=I.un (Un.write mu he k lP) (I.hok.write mu he k lP new)
theorem Inv.pins_of{pins':List (Addr×Obj)}(I:Inv X pins Y H s)(h:∀ p∈pins',s.heap.get? p.1=some p.2/\H p.1=none/\p.1≠X.env.locals/\p.1∉X.fs/\∀ v,p.2.data≠.cell v):Inv X pins' Y H s:=
 ⟨I.ok,I.os,I.bare,I.base,I.loc,I.cell,I.free,I.freeC,fun p hp=>(E4.mp hp).elim (fun z=>I.pin p (T8 _ z)) (h p),I.hok,I.len⟩
theorem aim{N:List Str}(hN:N.Nodup){i j:Nat}{x:Str}(a:N[i]?=some x)(b:N[j]?=some x):i=j:=by
 obtain ⟨h1,e1⟩:=I0.mp a;obtain ⟨h2,e2⟩:=I0.mp b;exact (List.getElem_inj hN).mp (e1.trans e2.symm)
theorem ajU{M:Model}{A:Around}{E:Value->Shared->Prop}{i:Nat}{x:Str}{v:V}{u:Value}{Q:Unit->Shared->Prop}(I:Inv X pins Y H s)(hN:X.N.Nodup)(hi:X.N[i]?=some x)(hx:o4 X.env.scope x)(r:RelV v u)(h:∀ s',Inv X pins (Y.set i (some v)) H s'->(∃ a,Heap.SameBut a s.heap s'.heap/\(a=X.env.locals\/X.env.cells.lookup x=some a))->Q () s')(hf:X.fn x=true\/X.env.scope.names.lookup x=some .local:=by first | exact .inl rfl | exact .inr rfl | assumption):wpAny M A (storeName X.env x u) Q E s:=by
 obtain ⟨m,hn,hl⟩:=id I.loc;have hcls:(X.env.scope.kind == .class || (X.env.scope.kind == .module&&X.env.locals != X.env.globals))=false:=by rw [I.ok.kind];rfl
 have hiσ:i<Y.length:=by rw [I.len];exact (I0.mp hi).1
 have cne:=I.cne;have tracked:∀ {a:Addr} {h':Heap},(∃ o,s.heap.get? a=some o/\H a=none)->Heap.SameBut a s.heap h'->O5 X.prog X.w H h':=fun {a h'} ha hs b ob e=>by
  obtain ⟨_,_,eX⟩:=ha;refine (I.hok b ob e).stay (fun c w' hc q=>(hs.2 c ?_).trans q) (fun _ q=>q) fun _ _ q=>q
  rintro rfl
  rcases hc with rfl | hc
  .rw [eX] at e;cases e
  .rw [eX] at hc;cases hc
 rcases hx with hk | hk
 .refine wpAny_storeName_local hk hn (fun h' uI hs=>?_) hcls;obtain ⟨oL,_,_,hoL,_⟩:=id hn;refine h _ ⟨I.ok,I.os,I.bare,⟨fun b o e n hb hx=>?_,fun b o e n hb hx=>?_,I.base.free,fun b o e hx=>?_,I.base.tups,I.base.frzs,I.base.tbls⟩,⟨_,uI,fun j y v' e1 e2 e3=>?_⟩,fun y c e=>?_,I.free,I.freeC,fun p hp=>?_,tracked ⟨oL,hoL,I.free⟩ hs,by simpa using I.len⟩ ⟨_,hs,.inl rfl⟩
  .exact (hs.2 b (O8 (Q9 (Heap.lt_size e) I.ok.above))).trans (I.base.keep b o e n hb hx)
  .obtain ⟨sl,e1⟩:=I.base.slot b o e n hb hx;exact ⟨sl,(hs.2 b (O8 (Q9 (Heap.lt_size e) I.ok.above))).trans e1⟩
  .obtain ⟨o',e1⟩:=I.base.there b o e hx;exact ⟨o',(hs.2 b (O8 (Q9 (Heap.lt_size e) I.ok.above))).trans e1⟩
  .by_cases hj:j=i
   .subst hj;rw [hi] at e1;cases e1;rw [List.getElem?_set_self hiσ] at e2;cases e2;exact ⟨u,r,.inl ⟨hk,by simp⟩⟩
   .rw [List.getElem?_set_ne (Ne.symm hj)] at e2;obtain ⟨u',r',q⟩:=hl j y v' e1 e2 e3;refine ⟨u',r',?_⟩
    rcases q with ⟨k,e⟩ | ⟨k,c,e,z⟩
    .refine .inl ⟨k,?_⟩
     have:y≠x:=fun e=>hj (aim hN e1 (e ▸ hi))
     simp [this,e]
    .exact .inr ⟨k,c,e,z.sameBut hs (cne y c e)⟩
  .obtain ⟨w',z⟩:=I.cell y c e;exact ⟨w',z.sameBut hs (cne y c e)⟩
  .obtain ⟨e,n,ne,nf,d⟩:=I.pin p hp;exact ⟨(hs.2 p.1 ne).trans e,n,ne,nf,d⟩
 .have hfn:X.fn x=true:=by
   rcases hf with z | z
   .exact z
   .rw [z] at hk;cases hk
  obtain ⟨c,hc⟩:=I.ok.has x (.inl hk);obtain ⟨w',z⟩:=I.cell x c hc;refine wpAny_storeName_cell I.ok.kind hk hc z (fun h' m4 hs=>?_);obtain ⟨oc,hoc,hocd⟩:=id z;refine h { s with heap:=h' } ⟨I.ok,I.os,I.bare,⟨fun b o e n hb hx=>?_,fun b o e n hb hx=>?_,I.base.free,fun b o e hx=>?_,I.base.tups,I.base.frzs,I.base.tbls⟩,⟨m,hn.sameBut hs (Ne.symm (cne x c hc)),fun j y v' e1 e2 e3=>?_⟩,fun y c' e=>?_,I.free,I.freeC,fun p hp=>?_,tracked ⟨oc,hoc,I.freeC x c hc⟩ hs,by simpa using I.len⟩ ⟨c,hs,.inr hc⟩
  .exact (hs.2 b (O8 (Q9 (Heap.lt_size e) (I.ok.cab x c hfn hc)))).trans (I.base.keep b o e n hb hx)
  .obtain ⟨sl,e1⟩:=I.base.slot b o e n hb hx;exact ⟨sl,(hs.2 b (O8 (Q9 (Heap.lt_size e) (I.ok.cab x c hfn hc)))).trans e1⟩
  .obtain ⟨o',e1⟩:=I.base.there b o e hx;exact ⟨o',(hs.2 b (O8 (Q9 (Heap.lt_size e) (I.ok.cab x c hfn hc)))).trans e1⟩
  .by_cases hj:j=i
   .subst hj;rw [hi] at e1;cases e1;rw [List.getElem?_set_self hiσ] at e2;cases e2;exact ⟨u,r,.inr ⟨.inl hk,c,hc,m4⟩⟩
   .rw [List.getElem?_set_ne (Ne.symm hj)] at e2;obtain ⟨u',r',q⟩:=hl j y v' e1 e2 e3;refine ⟨u',r',?_⟩
    rcases q with q | ⟨k,c',e,z'⟩
    .exact .inl q
    .refine .inr ⟨k,c',e,z'.sameBut hs ?_⟩;rintro rfl;exact hj (aim hN e1 (I.ok.inj _ _ _ e hc ▸ hi))
  .by_cases hcc:c'=c
   .subst hcc;exact ⟨_,m4⟩
   .obtain ⟨w2,z2⟩:=I.cell y c' e;exact ⟨w2,z2.sameBut hs hcc⟩
  .obtain ⟨e,n,ne,nf,d⟩:=I.pin p hp;refine ⟨(hs.2 p.1 ?_).trans e,n,ne,nf,d⟩;intro q;rw [q,hoc] at e;have q':oc=p.2:=Option.some.inj e;exact d w' (by rw [<- q'];exact hocd)
theorem rE{M:Model}{A:Around}{E:Value->Shared->Prop}{i:Nat}{x:Str}{v:V}{u:Value}{Q:Unit->Shared->Prop}(I:Inv X pins Y H s)(hN:X.N.Nodup)(hi:X.N[i]?=some x)(hx:o4 X.env.scope x)(r:RelV v u)(h:∀ s',Inv X pins (Y.set i (some v)) H s'->Q () s')(hf:X.fn x=true\/X.env.scope.names.lookup x=some .local:=by first | exact .inl rfl | exact .inr rfl | assumption):wpAny M A (storeName X.env x u) Q E s:=
 ajU I hN hi hx r (fun s' I' _=>h s' I') hf
theorem Inv.call'{s':Shared}{ch:List Addr}(I:Inv X pins Y H s)(ho:s'.os=s.os)(u:Un (t9 X.stack) ch H H' s.heap s'.heap)(hok:O5 X.prog X.w H' s'.heap)(hg:AllBare s'.gens)(bF:∀ b∈ch,(b∈X.ex\/X.s₀.heap.objs.size<=b)/\b≠X.env.locals/\(∀ x c,X.env.cells.lookup x=some c->c≠b)/\∀ p∈X.pn++pins,p.1≠b):Inv X pins Y H' s':=by
 obtain ⟨h',g',d',t',o'⟩:=s';have e:o'=s.os:=ho;subst e;exact I.call (g':=g') (t':=t') (d':=d') u hok hg bF
end
noncomputable abbrev XK:=Value->Option Addr->Hp->Prop
noncomputable abbrev St:=List (Option V)
noncomputable abbrev VK:=V->Hp->Prop
noncomputable abbrev TE:=St->Hp->VK->Prop
noncomputable abbrev TT:=St->Hp->(Bool->Hp->Prop)->Prop
noncomputable abbrev TA:=St->Hp->(List V->Hp->Prop)->Prop
structure Ends where
 nx:St->Hp->Prop
 rt:VK
 bk:St->Hp->Prop:=fun _ _=>False
 ct:St->Hp->Prop:=fun _ _=>False
noncomputable abbrev TS:=Ends->St->Hp->Prop
noncomputable def EP (X:Cx) (pins:List (Addr×Obj)) (Y:St) (Q:VK) (u:Value) (s':Shared):Prop:=∃ v H',Inv X pins Y H' s'/\RelV v u/\Q v H'
noncomputable def TP (X:Cx) (pins:List (Addr×Obj)) (Y:St) (Q:Bool->Hp->Prop) (b:Bool) (s':Shared):Prop:=∃ H',Inv X pins Y H' s'/\Q b H'
noncomputable def AP (X:Cx) (pins:List (Addr×Obj)) (Y:St) (Q:List V->Hp->Prop) (us:List Value) (s':Shared):Prop:=∃ vs H',Inv X pins Y H' s'/\Vals vs us/\Q vs H'
noncomputable def SP (X:Cx) (pins:List (Addr×Obj)) (D:Ends) (f:Flow) (s':Shared):Prop:=
 match f with
 | .next=>∃ σ' H',Inv X pins σ' H' s'/\D.nx σ' H'
 | .brk=>∃ σ' H',Inv X pins σ' H' s'/\D.bk σ' H'
 | .cont=>∃ σ' H',Inv X pins σ' H' s'/\D.ct σ' H'
 | .ret u=>∃ v σ' H',Inv X pins σ' H' s'/\RelV v u/\D.rt v H'
noncomputable def PE (X:Cx) (e:Expr) (t:TE):Prop:=
 ∀ (pins:List (Addr×Obj)) (s:Shared) (Y:St) (H:Hp) (Q:VK),Inv X pins Y H s->t Y H Q->wpAny 'b' X.A (eval e X.env) (EP X pins Y Q) X.xe s
noncomputable def PT (X:Cx) (e:Expr) (t:TT):Prop:=
 ∀ (pins:List (Addr×Obj)) (s:Shared) (Y:St) (H:Hp) (Q:Bool->Hp->Prop),Inv X pins Y H s->t Y H Q->wpAny 'b' X.A (isTrue e X.env (eval e X.env)) (TP X pins Y Q) X.xe s
noncomputable def PW (X:Cx) (e:Expr) (t:TT):Prop:=
 ∀ (whole:Sem Value) (pins:List (Addr×Obj)) (s:Shared) (Y:St) (H:Hp) (Q:Bool->Hp->Prop),Inv X pins Y H s->t Y H Q->wpAny 'b' X.A (isTrue e X.env whole) (TP X pins Y Q) X.xe s
theorem PW.pt{X:Cx}{e:Expr}{t:TT}(h:PW X e t):PT X e t:=h _
noncomputable def PA (X:Cx) (es:List Expr) (t:TA):Prop:=
 ∀ (pos:Pos) (pins:List (Addr×Obj)) (s:Shared) (Y:St) (H:Hp) (Q:List V->Hp->Prop),Inv X pins Y H s->t Y H Q->wpAny 'b' X.A (spliced (backTo pos (starEach es X.env))) (AP X pins Y Q) X.xe s
noncomputable def PS (X:Cx) (st:Stmt) (t:TS):Prop:=
 ∀ (pins:List (Addr×Obj)) (s:Shared) (Y:St) (H:Hp) (D:Ends),Inv X pins Y H s->t D Y H->wpAny 'b' X.A (exec st X.env) (SP X pins D) X.xe s
noncomputable def Z9 (X:Cx) (st:List Stmt) (t:TS):Prop:=
 ∀ (pins:List (Addr×Obj)) (s:Shared) (Y:St) (H:Hp) (D:Ends),Inv X pins Y H s->t D Y H->wpAny 'b' X.A (execs st X.env) (SP X pins D) X.xe s
theorem C2{α:Type}{t:Sem α}{Q Q':α->Shared->Prop}{M:Model}{A:Around}{E:Value->Shared->Prop}{s:Shared}(h:wpAny M A t Q E s)(hQ:∀ a s,Q a s->Q' a s):wpAny M A t Q' E s:=wpAny_mono h hQ fun _ _ x=>x
section
variable {X:Cx}
noncomputable def tVar (i:Nat):TE:=fun Y H Q=>∃ v,Y[i]?=some (some v)/\Q v H
noncomputable def tC (v:V):TE:=fun _ H Q=>Q v H
theorem ana{i:Nat}{x:Str}{pos:Pos}(hN:X.N[i]?=some x)(hv:mY X.env.scope x)(hd:(x==("__debug__" : Str))=false:=by decide)(U7:(x==("__classdict__" : Str))=false:=by decide):PE X (.Name x pos) (tVar i):=by
 intro pins s Y H Q I h;obtain ⟨v,e,h⟩:=h;obtain ⟨m,hn,hl⟩:=I.loc;obtain ⟨u,r,l⟩:=hl i x v hN e hv;have fin:EP X pins Y Q u s:=⟨v,H,I,r,h⟩
 rcases l with ⟨hk,hm⟩ | ⟨hk,c,hc,N8⟩
 .exact wpAny_Name (wpAny_loadName_local I.ok.kind hk hn hm fin) hd
 .rcases hk with hk | hk
  .exact wpAny_Name (wpAny_loadName_cell I.ok.kind hk hc N8 fin) hd
  .exact wpAny_Name (wpAny_loadName_free I.ok.kind hk hc N8 fin U7) hd
theorem anb{i j pos} : PE X (.Constant (.int i) j pos) (tC (.int i)):=fun _ _ _ H _ I h=>wpAny_Constant_int ⟨.int i,H,I.tok _,⟨_,rfl⟩,h⟩
theorem pe_bl{b j pos} : PE X (.Constant (.bool b) j pos) (tC (.bl b)):=fun _ _ _ H _ I h=>Constant_bool ⟨.bl b,H,I,rfl,h⟩
theorem aqk{x j pos} : PE X (.Constant (.str x) j pos) (tC (.str x)):=fun _ _ _ H _ I h=>Calls.Constant_str ⟨.str x,H,I.tok _,⟨_,rfl⟩,h⟩
noncomputable def Gl (X:Cx) (x:Str):Prop:=X.env.kindOf x=some .globalImplicit
theorem vN{E:Value->Shared->Prop}{pins:List (Addr×Obj)}{s:Shared}{Y:St}{H:Hp}{x:Str}{u:Value}{pos:Pos}{Q:Value->Shared->Prop}(I:Inv X pins Y H s)(hg:Gl X x)(hm:X.mg x=some u)(h:Q u s)(hd:(x==("__debug__" : Str))=false:=by decide):wpAny 'b' X.A (eval (.Name x pos) X.env) Q E s:=
 Calls.Name_function_global I.ok.kind hg (Calls.loadGlobal_global (by rw [I.ok.glob];exact I.mod.glob.keeps I.bk) hm h) hd
theorem dY{E:Value->Shared->Prop}{pins:List (Addr×Obj)}{s:Shared}{Y:St}{H:Hp}{x:Str}{u:Value}{pos:Pos}{Q:Value->Shared->Prop}(I:Inv X pins Y H s)(hg:Gl X x)(hm:X.mg x=none)(hv:bootBuiltins x=some u)(h:Q u s)(hn:x≠"__name__":=by decide)(hd:(x==("__debug__" : Str))=false:=by decide):wpAny 'b' X.A (eval (.Name x pos) X.env) Q E s:=by
 obtain ⟨mb,h1,h2⟩:=I.mod.blt;exact Calls.Name_function_global I.ok.kind hg (Calls.loadGlobal_builtin (by rw [I.ok.glob];exact I.mod.glob.keeps I.bk) hm (by rw [I.ok.blt];exact h1.keeps I.bk) ((h2 x hn).trans hv) h) hd
theorem ajV{x:Str}{v:V}{u:Value}{pos:Pos}(hg:Gl X x)(hm:X.mg x=some u)(r:RelV v u)(hd:(x==("__debug__" : Str))=false:=by decide):PE X (.Name x pos) (tC v):=
 fun _ _ _ H _ I h=>vN I hg hm ⟨v,H,I,r,h⟩ hd
theorem anI{x:Str}{v:V}{u:Value}{pos:Pos}(hg:Gl X x)(hm:X.mg x=none)(hv:bootBuiltins x=some u)(r:RelV v u)(hn:x≠"__name__":=by decide)(hd:(x==("__debug__" : Str))=false:=by decide):PE X (.Name x pos) (tC v):=
 fun _ _ _ H _ I h=>dY I hg hm hv ⟨v,H,I,r,h⟩ hn hd
variable {a b:Expr} {ta tb:TE} {pos:Pos}
noncomputable def tB (t:TE):TT:=fun Y H Q=>t Y H fun x H1=>∃ c,x=.bl c/\Q c H1
variable {tA tB':TT} {rest:List Expr}
noncomputable def tAnd (t u:TT):TT:=fun Y H Q=>t Y H fun c H1=>if c=true then u Y H1 Q else Q false H1
noncomputable def vO (t u:TT):TT:=fun Y H Q=>t Y H fun c H1=>if c=true then Q true H1 else u Y H1 Q
noncomputable def tNot (t:TT):TT:=fun Y H Q=>t Y H fun c H1=>Q (!c) H1
theorem anJ(ha:PT X a tA):PW X (.BoolOp .And [a] pos) tA:=by
 intro wh pins s Y H Q I h;refine isTrue_and (C2 (ha pins s Y H Q I h) fun c s1 e=>?_)
 cases c with
 | true=>exact isTrue_and_nil e
 | false=>exact e
theorem aql(ha:PT X a tA):PW X (.BoolOp .Or [a] pos) tA:=by
 intro wh pins s Y H Q I h;refine isTrue_or (C2 (ha pins s Y H Q I h) fun c s1 e=>?_)
 cases c with
 | false=>exact isTrue_or_nil e
 | true=>exact e
theorem aqm(ha:PT X a tA)(hb:PW X (.BoolOp .And (b::rest) pos) tB'):PW X (.BoolOp .And (a::b::rest) pos) (tAnd tA tB'):=by
 intro wh pins s Y H Q I h;refine isTrue_and (C2 (ha pins s Y H _ I h) fun c s1 ⟨H1,I1,q1⟩=>?_)
 cases c with
 | true=>exact hb wh pins s1 Y H1 Q I1 q1
 | false=>exact ⟨H1,I1,q1⟩
theorem pw_or(ha:PT X a tA)(hb:PW X (.BoolOp .Or (b::rest) pos) tB'):PW X (.BoolOp .Or (a::b::rest) pos) (vO tA tB'):=by
 intro wh pins s Y H Q I h;refine isTrue_or (C2 (ha pins s Y H _ I h) fun c s1 ⟨H1,I1,q1⟩=>?_)
 cases c with
 | true=>exact ⟨H1,I1,q1⟩
 | false=>exact hb wh pins s1 Y H1 Q I1 q1
theorem aqn(ha:PT X a tA):PT X (.UnaryOp .Not a pos) (tNot tA):=by
 intro pins s Y H Q I h;exact isTrue_not (ha pins s Y H (fun c H1=>Q (!c) H1) I h)
noncomputable def tAndV (ta tb:TE):TE:=fun Y H Q=>ta Y H fun x H1=>∃ c,x=.bl c/\if c=true then tb Y H1 Q else Q (.bl false) H1
noncomputable def tOrV (ta tb:TE):TE:=fun Y H Q=>ta Y H fun x H1=>∃ c,x=.bl c/\if c=true then Q (.bl true) H1 else tb Y H1 Q
noncomputable def tNotV (ta:TE):TE:=fun Y H Q=>ta Y H fun x H1=>∃ c,x=.bl c/\Q (.bl (!c)) H1
theorem aqo{op}{t:TE}(h:PE X a t):PE X (.BoolOp op [a] pos) t:=fun pins s Y H Q I hw=>BoolOp_one (h pins s Y H Q I hw)
theorem aqp(ha:PE X a ta)(hb:PE X (.BoolOp .And (b::rest) pos) tb):PE X (.BoolOp .And (a::b::rest) pos) (tAndV ta tb):=by
 intro pins s Y H Q I h;refine BoolOp_and (C2 (ha pins s Y H _ I h) fun v s1 ⟨x,H1,I1,r1,q1⟩=>?_);obtain ⟨c,rfl,q1⟩:=q1
 cases r1
 refine wpAny_truthy_bool ?_
 cases c with
 | true=>exact hb pins s1 Y H1 Q I1 q1
 | false=>exact ⟨.bl false,H1,I1,rfl,q1⟩
theorem pe_or(ha:PE X a ta)(hb:PE X (.BoolOp .Or (b::rest) pos) tb):PE X (.BoolOp .Or (a::b::rest) pos) (tOrV ta tb):=by
 intro pins s Y H Q I h;refine BoolOp_or (C2 (ha pins s Y H _ I h) fun v s1 ⟨x,H1,I1,r1,q1⟩=>?_);obtain ⟨c,rfl,q1⟩:=q1
 cases r1
 refine wpAny_truthy_bool ?_
 cases c with
 | false=>exact hb pins s1 Y H1 Q I1 q1
 | true=>exact ⟨.bl true,H1,I1,rfl,q1⟩
noncomputable def vP (t:TT) (ta tb:TE):TE:=fun Y H Q=>t Y H fun c H1=>if c=true then ta Y H1 Q else tb Y H1 Q
theorem alO{c:Expr}(hc:PT X c tA)(ha:PE X a ta)(hb:PE X b tb):PE X (.IfExp c a b pos) (vP tA ta tb):=by
 intro pins s Y H Q I h;refine wpAny_IfExp (C2 (hc pins s Y H _ I h) fun d s1 ⟨H1,I1,q1⟩=>?_)
 cases d with
 | true=>exact ha pins s1 Y H1 Q I1 q1
 | false=>exact hb pins s1 Y H1 Q I1 q1
end
noncomputable def D9 (K:PySem.W.Frag) (H:Hp) (a:Addr) (xs:List V):Prop:=
 Rd H a (.lst xs)\/
  ∃ (o:Obj) (its:Array Value) (n:Nat),K.lookup a=some o/\o.cls=.type "list"/\o.dict=none/\o.data=.seq its n/\its.size<=sizeLine/\Vals xs its.toList
noncomputable def C6 (K:PySem.W.Frag) (H:Hp) (a:Addr) (xs:List V):Prop:=
 Rd H a (.tup xs)\/
  ∃ (o:Obj) (its:Array Value) (n:Nat),K.lookup a=some o/\o.cls=.type "tuple"/\o.data=.seq its n/\its.size<=sizeLine/\Vals xs its.toList
noncomputable def absV:Value->Option V
 | .none=>some .non
 | .bool b=>some (.bl b)
 | .int i _=>some (.int i)
 | .str x _=>some (.str x)
 | .bytes b _=>some (.byt b)
 | .float b _=>some (.flt b)
 | .ref a=>some (.ref a)
 | .type n=>some (.ty n)
 | _=>none
theorem RelV.abs{x:V}{u:Value}(r:RelV x u):absV u=some x:=by
 cases x with
 | non=>cases r;rfl
 | bl _=>cases r;rfl
 | int _=>obtain ⟨t,rfl⟩:=r;rfl
 | str _=>obtain ⟨t,rfl⟩:=r;rfl
 | byt _=>obtain ⟨t,rfl⟩:=r;rfl
 | flt _=>obtain ⟨t,rfl⟩:=r;rfl
 | ref _=>cases r;rfl
 | ty _=>cases r;rfl
theorem RelV.inj{x y:V}{u:Value}(r:RelV x u)(q:RelV y u):x=y:=Option.some.inj (r.abs.symm.trans q.abs)
theorem Vals.inj:∀ {xs ys:List V} {us:List Value},Vals xs us->Vals ys us->xs=ys
 | _,_,_,.nil,.nil=>rfl
 | _,_,_,.cons r t,.cons r' t'=>by rw [r.inj r',Vals.inj t t']
section
variable {X:Cx} {pins:List (Addr×Obj)} {Y:St} {H:Hp} {s:Shared} {a:Addr} {xs ys:List V}
theorem D9.of{K:PySem.W.Frag}(h:H a=some (.lst xs)):D9 K H a xs:=.inl (.inl h)
theorem C6.of{K:PySem.W.Frag}(h:H a=some (.tup xs)):C6 K H a xs:=.inl (.inl h)
theorem Inv.list(I:Inv X pins Y H s)(h:D9 X.K H a xs):∃ its:List Value,Vals xs its/\PlainL s.heap a its.toArray/\xs.length<=sizeLine:=by
 rcases h with h | ⟨o,its,n,hk,hc,hd,hs,hz,r⟩
 .obtain ⟨z,its,n,r,e⟩:=h.ok I.hok;exact ⟨its,r,⟨_,n,e,rfl,rfl,rfl⟩,z⟩
 .refine ⟨its.toList,r,⟨o,n,I.kIn a o hk,hc,hd,by simpa using hs⟩,?_⟩;have e:=r.length;simp only [gG] at e;lia
theorem Inv.tuple(I:Inv X pins Y H s)(h:C6 X.K H a xs):∃ its:List Value,Vals xs its/\IsTup s.heap a its.toArray/\xs.length<=sizeLine:=by
 rcases h with h | ⟨o,its,n,hk,hc,hs,hz,r⟩
 .obtain ⟨z,its,r,p⟩:=h.ok I.hok;exact ⟨its,r,p,z⟩
 .refine ⟨its.toList,r,⟨o,I.kIn a o hk,hc,n,by simpa using hs⟩,?_⟩;have e:=r.length;simp only [gG] at e;lia
theorem Inv.list_inj(I:Inv X pins Y H s)(h:D9 X.K H a xs)(h':D9 X.K H a ys):xs=ys:=by
 obtain ⟨its,r,⟨o,n,e,_,_,d⟩,_⟩:=I.list h;obtain ⟨its',r',⟨o',n',e',_,_,d'⟩,_⟩:=I.list h';rw [e] at e';cases e';rw [d] at d'
 injection d' with d1 _
 have:its=its':=by simpa using congrArg Array.toList d1
 subst this;exact r.inj r'
theorem Inv.tuple_inj(I:Inv X pins Y H s)(h:C6 X.K H a xs)(h':C6 X.K H a ys):xs=ys:=by
 obtain ⟨its,r,⟨o,e,_,n,d⟩,_⟩:=I.tuple h;obtain ⟨its',r',⟨o',e',_,n',d'⟩,_⟩:=I.tuple h';rw [e] at e';cases e';rw [d] at d'
 injection d' with d1 _
 have:its=its':=by simpa using congrArg Array.toList d1
 subst this;exact r.inj r'
end
noncomputable abbrev Cx.wish (X:Cx) (E:Value->Shared->Prop):Cx:={ X with xe:=E }
noncomputable abbrev Cx.nox (X:Cx):Cx:=X.wish fun _ _=>False
theorem Cx.Ok.wish{X:Cx}(ok:X.Ok)(E:Value->Shared->Prop):(X.wish E).Ok:=
 ⟨ok.mod,ok.kind,ok.glob,ok.blt,ok.above,ok.inj,ok.has,ok.cab,ok.hd,ok.frames,ok.stk,ok.exf,ok.bs,ok.bsz,ok.noex,ok.exfs,ok.funs,ok.frf⟩
theorem Cx.Ok.unwish{X:Cx}{E:Value->Shared->Prop}(ok:(X.wish E).Ok):X.Ok:=
 ⟨ok.mod,ok.kind,ok.glob,ok.blt,ok.above,ok.inj,ok.has,ok.cab,ok.hd,ok.frames,ok.stk,ok.exf,ok.bs,ok.bsz,ok.noex,ok.exfs,ok.funs,ok.frf⟩
section
variable {X:Cx} {pins:List (Addr×Obj)} {Y:St} {H:Hp} {s:Shared} {E:Value->Shared->Prop}
theorem Inv.wish(I:Inv X pins Y H s)(E:Value->Shared->Prop):Inv (X.wish E) pins Y H s:=⟨I.ok.wish E,I.os,I.bare,I.base,I.loc,I.cell,I.free,I.freeC,I.pin,I.hok,I.len⟩
theorem Inv.unwish(I:Inv (X.wish E) pins Y H s):Inv X pins Y H s:=⟨I.ok.unwish,I.os,I.bare,I.base,I.loc,I.cell,I.free,I.freeC,I.pin,I.hok,I.len⟩
theorem SP.unwish{D:Ends}{f:Flow}{s':Shared}(h:SP (X.wish E) pins D f s'):SP X pins D f s':=by
 cases f with
 | next=>obtain ⟨σ',H',I,q⟩:=h;exact ⟨σ',H',I.unwish,q⟩
 | brk=>obtain ⟨σ',H',I,q⟩:=h;exact ⟨σ',H',I.unwish,q⟩
 | cont=>obtain ⟨σ',H',I,q⟩:=h;exact ⟨σ',H',I.unwish,q⟩
 | ret u=>obtain ⟨v,σ',H',I,r,q⟩:=h;exact ⟨v,σ',H',I.unwish,r,q⟩
theorem Z9.nox{st:List Stmt}{t:TS}(h:Z9 X.nox st t):Z9 X st t:=fun pins s Y H D I hw=>
 wpAny_mono (h pins s Y H D (I.wish _) hw) (fun _ _ q=>q.unwish) fun _ _ z=>False.elim z
end
section
variable {X:Cx} {st:Stmt} {rest:List Stmt} {t u:TS} {e:Expr} {te:TE} {pos:Pos}
noncomputable def tNext:TS:=fun D Y H=>D.nx Y H
noncomputable def tSeq (t u:TS):TS:=fun D Y H=>t { D with nx:=u D } Y H
theorem anK:Z9 X [] tNext:=fun _ _ Y H _ I h=>wpAny_execs_nil ⟨Y,H,I,h⟩
theorem alP(h1:PS X st t)(h2:Z9 X rest u):Z9 X (st::rest) (tSeq t u):=by
 intro pins s Y H D I h;refine wpAny_execs_cons (C2 (h1 pins s Y H { D with nx:=u D } I h) fun f s1 q=>?_)
 cases f with
 | next=>
  obtain ⟨σ',H',I',q⟩:=q;exact h2 pins s1 σ' H' D I' q
 | ret v=>exact q
 | brk=>exact q
 | cont=>exact q
theorem anL(h1:PS X st t):Z9 X [st] t:=by
 intro pins s Y H D I h;refine wpAny_execs_cons (C2 (h1 pins s Y H D I h) fun f s1 q=>?_)
 cases f with
 | next=>exact wpAny_execs_nil q
 | ret v=>exact q
 | brk=>exact q
 | cont=>exact q
noncomputable def vQ:TS:=fun D Y H=>D.bk Y H
noncomputable def tCont:TS:=fun D Y H=>D.ct Y H
theorem alQ:PS X (.Break pos) vQ:=fun _ _ Y H _ I h=>wpAny_Break ⟨Y,H,I,h⟩
theorem Inv.quiet{pins:List (Addr×Obj)}{Y:St}{H:Hp}{s:Shared}(I:Inv X pins Y H s):interactive X.env=false:=by simp [interactive,I.ok.kind]
noncomputable def tDrop (te:TE):TS:=fun D Y H=>te Y H fun _ H1=>D.nx Y H1
theorem anM(he:PE X e te)(hs:swapsWith e none pos.line X.env=pure false:=by rfl):PS X (.Expr e pos) (tDrop te):=by
 intro pins s Y H D I h;exact wpAny_Expr_any (C2 (he pins s Y H _ I h) fun v s1 ⟨x,H1,I1,r1,q1⟩=>⟨Y,H1,I1,q1⟩) I.quiet hs
noncomputable def tRet (te:TE):TS:=fun D Y H=>te Y H D.rt
theorem aqq(he:PE X e te):PS X (.Return (some e) pos) (tRet te):=by
 intro pins s Y H D I h;exact wpAny_Return_some (C2 (he pins s Y H _ I h) fun v s1 ⟨x,H1,I1,r1,q1⟩=>⟨x,Y,H1,I1,r1,q1⟩)
noncomputable def tRetN:TS:=fun D _ H=>D.rt .non H
noncomputable def tIfS (c:TT) (t u:TS):TS:=fun D Y H=>c Y H fun b H1=>if b=true then t D Y H1 else u D Y H1
theorem ps_if{c:Expr}{a b:List Stmt}{tc:TT}(hc:PT X c tc)(ha:Z9 X a t)(hb:Z9 X b u):PS X (.If c a b pos) (tIfS tc t u):=by
 intro pins s Y H D I h;refine wpAny_If (C2 (hc pins s Y H _ I h) fun d s1 ⟨H1,I1,q1⟩=>?_)
 cases d with
 | true=>exact ha pins s1 Y H1 D I1 q1
 | false=>exact hb pins s1 Y H1 D I1 q1
noncomputable def vR:TS:=fun _ _ _=>False
theorem alR:PS X st vR:=fun _ _ _ _ _ _ h=>h.elim
end
noncomputable abbrev TG:=V->St->Hp->(St->Hp->Prop)->Prop
noncomputable abbrev o5:=List V->St->Hp->(St->Hp->Prop)->Prop
noncomputable def PG (X:Cx) (target:Expr) (t:TG):Prop:=
 ∀ (pins:List (Addr×Obj)) (s:Shared) (Y:St) (H:Hp) (v:V) (u:Value) (Q:St->Hp->Prop),Inv X pins Y H s->RelV v u->t v Y H Q->
  wpAny 'b' X.A (assign target X.env u) (fun _ s'=>∃ σ' H',Inv X pins σ' H' s'/\Q σ' H') X.xe s
noncomputable def mZ (X:Cx) (ts:List Expr) (t:o5):Prop:=
 ∀ (pins:List (Addr×Obj)) (s:Shared) (Y:St) (H:Hp) (vs:List V) (us:List Value) (Q:St->Hp->Prop),Inv X pins Y H s->Vals vs us->t vs Y H Q->
  wpAny 'b' X.A (assignInOrder ((assignEach ts X.env).map (·.2)) us) (fun _ s'=>∃ σ' H',Inv X pins σ' H' s'/\Q σ' H') X.xe s
noncomputable abbrev TSet:=V->V->V->Hp->(Hp->Prop)->Prop
noncomputable abbrev gH:=V->V->Hp->VK->Prop
noncomputable def vS (X:Cx) (op:Operator) (t:gH):Prop:=
 ∀ (pins:List (Addr×Obj)) (s:Shared) (Y:St) (H:Hp) (x y:V) (v u:Value) (Q:VK),Inv X pins Y H s->RelV x v->RelV y u->t x y H Q->
  wpAny 'b' X.A (inplaceOp op v u) (EP X pins Y Q) X.xe s
section
variable {X:Cx} {pos:Pos}
noncomputable def gName (i:Nat):TG:=fun v Y H Q=>Q (Y.set i (some v)) H
theorem anN{i:Nat}{x:Str}(hN:X.N.Nodup)(hi:X.N[i]?=some x)(hx:o4 X.env.scope x)(hf:X.fn x=true\/X.env.scope.names.lookup x=some .local:=by first | exact .inl rfl | exact .inr rfl | assumption):PG X (.Name x pos) (gName i):=by
 intro pins s Y H v u Q I r h;exact wpAny_assign_Name (rE I hN hi hx r (fun s' I'=>⟨_,H,I',h⟩) hf)
noncomputable def gNil:o5:=fun vs Y H Q=>vs=[]/\Q Y H
noncomputable def gCons (t:TG) (u:o5):o5:=fun vs Y H Q=>∃ v r,vs=v::r/\t v Y H fun σ' H'=>u r σ' H' Q
theorem anO:mZ X [] gNil:=by
 intro pins s Y H vs us Q I r h;obtain ⟨e,h⟩:=h;subst e
 cases r
 exact assignInOrder_nil ⟨Y,H,I,h⟩
theorem alS{e:Expr}{es:List Expr}{t:TG}{u:o5}(h1:PG X e t)(h2:mZ X es u)(hs:(assignEach (e::es) X.env).map (·.2)=assign e X.env::(assignEach es X.env).map (·.2):=by rfl):mZ X (e::es) (gCons t u):=by
 intro pins s Y H vs us Q I r h;obtain ⟨v,vr,e1,h⟩:=h;subst e1
 cases r with
 | cons r rr=>
  rw [hs];refine assignInOrder_cons (C2 (h1 pins s Y H _ _ _ I r h) fun _ s1 ⟨σ1,H1,I1,q1⟩=>?_);exact h2 pins s1 σ1 H1 _ _ Q I1 rr q1
noncomputable def gTup (K:PySem.W.Frag) (n:Nat) (t:o5):TG:=fun v Y H Q=>∃ a xs,v=.ref a/\C6 K H a xs/\xs.length=n/\t xs Y H Q
theorem aqr{es:List Expr}{k:Nat}{t:o5}{n:Nat}(hc:X.calm=true)(h:mZ X es t)(hn:(assignEach es X.env).length=n:=by rfl)(P6:(assignEach es X.env).findIdx? (·.1)=none:=by rfl):PG X (.Tuple es k pos) (gTup X.K n t):=by
 intro pins s Y H v u Q I r hw;obtain ⟨a,xs,e1,hq,hl,hw⟩:=hw;subst e1
 cases r
 obtain ⟨its,rv,ht,hz⟩:=I.tuple hq;refine assign_Tuple_tuple (I.ok.hd hc) ht (by simp [hn,<- hl,rv.length]) P6 fun h' hx=>?_
 have I1:Inv X pins Y H { s with heap:=h' }:=I.kept (t':=s.toks) fun b o e=>hx b o (O8 (Heap.lt_size e)) e
 exact h pins _ Y H xs _ Q I1 (by simpa using rv) hw
noncomputable def gSub (to ti:TE) (t:TSet):TG:=fun v Y H Q=>to Y H fun o H1=>ti Y H1 fun i H2=>t o i v H2 fun H3=>Q Y H3
noncomputable def tAsg (te:TE) (g:TG):TS:=fun D Y H=>te Y H fun x H1=>g x Y H1 D.nx
theorem aqs{i:Nat}{x:Str}{e:Expr}{te:TE}{pos':Pos}(hN:X.N.Nodup)(hi:X.N[i]?=some x)(hx:o4 X.env.scope x)(he:PE X e te)(hs:swapsWith e (some (.Name x pos')) pos.line X.env=pure false:=by rfl)(hf:X.fn x=true\/X.env.scope.names.lookup x=some .local:=by first | exact .inl rfl | exact .inr rfl | assumption) :
  PS X (.Assign [.Name x pos'] e pos) (tAsg te (gName i)):=by
 intro pins s Y H D I h;refine wpAny_Assign_Name (C2 (he pins s Y H _ I h) fun v s1 ⟨y,H1,I1,r1,q1⟩=>?_) hs;exact rE I1 hN hi hx r1 (fun s2 I2=>⟨_,H1,I2,q1⟩) hf
noncomputable def tAug (i:Nat) (te:TE) (ti:gH):TS:=fun D Y H=>∃ x,Y[i]?=some (some x)/\te Y H fun y H1=>ti x y H1 fun z H2=>D.nx (Y.set i (some z)) H2
theorem aqt{i:Nat}{x:Str}{e:Expr}{te:TE}{op:Operator}{ti:gH}{pos':Pos}(hN:X.N.Nodup)(hi:X.N[i]?=some x)(hx:o4 X.env.scope x)(he:PE X e te)(ho:vS X op ti)(hf:X.fn x=true\/X.env.scope.names.lookup x=some .local:=by first | exact .inl rfl | exact .inr rfl | assumption) :
  PS X (.AugAssign (.Name x pos') op e pos) (tAug i te ti):=by
 intro pins s Y H D I h;obtain ⟨v,e1,h⟩:=h;obtain ⟨m,hn,hl⟩:=I.loc;have vis:mY X.env.scope x:=by rcases hx with k | k;exact .inl k;exact .inr (.inl k)
 obtain ⟨u,r,l⟩:=hl i x v hi e1 vis;refine wpAny_AugAssign_Name ?_;have go:wpAny 'b' X.A (eval e X.env) (fun w zx=>wpAny 'b' X.A (inplaceOp op u w) (fun r zw=>wpAny 'b' X.A (storeName X.env x r) (fun _=>SP X pins D .next) X.xe zw) X.xe zx) X.xe s:=by
  refine C2 (he pins s Y H _ I h) fun w s1 ⟨y,H1,I1,r1,q1⟩=>?_
  refine C2 (ho pins s1 Y H1 v y u w _ I1 r r1 q1) fun z s2 ⟨zv,H2,I2,r2,q2⟩=>?_
  exact rE I2 hN hi hx r2 (fun s3 I3=>⟨_,H2,I3,q2⟩) hf
 rcases l with ⟨hk,hm⟩ | ⟨hk,c,hc,N8⟩
 .exact wpAny_loadName_local I.ok.kind hk hn hm go
 .rcases hk with hk | hk
  .exact wpAny_loadName_cell I.ok.kind hk hc N8 go
  .rcases hx with k | k
   .have:X.env.scope.names.lookup x=some .free:=hk
    rw [k] at this;cases this
   .have:X.env.scope.names.lookup x=some .free:=hk
    rw [k] at this;cases this
noncomputable def vT (f:Int->Int->Int):gH:=fun x y H Q=>∃ i j,x=.int i/\y=.int j/\Q (.int (f i j)) H
theorem aqu:vS X .Add (vT fun i j=>i+j):=by
 intro pins s Y H x y v u Q I r1 r2 h;obtain ⟨i,j,e1,e2,q⟩:=h;subst e1;subst e2;obtain ⟨t,rfl⟩:=r1;obtain ⟨t',rfl⟩:=r2;exact iadd_int ⟨.int _,H,I.tok _,⟨_,rfl⟩,q⟩
end
section
variable {X:Cx} {pos:Pos}
noncomputable def rF (c:TT) (tb:TS):TS:=fun D Y H=>∃ W:Nat->St->Hp->Prop,(∃ m,W m Y H)/\∀ m Y H,W m Y H->
 c Y H fun b H1=>if b=true then ∃ N:St->Hp->Prop,(∀ σ' H',N σ' H'->∃ m',m'<m/\W m' σ' H')/\tb { D with nx:=N,ct:=N,bk:=D.nx } Y H1 else D.nx Y H1
theorem alT{c:Expr}{body:List Stmt}{tc:TT}{tb:TS}(hp:PassesOwn 'b' X.A X.env X.xe)(hc:PT X c tc)(hb:Z9 X body tb):PS X (.While c body [] pos) (rF tc tb):=by
 intro pins s Y H D I h;obtain ⟨W,⟨m0,w0⟩,turn⟩:=h;refine wpAny_While (codeAny_whileLoop (fun n s'=>∃ σ' H',Inv X pins σ' H' s'/\W n σ' H') ?_ m0 ⟨Y,H,I,w0⟩);rintro n s1 ⟨σ1,H1,I1,w1⟩;refine wpAny_passesOwn hp (C2 (hc pins s1 σ1 H1 _ I1 (turn n σ1 H1 w1)) fun b s2 ⟨H2,I2,q2⟩=>?_)
 cases b with
 | true=>
  obtain ⟨N,hN,q2⟩:=q2;rw [if_pos rfl];refine wpAny_passesOwn hp (C2 (hb pins s2 σ1 H2 _ I2 q2) fun f s3 q3=>?_)
  cases f with
  | next=>
   obtain ⟨σ3,H3,I3,n3⟩:=q3;obtain ⟨m',hm,w3⟩:=hN σ3 H3 n3;exact ⟨m',hm,σ3,H3,I3,w3⟩
  | cont=>
   obtain ⟨σ3,H3,I3,n3⟩:=q3;obtain ⟨m',hm,w3⟩:=hN σ3 H3 n3;exact ⟨m',hm,σ3,H3,I3,w3⟩
  | brk=>exact q3
  | ret v=>exact q3
 | false=>
  rw [if_neg N6];exact wpAny_execs_nil ⟨σ1,H2,I2,q2⟩
end
structure It where
 go:Nat->Hp->Prop
 yld:Nat->Hp->V->Hp->Prop
 stop:Nat->Hp->Prop
noncomputable def FpOk (X:Cx) (pins:List (Addr×Obj)) (H:Hp) (b:Addr):Prop:=
 H b=none/\b≠X.env.locals/\b∉X.fs/\(b∈X.ex\/X.s₀.heap.objs.size<=b)/\(∀ x c,X.env.cells.lookup x=some c->c≠b)/\∀ p∈X.pn++pins,p.1≠b
theorem Inv.fpOk{X:Cx}{pins:List (Addr×Obj)}{Y:St}{H H':Hp}{s:Shared}{b:Addr}(I:Inv X pins Y H s)(hb:s.heap.objs.size<=b)(hn:H' b=none):FpOk X pins H' b:=by
 refine ⟨hn,Nat.ne_of_gt (Q9 I.lt hb),I.nofs hb,.inr (F8 I.sz hb),fun x c e z=>?_,fun p hp z=>?_⟩
 .obtain ⟨v,q⟩:=I.cell x c e;exact absurd (Q9 q.lt (by rw [z];exact hb)) (aJ _)
 .exact absurd (Q9 (Heap.lt_size (I.pin p hp).1) (by rw [z];exact hb)) (aJ _)
structure Turn(P:Program)(w:World)(K:PySem.W.Frag)(tg:Expr)(J:It)(fp:List Addr)(it:Addr)(tn:Nat->Heap->Prop):Prop where
 mem:it∈fp
 obj:∀ i h,tn i h->∀ b∈fp,∃ o,h.get? b=some o/\∀ v,o.data≠.cell v
 keep:∀ i h h',tn i h->(∀ b∈fp,∀ o,h.get? b=some o->h'.get? b=some o)->tn i h'
 item:∀ (X:Cx),X.prog=P->X.w=w->X.K=K->X.calm=true->∀ (i:Nat) (pins:List (Addr×Obj)) (s:Shared) (Y:St) (H:Hp) (E:Value->Shared->Prop),Inv X pins Y H s->(∀ b∈fp,FpOk X pins H b)->tn i s.heap->J.go i H->
  wpAny (model P w) X.A (pyNext (.ref it)) (fun r s1=>∃ u,r=some u/\
   wpAny (model P w) X.A (letOwnedTupleGo tg (.ref it) u) (fun _ s2=>∃ x H',Inv X pins Y H' s2/\RelV x u/\J.yld i H x H'/\tn (i+1) s2.heap/\∀ b∈fp,H' b=none) E s1) E s
 done:∀ (X:Cx),X.prog=P->X.w=w->X.K=K->X.calm=true->∀ (i:Nat) (pins:List (Addr×Obj)) (s:Shared) (Y:St) (H:Hp) (E:Value->Shared->Prop),Inv X pins Y H s->(∀ b∈fp,FpOk X pins H b)->tn i s.heap->J.stop i H->
  wpAny (model P w) X.A (pyNext (.ref it)) (fun r s1=>r=none/\Inv X pins Y H s1) E s
 self:∀ (A:Around) (i:Nat) (s:Shared) (Q:Value->Shared->Prop) (E:Value->Shared->Prop),tn i s.heap->Q (.ref it) s->wpAny (model P w) A (pyIter (.ref it)) Q E s
noncomputable abbrev TI:=St->Hp->(It->Hp->Prop)->Prop
noncomputable def vU (X:Cx) (pins:List (Addr×Obj)) (Y:St) (tg:Expr) (R:It->Hp->Prop) (itv:Value) (s2:Shared):Prop:=
 ∃ (it:Addr) (fp:List Addr) (tn:Nat->Heap->Prop) (J:It) (H':Hp),itv=.ref it/\Inv X pins Y H' s2/\Turn X.prog X.w X.K tg J fp it tn/\tn 0 s2.heap/\(∀ b∈fp,FpOk X pins H' b)/\R J H'
noncomputable def PI (X:Cx) (tg iter:Expr) (wi:TI):Prop:=
 ∀ (pins:List (Addr×Obj)) (s:Shared) (Y:St) (H:Hp) (R:It->Hp->Prop),Inv X pins Y H s->wi Y H R->
  wpAny 'b' X.A (eval iter X.env) (fun v s1=>wpAny 'b' X.A (pyIter v) (vU X pins Y tg R) X.xe s1) X.xe s
theorem go_of{M : Model}{A : Around}{E : Value -> Shared -> Prop}{s : Shared}{tg : Expr}{it : Addr}{u : Value}{o : Obj}{n : String}{vs : Array Value}{Q : Unit -> Shared -> Prop}(ho : s.heap.get? it = some o)(hc : o.cls = .type n)(hd : o.data = .fields vs)(hn : ["enumerate", "zip", "dict_itemiterator", "dict_reverseitemiterator", "odict_iterator", "itertools.zip_longest", "itertools.pairwise"].contains n = false)(hQ : Q () s) : wpAny M A (letOwnedTupleGo tg (.ref it) u) Q E s := by
  unfold letOwnedTupleGo
  cases tg <;> first
    | exact wpAny_pure hQ
    | (cases u <;> first
        | exact wpAny_pure hQ
        | (refine wpAny_bind (wpAny_load ho ?_)
           rw [hc, hd];show wpAny M A (if (["enumerate", "zip", "dict_itemiterator", "dict_reverseitemiterator", "odict_iterator", "itertools.zip_longest", "itertools.pairwise"].contains n&&vs[0]? == some (rawInt _)) = true then _ else _) Q E s;rw [if_neg (by intro h; rw [hn, jP] at h; cases h)];exact wpAny_pure hQ))
noncomputable def aL (K:PySem.W.Frag) (a:Addr):It:=
 ⟨fun i H=>∃ xs x,D9 K H a xs/\xs[i]?=some x,fun i H x H'=>H'=H/\∀ xs,D9 K H a xs->xs[i]?=some x,fun i H=>∃ xs,D9 K H a xs/\xs.length<=i⟩
noncomputable def dZ (K:PySem.W.Frag) (a:Addr):It:=
 ⟨fun i H=>∃ xs x,C6 K H a xs/\xs[i]?=some x,fun i H x H'=>H'=H/\∀ xs,C6 K H a xs->xs[i]?=some x,fun i H=>∃ xs,C6 K H a xs/\xs.length<=i⟩
noncomputable def o6 (lo:Int) (n:Nat):It:=⟨fun i _=>i<n,fun i H x H'=>H'=H/\x=.int (lo+i),fun i _=>n<=i⟩
theorem ajY{P:Program}{w:World}{K:PySem.W.Frag}{tg:Expr}(a it:Addr):Turn P w K tg (aL K a) [it] it (fun i h=>h.IsListIter it a i) where
 mem:=by simp
 obj:=fun i h st b hb=>by
  have e:b=it:=by simpa using hb
  subst e;obtain ⟨o,e,c,d⟩:=st;exact ⟨o,e,fun v z=>by rw [d] at z;cases z⟩
 keep:=fun i h h' st k=>st.at fun o e=>k it (by simp) o e
 item:=by
  intro X hP hw hK hc i pins s Y H E I hf st hg;subst hP hw hK;obtain ⟨xs,x,hq,hx⟩:=hg;obtain ⟨its,rv,p,hz⟩:=I.list hq;obtain ⟨u,hu,ru⟩:=rv.get hx;sleep 1;refine wpAny_pyNext_list_item st p.isList (x:=u) (by simpa using hu) fun h' st' sb=>?_
  have I1:Inv X pins Y H { s with heap:=h' }:=I.turned (t':=s.toks) (fun b o hb e=>(sb.2 b hb).trans e) f0 f1 f3 f4 f5;obtain ⟨o,e,c,d⟩:=id st';exact ⟨u,rfl,go_of (s:={ s with heap:=h' }) e c d (by decide) ⟨x,H,I1,ru,⟨rfl,fun ys hy=>by rw [I.list_inj hy hq];exact hx⟩,st',fun b hb=>(hf b hb).1⟩⟩
 done:=by
  intro X hP hw hK hc i pins s Y H E I hf st hg;subst hP hw hK;obtain ⟨xs,hq,hx⟩:=hg;obtain ⟨its,rv,p,hz⟩:=I.list hq;sleep 1;have hl:=rv.length;exact wpAny_pyNext_list_end (I.ok.hd hc) st p.isList (by simp;lia) fun h' eb=>⟨rfl,I.turned (t':=s.toks) (fun b o hb e=>eb b o hb e) f0 f1 f3 f4 f5⟩
 self:=fun _ _ _ _ _ st h=>wpAny_pyIter_listiter st h
theorem ajb{P:Program}{w:World}{K:PySem.W.Frag}{tg:Expr}(a it:Addr):Turn P w K tg (dZ K a) [it] it (fun i h=>h.IsTupleIter it a i) where
 mem:=by simp
 obj:=fun i h st b hb=>by
  have e:b=it:=by simpa using hb
  subst e;obtain ⟨o,e,c,d⟩:=st;exact ⟨o,e,fun v z=>by rw [d] at z;cases z⟩
 keep:=fun i h h' st k=>st.at fun o e=>k it (by simp) o e
 item:=by
  intro X hP hw hK hc i pins s Y H E I hf st hg;subst hP hw hK;obtain ⟨xs,x,hq,hx⟩:=hg;obtain ⟨its,rv,p,hz⟩:=I.tuple hq;obtain ⟨u,hu,ru⟩:=rv.get hx;sleep 1;refine wpAny_pyNext_tuple_item st (show s.heap.IsTuple a its.toArray from p) (x:=u) (by simpa using hu) fun h' st' sb=>?_
  have I1:Inv X pins Y H { s with heap:=h' }:=I.turned (t':=s.toks) (fun b o hb e=>(sb.2 b hb).trans e) f0 f1 f3 f4 f5;obtain ⟨o,e,c,d⟩:=id st';exact ⟨u,rfl,go_of (s:={ s with heap:=h' }) e c d (by decide) ⟨x,H,I1,ru,⟨rfl,fun ys hy=>by rw [I.tuple_inj hy hq];exact hx⟩,st',fun b hb=>(hf b hb).1⟩⟩
 done:=by
  intro X hP hw hK hc i pins s Y H E I hf st hg;subst hP hw hK;obtain ⟨xs,hq,hx⟩:=hg;obtain ⟨its,rv,p,hz⟩:=I.tuple hq;sleep 1;have hl:=rv.length;exact wpAny_pyNext_tuple_end (I.ok.hd hc) st (show s.heap.IsTuple a its.toArray from p) (by simp;lia) fun h' eb=>⟨rfl,I.turned (t':=s.toks) (fun b o hb e=>eb b o hb e) f0 f1 f3 f4 f5⟩
 self:=fun _ _ _ _ _ st h=>wpAny_pyIter_tupleiter st h
theorem ajc{P:Program}{w:World}{K:PySem.W.Frag}{tg:Expr}(it:Addr)(lo:Int)(n:Nat):Turn P w K tg (o6 lo n) [it] it (fun i h=>IsRangeIter h it (lo+(i:Nat)*1) ((n:Int)-(i:Nat)) 1) where
 mem:=by simp
 obj:=fun i h st b hb=>by
  have e:b=it:=by simpa using hb
  subst e;exact ⟨_,st,fun v z=>by
   have z':Data.fields _=Data.cell v:=z
   cases z'⟩
 keep:=fun i h h' st k=>k it (by simp) _ st
 item:=by
  intro X hP hw hK hc i pins s Y H E I hf st hg;subst hP hw hK;sleep 1;have W:=Walks.range (prog:=X.prog) (w:=X.w) (I.ok.hd hc) it lo 1 n;refine W.item i s _ _ hg st fun v h' tk hv st' kk=>?_
  obtain ⟨t,rfl⟩:=hv;have I1:Inv X pins Y H { s with heap:=h',toks:=tk }:=I.turned (fun b o hb e=>kk b o (by simpa using hb) e) f0 f1 f3 f4 f5;refine ⟨_,rfl,go_of (s:={ s with heap:=h',toks:=tk }) (n:="range_iterator") st' rfl rfl (by decide) ⟨.int (lo+i),H,I1,⟨t,?_⟩,⟨rfl,rfl⟩,st',fun b hb=>(hf b hb).1⟩⟩;rw [Int.mul_one]
 done:=by
  intro X hP hw hK hc i pins s Y H E I hf st hg;subst hP hw hK;sleep 1;exact wpAny_pyNext_range_end (I.ok.hd hc) st (by have:n<=i:=hg;lia) fun h' eb=>⟨rfl,I.turned (t':=s.toks) (fun b o hb e=>eb b o hb e) f0 f1 f3 f4 f5⟩
 self:=fun _ _ _ _ _ st h=>wpAny_pyIter_rangeiter st h
section
variable {X:Cx} {tg:Expr}
noncomputable def iList (K:PySem.W.Frag) (tl:TE):TI:=fun Y H R=>tl Y H fun x H1=>∃ a,x=.ref a/\(∃ xs,D9 K H1 a xs)/\R (aL K a) H1
noncomputable def iTup (K:PySem.W.Frag) (tl:TE):TI:=fun Y H R=>tl Y H fun x H1=>∃ a,x=.ref a/\(∃ xs,C6 K H1 a xs)/\R (dZ K a) H1
theorem anP{l:Expr}{tl:TE}(hl:PE X l tl):PI X tg l (iList X.K tl):=by
 intro pins s Y H R I h;refine C2 (hl pins s Y H _ I h) fun v s1 ⟨x,H1,I1,r1,q1⟩=>?_
 obtain ⟨a,e,⟨xs,hq⟩,q⟩:=q1;subst e
 cases r1
 obtain ⟨its,rv,p,hz⟩:=I1.list hq;refine wpAny_pyIter_list p.isList ?_;refine ⟨s1.heap.objs.size,[s1.heap.objs.size],_,_,H1,rfl,I1.kept (t':=s1.toks) fun b o e=>Heap.get?_push_of_some _ e,ajY a _,⟨_,Heap.get?_push_size _ rfl,rfl,rfl⟩,fun b hb=>?_,q⟩;have e:b=s1.heap.objs.size:=by simpa using hb
 subst e;exact I1.fpOk (B3 _) (I1.hok.fresh (B3 _))
theorem aqv{l:Expr}{tl:TE}(hl:PE X l tl):PI X tg l (iTup X.K tl):=by
 intro pins s Y H R I h;refine C2 (hl pins s Y H _ I h) fun v s1 ⟨x,H1,I1,r1,q1⟩=>?_
 obtain ⟨a,e,⟨xs,hq⟩,q⟩:=q1;subst e
 cases r1
 obtain ⟨its,rv,p,hz⟩:=I1.tuple hq;refine wpAny_pyIter_tuple (show s1.heap.IsTuple a its.toArray from p) ?_;refine ⟨s1.heap.objs.size,[s1.heap.objs.size],_,_,H1,rfl,I1.kept (t':=s1.toks) fun b o e=>Heap.get?_push_of_some _ e,ajb a _,⟨_,Heap.get?_push_size _ rfl,rfl,rfl⟩,fun b hb=>?_,q⟩;have e:b=s1.heap.objs.size:=by simpa using hb
 subst e;exact I1.fpOk (B3 _) (I1.hok.fresh (B3 _))
theorem aio{pins:List (Addr×Obj)}{Y:St}{H:Hp}{s:Shared}{R:It->Hp->Prop}{E:Value->Shared->Prop}{lo hi:Int}{t u v:Tok}{tk:Nat}(I:Inv X pins Y H s)(h1:-(2 ^ 62)<=lo)(h2:lo<2 ^ 62)(h3:-(2 ^ 62)<=hi)(h4:hi<2 ^ 62)(q:R (o6 lo (hi-lo).toNat) H):wpAny 'b' X.A (pyIter (.ref s.heap.objs.size)) (vU X pins Y tg R) E { s with heap:=s.heap.push { cls:=.type "range",data:=.fields #[.int lo t,.int hi u,.int 1 v] },toks:=tk }:=by
 refine wpAny_pyIter_range (IsRange.new ..) (small_one h1 h2 h3 h4) ?_;have I1:Inv X pins Y H { s with heap:=s.heap.push { cls:=.type "range",data:=.fields #[.int lo t,.int hi u,.int 1 v] },toks:=tk }:=I.kept fun b o e=>Heap.get?_push_of_some _ e
 refine ⟨(s.heap.push { cls:=.type "range",data:=.fields #[.int lo t,.int hi u,.int 1 v] }).objs.size,[(s.heap.push { cls:=.type "range",data:=.fields #[.int lo t,.int hi u,.int 1 v] }).objs.size],_,_,H,rfl,
  I1.kept (t':=tk) fun b o e=>Heap.get?_push_of_some _ e,ajc _ lo (hi-lo).toNat,?_,fun b hb=>?_,q⟩
 .have e1:lo+((0:Nat):Int)*1=lo:=by simp
  have e2:(((hi-lo).toNat:Nat):Int)-((0:Nat):Int)=Builtin.Range.rangeSize lo hi 1:=by rw [rangeSize_one];split <;> lia
  show IsRangeIter _ _ (lo+((0:Nat):Int)*1) ((((hi-lo).toNat:Nat):Int)-((0:Nat):Int)) 1;rw [e1,e2];exact Heap.get?_push_size _ rfl
 .have e:b=(s.heap.push { cls:=.type "range",data:=.fields #[.int lo t,.int hi u,.int 1 v] }).objs.size:=by simpa using hb
  subst e;exact I1.fpOk (B3 _) (I1.hok.fresh (B3 _))
noncomputable def iRng1 (ta:TA):TI:=fun Y H R=>ta Y H fun vs H1=>∃ j:Int,vs=[.int j]/\-(2 ^ 62)<=j/\j<2 ^ 62/\R (o6 0 j.toNat) H1
noncomputable def iRng2 (ta:TA):TI:=fun Y H R=>ta Y H fun vs H1=>∃ i j:Int,vs=[.int i,.int j]/\(-(2 ^ 62)<=i/\i<2 ^ 62/\-(2 ^ 62)<=j/\j<2 ^ 62)/\R (o6 i (j-i).toNat) H1
theorem ajZ{a:Expr}{ta:TA}{p pos:Pos}(hg:Gl X "range")(hm:X.mg "range"=none)(ha:PA X [a] ta)(hs:starEach [a] X.env=[(false,eval a X.env)]:=by rfl):PI X tg (.Call (.Name "range" p) [a] [] pos) (iRng1 ta):=by
 intro pins s Y H R I h;refine Call_ (dY I hg hm boot_range (PyProof.Rows.callWith_type1 (C2 (ha pos pins s Y H _ I h) fun us s1 ⟨vs,H1,I1,r1,q1⟩=>?_) hs rfl));obtain ⟨j,e,q1,q2,q⟩:=q1;subst e
 cases r1 with
 | cons r rr=>
  cases rr
  obtain ⟨t,rfl⟩:=r;exact call_range_1 (aio I1 'a' 'a' q1 q2 (by simpa using q))
theorem aj0{a b:Expr}{ta:TA}{p pos:Pos}(hg:Gl X "range")(hm:X.mg "range"=none)(ha:PA X [a,b] ta)(hs:starEach [a,b] X.env=[(false,eval a X.env),(false,eval b X.env)]:=by rfl)(x5:starEach [b] X.env=[(false,eval b X.env)]:=by rfl) :
  PI X tg (.Call (.Name "range" p) [a,b] [] pos) (iRng2 ta):=by
 intro pins s Y H R I h;refine Call_ (dY I hg hm boot_range (PyProof.Rows.callWith_type1 (C2 (ha pos pins s Y H _ I h) fun us s1 ⟨vs,H1,I1,r1,q1⟩=>?_) (by rw [hs,x5]) (by rw [x5];rfl)));obtain ⟨i,j,e,⟨q1,q2,q3,q4⟩,q⟩:=q1;subst e
 cases r1 with
 | cons r rr=>
  cases rr with
  | cons r' rr=>
   cases rr
   obtain ⟨t,rfl⟩:=r;obtain ⟨t',rfl⟩:=r';exact call_range_2 (aio I1 q1 q2 q3 q4 q)
noncomputable def tFor (wi:TI) (g:TG) (tb:TS):TS:=fun D Y H=>wi Y H fun J H1=>∃ W:Nat->Nat->St->Hp->Prop,(∃ m,W 0 m Y H1)/\∀ i m Y H,W i m Y H->
 (J.stop i H/\D.nx Y H)\/(J.go i H/\∃ N:St->Hp->Prop,(∀ σ' H',N σ' H'->∃ m',m'<m/\W (i+1) m' σ' H')/\∀ x H',J.yld i H x H'->g x Y H' fun σ2 H2=>tb { D with nx:=N,ct:=N,bk:=D.nx } σ2 H2)
noncomputable def jT (fp:List Addr) (h:Heap):List (Addr×Obj):=fp.filterMap fun b=>(h.get? b).map fun o=>(b,o)
theorem jU{fp:List Addr}{h:Heap}{b:Addr}{o:Obj}(hb:b∈fp)(e:h.get? b=some o):(b,o)∈jT fp h:=jM.mpr ⟨b,hb,by rw [e];rfl⟩
theorem aj1{fp:List Addr}{h:Heap}{p:Addr×Obj}(hp:p∈jT fp h):p.1∈fp/\h.get? p.1=some p.2:=by
 obtain ⟨b,hb,e⟩:=jM.mp hp
 cases q:h.get? b with
 | none=>rw [q] at e;cases e
 | some o=>
  rw [q] at e;have e':(b,o)=p:=Option.some.inj e;subst e';exact ⟨hb,q⟩
theorem Inv.pinned{pins:List (Addr×Obj)}{Y:St}{H:Hp}{s:Shared}{fp:List Addr}(I:Inv X pins Y H s)(hf:∀ b∈fp,FpOk X pins H b)(ho:∀ b∈fp,∃ o,s.heap.get? b=some o/\∀ v,o.data≠.cell v):Inv X (pins++jT fp s.heap) Y H s:=
 I.pins_of fun p hp=>(E4.mp hp).elim (fun z=>I.pin p (V1 _ z)) fun z=>by
  obtain ⟨hb,e⟩:=aj1 z;obtain ⟨f0,f1,f2,_⟩:=hf p.1 hb;obtain ⟨o,e',d⟩:=ho p.1 hb;rw [e] at e';cases e';exact ⟨e,f0,f1,f2,d⟩
theorem Inv.unpinned{pins pl:List (Addr×Obj)}{Y:St}{H:Hp}{s:Shared}(I:Inv X (pins++pl) Y H s):Inv X pins Y H s:=I.pins_of fun p hp=>I.pin p (V1 _ (T8 _ hp))
theorem aqw{iter:Expr}{body:List Stmt}{wi:TI}{g:TG}{tb:TS}{pos:Pos}(hp:PassesOwn 'b' X.A X.env X.xe)(hc:X.calm=true)(hi:PI X tg iter wi)(hg:PG X tg g)(hb:Z9 X body tb)(hs:∀ x,foldedSetIterable iter X.env x=pure x:=by intro _;rfl):PS X (.For tg iter body [] pos) (tFor wi g tb):=by
 intro pins s Y H D I h;refine wpAny_For (C2 (hi pins s Y H _ I h) fun v s1 h1=>C2 h1 fun itv s2 h2=>?_) hs;obtain ⟨it,fp,tn,J,H2,e,I2,T,oS,f2,W,⟨m0,w0⟩,turn⟩:=h2;subst e;have stat:∀ {H':Hp},(∀ b∈fp,H' b=none)->∀ b∈fp,FpOk X pins H' b:=fun hn b hb=>⟨hn b hb,(f2 b hb).2⟩
 refine codeAny_forLoop_any (fun n s'=>∃ i σ' H',Inv X pins σ' H' s'/\tn i s'.heap/\(∀ b∈fp,H' b=none)/\W i n σ' H') ?_ m0 ⟨0,Y,H2,I2,oS,fun b hb=>(f2 b hb).1,w0⟩;rintro n s3 ⟨i,σ3,H3,I3,eY,oT,w3⟩
 rcases turn i n σ3 H3 w3 with ⟨stop,qn⟩ | ⟨go,N,hN,step⟩
 .refine wpAny_passesOwn hp (C2 (T.done X rfl rfl rfl hc i pins s3 σ3 H3 X.xe I3 (stat oT) eY stop) fun r s4 ⟨hr,I4⟩=>?_);subst hr;exact wpAny_execs_nil ⟨σ3,H3,I4,qn⟩
 .refine wpAny_passesOwn hp (C2 (T.item X rfl rfl rfl hc i pins s3 σ3 H3 X.xe I3 (stat oT) eY go) fun r s4 ⟨u,hr,h4⟩=>?_);subst hr;refine wpAny_passesOwn hp (C2 h4 fun _ s5 ⟨x,H5,I5,r5,y5,iM,fr5⟩=>?_);have I5':=I5.pinned (stat fr5) (T.obj _ _ iM);refine wpAny_passesOwn hp (C2 (hg _ s5 σ3 H5 x u _ I5' r5 (step x H5 y5)) fun _ s6 ⟨σ6,H6,I6,q6⟩=>?_);refine wpAny_passesOwn hp (C2 (hb _ s6 σ6 H6 _ I6 q6) fun f s7 q7=>?_);have again:∀ {σ7:St} {H7:Hp},Inv X (pins++jT fp s5.heap) σ7 H7 s7->N σ7 H7->∃ m,m<n/\∃ i σ' H',Inv X pins σ' H' s7/\tn i s7.heap/\(∀ b∈fp,H' b=none)/\W i m σ' H':=fun {σ7 H7} I7 n7=>by
   obtain ⟨m',hm,w7⟩:=hN σ7 H7 n7;refine ⟨m',hm,i+1,σ7,H7,I7.unpinned,T.keep _ _ _ iM fun b hb o e=>(I7.pin (b,o) (V1 _ (V1 _ (jU hb e)))).1,fun b hb=>?_,w7⟩;obtain ⟨o,e,d⟩:=T.obj _ _ iM b hb;exact (I7.pin (b,o) (V1 _ (V1 _ (jU hb e)))).2.1
  cases f with
  | next=>obtain ⟨σ7,H7,I7,n7⟩:=q7;exact again I7 n7
  | cont=>obtain ⟨σ7,H7,I7,n7⟩:=q7;exact again I7 n7
  | brk=>obtain ⟨σ7,H7,I7,q7⟩:=q7;exact ⟨σ7,H7,I7.unpinned,q7⟩
  | ret v=>obtain ⟨x7,σ7,H7,I7,r7,q7⟩:=q7;exact ⟨x7,σ7,H7,I7.unpinned,r7,q7⟩
end
theorem alU{K:PySem.W.Frag}{a:Addr}{xs:List V}{g:TG}{tb:TS}{D:Ends}{Y:St}{H:Hp}(Pv:Nat->St->Hp->Prop)(h0:Pv 0 Y H)(hl:∀ i Y H,i<=xs.length->Pv i Y H->D9 K H a xs)(hs:∀ i x Y H,xs[i]?=some x->Pv i Y H->g x Y H fun σ2 H2=>tb { D with nx:=Pv (i+1),ct:=Pv (i+1),bk:=D.nx } σ2 H2)(hd:∀ Y H,Pv xs.length Y H->D.nx Y H) :
  ∃ W:Nat->Nat->St->Hp->Prop,(∃ m,W 0 m Y H)/\∀ i m Y H,W i m Y H->
   ((aL K a).stop i H/\D.nx Y H)\/((aL K a).go i H/\∃ N:St->Hp->Prop,(∀ σ' H',N σ' H'->∃ m',m'<m/\W (i+1) m' σ' H')/\∀ x H',(aL K a).yld i H x H'->g x Y H' fun σ2 H2=>tb { D with nx:=N,ct:=N,bk:=D.nx } σ2 H2):=by
 refine ⟨fun i m Y H=>m=xs.length-i/\i<=xs.length/\Pv i Y H,⟨xs.length,by simp,F9 _,h0⟩,?_⟩;rintro i m Y H ⟨rfl,hi,p⟩;have q:=hl i Y H hi p
 by_cases C9:i<xs.length
 .refine .inr ⟨⟨xs,xs[i],q,by simp [C9]⟩,Pv (i+1),fun σ' H' p'=>⟨xs.length-(i+1),by lia,rfl,C9,p'⟩,fun x H' y=>?_⟩;obtain ⟨e,y⟩:=y;subst e;exact hs i x Y _ (y xs q) p
 .have e:i=xs.length:=by lia
  subst e;exact .inl ⟨⟨xs,q,B3 _⟩,hd Y H p⟩
theorem anQ{K:PySem.W.Frag}{a:Addr}{xs:List V}{g:TG}{tb:TS}{D:Ends}{Y:St}{H:Hp}(Pv:Nat->St->Hp->Prop)(h0:Pv 0 Y H)(hl:∀ i Y H,i<=xs.length->Pv i Y H->C6 K H a xs)(hs:∀ i x Y H,xs[i]?=some x->Pv i Y H->g x Y H fun σ2 H2=>tb { D with nx:=Pv (i+1),ct:=Pv (i+1),bk:=D.nx } σ2 H2)(hd:∀ Y H,Pv xs.length Y H->D.nx Y H) :
  ∃ W:Nat->Nat->St->Hp->Prop,(∃ m,W 0 m Y H)/\∀ i m Y H,W i m Y H->
   ((dZ K a).stop i H/\D.nx Y H)\/((dZ K a).go i H/\∃ N:St->Hp->Prop,(∀ σ' H',N σ' H'->∃ m',m'<m/\W (i+1) m' σ' H')/\∀ x H',(dZ K a).yld i H x H'->g x Y H' fun σ2 H2=>tb { D with nx:=N,ct:=N,bk:=D.nx } σ2 H2):=by
 refine ⟨fun i m Y H=>m=xs.length-i/\i<=xs.length/\Pv i Y H,⟨xs.length,by simp,F9 _,h0⟩,?_⟩;rintro i m Y H ⟨rfl,hi,p⟩;have q:=hl i Y H hi p
 by_cases C9:i<xs.length
 .refine .inr ⟨⟨xs,xs[i],q,by simp [C9]⟩,Pv (i+1),fun σ' H' p'=>⟨xs.length-(i+1),by lia,rfl,C9,p'⟩,fun x H' y=>?_⟩;obtain ⟨e,y⟩:=y;subst e;exact hs i x Y _ (y xs q) p
 .have e:i=xs.length:=by lia
  subst e;exact .inl ⟨⟨xs,q,B3 _⟩,hd Y H p⟩
theorem aj2{lo:Int}{n:Nat}{g:TG}{tb:TS}{D:Ends}{Y:St}{H:Hp}(Pv:Nat->St->Hp->Prop)(h0:Pv 0 Y H)(hs:∀ i Y H,i<n->Pv i Y H->g (.int (lo+i)) Y H fun σ2 H2=>tb { D with nx:=Pv (i+1),ct:=Pv (i+1),bk:=D.nx } σ2 H2)(hd:∀ Y H,Pv n Y H->D.nx Y H) :
  ∃ W:Nat->Nat->St->Hp->Prop,(∃ m,W 0 m Y H)/\∀ i m Y H,W i m Y H->
   ((o6 lo n).stop i H/\D.nx Y H)\/((o6 lo n).go i H/\∃ N:St->Hp->Prop,(∀ σ' H',N σ' H'->∃ m',m'<m/\W (i+1) m' σ' H')/\∀ x H',(o6 lo n).yld i H x H'->g x Y H' fun σ2 H2=>tb { D with nx:=N,ct:=N,bk:=D.nx } σ2 H2):=by
 refine ⟨fun i m Y H=>m=n-i/\i<=n/\Pv i Y H,⟨n,by simp,F9 _,h0⟩,?_⟩;rintro i m Y H ⟨rfl,hi,p⟩
 by_cases C9:i<n
 .refine .inr ⟨C9,Pv (i+1),fun σ' H' p'=>⟨n-(i+1),by lia,rfl,C9,p'⟩,fun x H' y=>?_⟩;obtain ⟨e,y⟩:=y;subst e y;exact hs i Y _ C9 p
 .have e:i=n:=by lia
  subst e;exact .inl ⟨B3 _,hd Y H p⟩
noncomputable abbrev R2:=V->V->Hp->VK->Prop
noncomputable def L3 (X:Cx) (f:Value->Value->Sem Value) (r:R2):Prop:=
 ∀ (pins:List (Addr×Obj)) (s:Shared) (Y:St) (H:Hp) (x y:V) (v u:Value) (Q:VK),Inv X pins Y H s->RelV x v->RelV y u->r x y H Q->
  wpAny 'b' X.A (f v u) (EP X pins Y Q) X.xe s
noncomputable def rG (X:Cx) (f:Value->Sem Value) (r:V->Hp->VK->Prop):Prop:=
 ∀ (pins:List (Addr×Obj)) (s:Shared) (Y:St) (H:Hp) (x:V) (v:Value) (Q:VK),Inv X pins Y H s->RelV x v->r x H Q->
  wpAny 'b' X.A (f v) (EP X pins Y Q) X.xe s
noncomputable def CallR (X:Cx) (f:Value) (r:List V->Hp->VK->Prop):Prop:=
 ∀ (pins:List (Addr×Obj)) (s:Shared) (Y:St) (H:Hp) (xs:List V) (us:List Value) (Q:VK),Inv X pins Y H s->Vals xs us->r xs H Q->
  wpAny 'b' X.A (call f us) (EP X pins Y Q) X.xe s
noncomputable def TruR (X:Cx) (r:V->Hp->(Bool->Hp->Prop)->Prop):Prop:=
 ∀ (pins:List (Addr×Obj)) (s:Shared) (Y:St) (H:Hp) (x:V) (v:Value) (Q:Bool->Hp->Prop),Inv X pins Y H s->RelV x v->r x H Q->
  wpAny 'b' X.A (truthy v) (TP X pins Y Q) X.xe s
noncomputable def cC (r:R2) (ta tb:TE):TE:=fun Y H Q=>ta Y H fun x H1=>tb Y H1 fun y H2=>r x y H2 Q
noncomputable def vV (r:V->Hp->VK->Prop) (ta:TE):TE:=fun Y H Q=>ta Y H fun x H1=>r x H1 Q
noncomputable def rI (C:Int->Int->Prop) (g:Int->Int->V):R2:=fun x y H Q=>∃ i j,x=.int i/\y=.int j/\C i j/\Q (g i j) H
noncomputable def aM (g:Int->Int->V):R2:=fun x y H Q=>∃ i j,x=.int i/\y=.int j/\Q (g i j) H
noncomputable def rU (g:Int->V):V->Hp->VK->Prop:=fun x H Q=>∃ i,x=.int i/\Q (g i) H
section
variable {X:Cx} {a b c:Expr} {ta tb tc:TE} {pos:Pos}
theorem binT(ha:PE X a ta)(hb:PE X b tb){pins:List (Addr×Obj)}{s:Shared}{Y:St}{H:Hp}{R:V->V->Hp->Prop}(I:Inv X pins Y H s)(h:ta Y H fun x H1=>tb Y H1 fun y H2=>R x y H2){Q:Value->Shared->Prop}{f:Value->Value->Sem Value}(hf:∀ v u s2 x y H2,Inv X pins Y H2 s2->RelV x v->RelV y u->R x y H2->wpAny 'b' X.A (f v u) Q X.xe s2) :
  wpAny 'b' X.A (eval a X.env) (fun v zu=>wpAny 'b' X.A (eval b X.env) (fun u zx=>wpAny 'b' X.A (f v u) Q X.xe zx) X.xe zu) X.xe s:=by
 refine C2 (ha pins s Y H _ I h) fun v s1 ⟨x,H1,I1,r1,q1⟩=>?_
 refine C2 (hb pins s1 Y H1 _ I1 q1) fun u s2 ⟨y,H2,I2,r2,q2⟩=>?_
 exact hf v u s2 x y H2 I2 r1 r2 q2
theorem pe_op{op:Operator}{r:R2}(ho:L3 X (binaryOp op) r)(ha:PE X a ta)(hb:PE X b tb):PE X (.BinOp a op b pos) (cC r ta tb):=by
 intro pins s Y H Q I h;exact wpAny_BinOp (binT ha hb I h fun v u s2 x y H2 I2 rx ry q=>ho pins s2 Y H2 x y v u Q I2 rx ry q)
theorem pe_un{op:UnaryOp}{r:V->Hp->VK->Prop}(ho:rG X (unaryOp op) r)(ha:PE X a ta):PE X (.UnaryOp op a pos) (vV r ta):=by
 intro pins s Y H Q I h;exact UnaryOp_ (C2 (ha pins s Y H _ I h) fun v s1 ⟨x,H1,I1,r1,q1⟩=>ho pins s1 Y H1 x v Q I1 r1 q1)
theorem rH{f:Value->Value->Sem Value}{C:Int->Int->Prop}{g:Int->Int->Int}(rule:∀ (i j:Int) (t u:Tok) (s:Shared) (Q:Value->Shared->Prop) (E:Value->Shared->Prop),C i j->Q (.int (g i j) s.toks) { s with toks:=s.toks+1 }->wpAny 'b' X.A (f (.int i t) (.int j u)) Q E s) :
  L3 X f (rI C fun i j=>.int (g i j)):=by
 sleep 0;obtain ⟨i,j,rfl,rfl,hc,q⟩:=h;obtain ⟨t,rfl⟩:=rx;obtain ⟨t',rfl⟩:=ry;exact rule i j t t' s _ _ hc ⟨.int (g i j),H,I.tok _,⟨_,rfl⟩,q⟩
theorem opI0{f:Value->Value->Sem Value}{g:Int->Int->Int}(rule:∀ (i j:Int) (t u:Tok) (s:Shared) (Q:Value->Shared->Prop) (E:Value->Shared->Prop),Q (.int (g i j) s.toks) { s with toks:=s.toks+1 }->wpAny 'b' X.A (f (.int i t) (.int j u)) Q E s) :
  L3 X f (aM fun i j=>.int (g i j)):=by
 sleep 0;obtain ⟨i,j,rfl,rfl,q⟩:=h;obtain ⟨t,rfl⟩:=rx;obtain ⟨t',rfl⟩:=ry;exact rule i j t t' s _ _ ⟨.int (g i j),H,I.tok _,⟨_,rfl⟩,q⟩
theorem opB0{f:Value->Value->Sem Value}{g:Int->Int->Bool}(rule:∀ (i j:Int) (t u:Tok) (s:Shared) (Q:Value->Shared->Prop) (E:Value->Shared->Prop),Q (.bool (g i j)) s->wpAny 'b' X.A (f (.int i t) (.int j u)) Q E s) :
  L3 X f (aM fun i j=>.bl (g i j)):=by
 sleep 0;obtain ⟨i,j,rfl,rfl,q⟩:=h;obtain ⟨t,rfl⟩:=rx;obtain ⟨t',rfl⟩:=ry;exact rule i j t t' s _ _ ⟨.bl (g i j),H,I,rfl,q⟩
noncomputable def CDiv (i j:Int):Prop:=0<j/\j<1073741824
noncomputable def CPow (i j:Int):Prop:=0<=j/\j<=1000000/\i.natAbs<2 ^ 64
noncomputable def CMul (i j:Int):Prop:=(-(2 ^ 64)<i/\i<2 ^ 64)\/(-(2 ^ 64)<j/\j<2 ^ 64)
theorem CMul.ok{i j:Int}(h:CMul i j):IntMulOk i j:=by
 rcases h with ⟨h1,h2⟩ | ⟨h1,h2⟩
 .exact .of_left (intBits_le_64 h1 h2)
 .exact .of_right (intBits_le_64 h1 h2)
theorem aqx:L3 X (binaryOp .Add) (aM fun i j=>.int (i+j)):=opI0 fun _ _ _ _ _ _ _ q=>add_int q
theorem aqy:L3 X (binaryOp .Sub) (aM fun i j=>.int (i-j)):=opI0 fun _ _ _ _ _ _ _ q=>sub_int q
theorem aqz:L3 X (binaryOp .Mult) (rI CMul fun i j=>.int (i*j)):=rH fun _ _ _ _ _ _ _ hc q=>mul_int q hc.ok
theorem anR:L3 X (binaryOp .FloorDiv) (rI CDiv fun i j=>.int (i / j)):=rH fun i j _ _ _ _ _ hc q=>by
 have h1:(0:Int)<j:=hc.1;have h2:j<1073741824:=hc.2;exact floordiv_int 'a' (by rw [Int.fdiv_eq_ediv_of_nonneg i 'a'];exact q) (.inl (PyProof.noPylong_small 'a'))
theorem aqA:L3 X (binaryOp .Mod) (rI (fun _ j=>0<j) fun i j=>.int (i % j)):=rH fun i j _ _ _ _ _ hc q=>by
 have h1:(0:Int)<j:=hc;exact mod_int' 'a' (by rw [Int.fmod_eq_emod_of_nonneg i 'a'];exact q)
theorem aqB:L3 X (binaryOp .Pow) (rI CPow fun i j=>.int (i ^ j.toNat)):=rH fun _ _ _ _ _ _ _ hc q=>pow_int_small hc.1 hc.2.1 hc.2.2 q
theorem unI{f:Value->Sem Value}{g:Int->Int}(rule:∀ (i:Int) (t:Tok) (s:Shared) (Q:Value->Shared->Prop) (E:Value->Shared->Prop),Q (.int (g i) s.toks) { s with toks:=s.toks+1 }->wpAny 'b' X.A (f (.int i t)) Q E s) :
  rG X f (rU fun i=>.int (g i)):=by
 intro pins s Y H x v Q I rx h;obtain ⟨i,rfl,q⟩:=h;obtain ⟨t,rfl⟩:=rx;exact rule i t s _ _ ⟨.int (g i),H,I.tok _,⟨_,rfl⟩,q⟩
theorem aqC:rG X (unaryOp .USub) (rU fun i=>.int (-i)):=unI fun _ _ _ _ _ q=>neg_int q
end
noncomputable def scal:V->V->Bool
 | .non,.non=>true | .non,.int _=>true | .int _,.non=>true | .non,.bl _=>true | .bl _,.non=>true | .non,.str _=>true | .str _,.non=>true
 | .int _,.int _=>true | .bl _,.bl _=>true | .str _,.str _=>true | .byt _,.byt _=>true
 | .int _,.str _=>true | .str _,.int _=>true | .bl _,.str _=>true | .str _,.bl _=>true
 | _,_=>false
noncomputable def rEq:R2:=fun x y H Q=>scal x y=true/\Q (.bl (decide (x=y))) H
noncomputable def rNe:R2:=fun x y H Q=>scal x y=true/\Q (.bl (!decide (x=y))) H
theorem aj3{i j:Int} : decide (V.int i=V.int j)=(i==j):=by
 rw [aK]
 simp
theorem anc{i j:Bool} : decide (V.bl i=V.bl j)=(i==j):=by
 rw [aK]
 simp
theorem aj4{i j:Str} : decide (V.str i=V.str j)=(i==j):=by
 rw [aK]
 simp
theorem aj5{i j:Array UInt8} : decide (V.byt i=V.byt j)=(i.toList==j.toList):=by
 rw [aK]
 cases i
 cases j
 simp
section
variable {X:Cx} {a b c:Expr} {ta tb tc:TE} {pos:Pos}
theorem N7{pins:List (Addr×Obj)}{Y:St}{H:Hp}{s:Shared}{Q:VK}{k k':Bool}(I:Inv X pins Y H s)(q:Q (.bl k) H)(e:k=k'):EP X pins Y Q (.bool k') s:=by
 subst e;exact ⟨.bl k,H,I,rfl,q⟩
theorem op_eq:L3 X (compareOp .Eq) rEq:=by
 sleep 0;obtain ⟨hs,q⟩:=h
 cases x with
 | non=>
  cases rx
  cases y with
  | non=>cases ry;exact PySem.EqNone.eq_none_none (N7 I q (by simp))
  | bl j=>cases ry;exact PySem.EqNone.eq_none_bool (N7 I q (by simp))
  | int j=>obtain ⟨t',rfl⟩:=ry;exact PySem.EqNone.eq_none_int (N7 I q (by simp))
  | str j=>obtain ⟨t',rfl⟩:=ry;exact PySem.EqNone.eq_none_str (N7 I q (by simp))
  | _=>exact absurd (show false=true from hs) N6
 | bl i=>
  cases rx
  cases y with
  | non=>cases ry;exact PySem.EqNone.eq_bool_none (N7 I q (by simp))
  | bl j=>cases ry;exact eq_bool (N7 I q anc)
  | str j=>obtain ⟨t',rfl⟩:=ry;exact PySem.EqMixed.eq_bool_str (N7 I q (by simp))
  | _=>exact absurd (show false=true from hs) N6
 | int i=>
  obtain ⟨t,rfl⟩:=rx
  cases y with
  | non=>cases ry;exact PySem.EqNone.eq_int_none (N7 I q (by simp))
  | int j=>obtain ⟨t',rfl⟩:=ry;exact eq_int (N7 I q aj3)
  | str j=>obtain ⟨t',rfl⟩:=ry;exact PySem.EqMixed.eq_int_str (N7 I q (by simp))
  | _=>exact absurd (show false=true from hs) N6
 | str i=>
  obtain ⟨t,rfl⟩:=rx
  cases y with
  | non=>cases ry;exact PySem.EqNone.eq_str_none (N7 I q (by simp))
  | bl j=>cases ry;exact PySem.EqMixed.eq_str_bool (N7 I q (by simp))
  | int j=>obtain ⟨t',rfl⟩:=ry;exact PySem.EqMixed.eq_str_int (N7 I q (by simp))
  | str j=>obtain ⟨t',rfl⟩:=ry;exact eq_str (N7 I q aj4)
  | _=>exact absurd (show false=true from hs) N6
 | byt i=>
  obtain ⟨t,rfl⟩:=rx
  cases y with
  | byt j=>obtain ⟨t',rfl⟩:=ry;exact PySem.W.eq_bytes (N7 I q aj5)
  | _=>exact absurd (show false=true from hs) N6
 | _=>cases y <;> exact absurd (show false=true from hs) N6
theorem op_ne:L3 X (compareOp .NotEq) rNe:=by
 sleep 0;obtain ⟨hs,q⟩:=h
 cases x with
 | non=>
  cases rx
  cases y with
  | non=>cases ry;exact PySem.EqNone.ne_none_none (N7 I q (by simp))
  | bl j=>cases ry;exact PySem.EqNone.ne_none_bool (N7 I q (by simp))
  | int j=>obtain ⟨t',rfl⟩:=ry;exact PySem.EqNone.ne_none_int (N7 I q (by simp))
  | str j=>obtain ⟨t',rfl⟩:=ry;exact PySem.EqNone.ne_none_str (N7 I q (by simp))
  | _=>exact absurd (show false=true from hs) N6
 | bl i=>
  cases rx
  cases y with
  | non=>cases ry;exact PySem.EqNone.ne_bool_none (N7 I q (by simp))
  | bl j=>cases ry;exact ne_bool (N7 I q (congrArg not anc))
  | str j=>obtain ⟨t',rfl⟩:=ry;exact PySem.EqMixed.ne_bool_str (N7 I q (by simp))
  | _=>exact absurd (show false=true from hs) N6
 | int i=>
  obtain ⟨t,rfl⟩:=rx
  cases y with
  | non=>cases ry;exact PySem.EqNone.ne_int_none (N7 I q (by simp))
  | int j=>obtain ⟨t',rfl⟩:=ry;exact ne_int (N7 I q (congrArg not aj3))
  | str j=>obtain ⟨t',rfl⟩:=ry;exact PySem.EqMixed.ne_int_str (N7 I q (by simp))
  | _=>exact absurd (show false=true from hs) N6
 | str i=>
  obtain ⟨t,rfl⟩:=rx
  cases y with
  | non=>cases ry;exact PySem.EqNone.ne_str_none (N7 I q (by simp))
  | bl j=>cases ry;exact PySem.EqMixed.ne_str_bool (N7 I q (by simp))
  | int j=>obtain ⟨t',rfl⟩:=ry;exact PySem.EqMixed.ne_str_int (N7 I q (by simp))
  | str j=>obtain ⟨t',rfl⟩:=ry;exact ne_str (N7 I q (congrArg not aj4))
  | _=>exact absurd (show false=true from hs) N6
 | byt i=>
  obtain ⟨t,rfl⟩:=rx
  cases y with
  | byt j=>obtain ⟨t',rfl⟩:=ry;exact PySem.W.ne_bytes (N7 I q (congrArg not aj5))
  | _=>exact absurd (show false=true from hs) N6
 | _=>cases y <;> exact absurd (show false=true from hs) N6
theorem op_lt:L3 X (compareOp .Lt) (aM fun i j=>.bl (decide (i<j))):=opB0 fun _ _ _ _ _ _ _ q=>lt_int q
theorem op_le:L3 X (compareOp .LtE) (aM fun i j=>.bl (decide (i<=j))):=opB0 fun _ _ _ _ _ _ _ q=>le_int q
theorem op_gt:L3 X (compareOp .Gt) (aM fun i j=>.bl (decide (j<i))):=opB0 fun _ _ _ _ _ _ _ q=>gt_int q
theorem agl:L3 X (compareOp .Lt) (fun x y H Q=>∃ i j,x=.str i/\y=.str j/\Q (.bl (decide (i.cps.toList<j.cps.toList))) H):=by
 sleep 0;obtain ⟨i,j,rfl,rfl,q⟩:=h;obtain ⟨t,rfl⟩:=rx;obtain ⟨t',rfl⟩:=ry;exact lt_str (N7 I q rfl)
theorem aj6:L3 X (compareOp .In) (fun x y H Q=>∃ i j,x=.str i/\y=.str j/\Q (.bl (!(Builtin.Str.occurrences j i 0 j.length 1).isEmpty)) H):=by
 sleep 0;obtain ⟨i,j,rfl,rfl,q⟩:=h;obtain ⟨t,rfl⟩:=rx;obtain ⟨t',rfl⟩:=ry;exact in_str (N7 I q rfl)
theorem ane(b:Expr){op:CmpOp}(h:op≠.In:=by decide)(h2:op≠.NotIn:=by decide):behindInMarks op b=false:=by
 have e1:(op==CmpOp.In)=false:=by cases op <;> first | rfl | exact absurd rfl h
 have e2:(op==CmpOp.NotIn)=false:=by cases op <;> first | rfl | exact absurd rfl h2
 cases b <;> simp [behindInMarks,e1,e2]
theorem anS{op:CmpOp}{r:R2}(ho:L3 X (compareOp op) r)(ha:PE X a ta)(hb:PE X b tb)(hm:behindInMarks op b=false):PE X (.Compare a [op] [b] pos) (cC r ta tb):=by
 intro pins s Y H Q I h;exact wpAny_Compare1 (binT ha hb I h fun v u s2 x y H2 I2 rx ry q=>ho pins s2 Y H2 x y v u Q I2 rx ry q) hm
noncomputable def tTest (t:TE):TT:=fun Y H Q=>t Y H fun x H'=>∃ k,x=.bl k/\Q k H'
theorem anT{op:CmpOp}{r:R2}(ho:L3 X (compareOp op) r)(ha:PE X a ta)(hb:PE X b tb)(hm:behindInMarks op b=false):PT X (.Compare a [op] [b] pos) (tTest (cC r ta tb)):=by
 intro pins s Y H Q I h;refine wpAny_isTrue_Compare1 (C2 (ha pins s Y H _ I h) fun v s1 ⟨x,H1,I1,r1,q1⟩=>C2 (hb pins s1 Y H1 _ I1 q1) fun u s2 ⟨y,H2,I2,r2,q2⟩=>
  C2 (ho pins s2 Y H2 x y v u _ I2 r1 r2 q2) fun c s3 ⟨z,H3,I3,r3,k,e,q3⟩=>?_) hm
 subst e
 cases r3
 exact wpAny_truthy_bool ⟨H3,I3,q3⟩
noncomputable def vW (r r':R2) (ta tb tc:TE):TE:=fun Y H Q=>ta Y H fun x H1=>tb Y H1 fun y H2=>r x y H2 fun z H3=>∃ k,z=.bl k/\
 (if k=true then tc Y H3 fun w' H4=>r' y w' H4 Q else Q (.bl false) H3)
theorem alV{op op':CmpOp}{r r':R2}(ho:L3 X (compareOp op) r)(w8:L3 X (compareOp op') r')(ha:PE X a ta)(hb:PE X b tb)(hc:PE X c tc)(hm:lastMarks [op,op'] [b,c]=false:=by with_unfolding_all rfl):PE X (.Compare a [op,op'] [b,c] pos) (vW r r' ta tb tc):=by
 intro pins s Y H Q I h;refine Compare_chain (C2 (ha pins s Y H _ I h) fun v s1 ⟨x,H1,I1,r1,q1⟩=>chain_link (C2 (hb pins s1 Y H1 _ I1 q1) fun u s2 ⟨y,H2,I2,r2,q2⟩=>
  C2 (ho pins s2 Y H2 x y v u _ I2 r1 r2 q2) fun d s3 ⟨z,H3,I3,r3,k,e,q3⟩=>?_)) hm
 subst e
 cases r3
 refine wpAny_truthy_bool ?_
 cases k with
 | false=>exact ite_ff ⟨.bl false,H3,I3,rfl,q3⟩
 | true=>exact ite_tt (chain_last (C2 (hc pins s3 Y H3 _ I3 q3) fun w' s4 ⟨z',H4,I4,r4,q4⟩=>w8 pins s4 Y H4 y z' u w' Q I4 r2 r4 q4))
noncomputable def TruV (K:PySem.W.Frag) (x:V) (H:Hp) (k:Bool):Prop:=
 match x with
 | .non=>k=false
 | .bl b=>k=b
 | .int i=>k=(i != 0)
 | .str y=>y.length<=sizeLine/\k=((y.length:Int) != 0)
 | .byt y=>y.size<=sizeLine/\k=((y.size:Int) != 0)
 | .ref p=>(∃ xs,D9 K H p xs/\k=!xs.isEmpty)\/(∃ xs,C6 K H p xs/\k=!xs.isEmpty)\/∃ kvs,H p=some (.dK kvs)/\k=!kvs.isEmpty
 | _=>False
theorem ajd{κ:Type}{kvs:List (κ×V)}{vs:List (κ×Value)}(r:KV kvs vs):(!vs.isEmpty)=!kvs.isEmpty:=by
 cases r <;> rfl
theorem afp{xs:List V}{its:List Value}(r:Vals xs its):(!its.toArray.isEmpty)=!xs.isEmpty:=by
 cases r <;> simp
theorem nA:(sizeLine:Nat)<2 ^ 63:=by rw [sizeLine_eq];decide
theorem aqD:TruR X (fun x H Q=>∃ k,TruV X.K x H k/\Q k H):=by
 intro pins s Y H x v Q I rx h;obtain ⟨k,e,q⟩:=h;have hl:=nA;have hs:sizeLine=16777216:=sizeLine_eq
 cases x with
 | non=>
  cases rx
  have e':k=false:=e;subst e';exact truthy_none ⟨H,I,q⟩
 | bl b=>
  cases rx
  have e':k=b:=e;subst e';exact wpAny_truthy_bool ⟨H,I,q⟩
 | int i=>
  obtain ⟨t,rfl⟩:=rx;have e':k=(i != 0):=e;subst e';exact PySem.P.truthy_int ⟨H,I,q⟩
 | str y=>
  obtain ⟨t,rfl⟩:=rx;obtain ⟨hy,e'⟩:y.length<=sizeLine/\k=((y.length:Int) != 0):=e;subst e';exact PySem.P.truthy_str 'a' ⟨H,I.tok _,q⟩
 | byt y=>
  obtain ⟨t,rfl⟩:=rx;obtain ⟨hy,e'⟩:y.size<=sizeLine/\k=((y.size:Int) != 0):=e;subst e';exact PySem.W.truthy_bytes 'a' ⟨H,I.tok _,q⟩
 | ref p=>
  cases rx
  have e':(∃ xs,D9 X.K H p xs/\k=!xs.isEmpty)\/(∃ xs,C6 X.K H p xs/\k=!xs.isEmpty)\/∃ kvs,H p=some (.dK kvs)/\k=!kvs.isEmpty:=e
  rcases e' with ⟨xs,hx,e'⟩ | ⟨xs,hx,e'⟩ | ⟨kvs,hx,e'⟩
  .subst e';obtain ⟨its,r,pl,hz⟩:=I.list hx;have B1:=r.length;exact wpAny_truthy_list pl.isList (by simp only [N5];lia) ⟨H,I.tok _,by rw [afp r];exact q⟩
  .subst e';obtain ⟨its,r,pl,hz⟩:=I.tuple hx;have B1:=r.length;exact truthy_tuple pl (by simp only [N5];lia) ⟨H,I.tok _,by rw [afp r];exact q⟩
  .subst e';obtain ⟨hz,hS,vs,r,m⟩:kvs.length<=sizeLine/\(p==sysModules)=false/\∃ vs,KV kvs vs/\s.heap.DictOf (Q3 X.prog X.w) p vs:=I.hok p _ hx;have B1:kvs.length=vs.length:=Paired.length r;exact wpAny_truthy_dict hS m 'a' ⟨H,I.tok _,by rw [ajd r];exact q⟩
 | _=>exact (show False from e).elim
theorem alW(ha:PE X a ta)(he:∀ whole,isTrue a X.env whole=(do let v <- whole;standAt a.pos;holding [v] (truthy v))) :
  PT X a (fun Y H Q=>ta Y H fun x H'=>∃ k,TruV X.K x H' k/\Q k H'):=by
 intro pins s Y H Q I h;exact isTrue_plain (C2 (ha pins s Y H _ I h) fun v s1 ⟨x,H1,I1,r1,q1⟩=>aqD pins s1 Y H1 x v Q I1 r1 q1) (he _)
theorem aje:L3 X (binaryOp .Add) (fun x y H Q=>∃ i j,x=.str i/\y=.str j/\i.length+j.length<=sizeLine/\Q (.str (i++j)) H):=by
 sleep 0;obtain ⟨i,j,rfl,rfl,hz,q⟩:=h;obtain ⟨t,rfl⟩:=rx;obtain ⟨t',rfl⟩:=ry;exact add_str (fun t' tk=>⟨.str (i++j),H,I.tok _,⟨_,rfl⟩,q⟩) hz
theorem vals1{x:V}{us:List Value}(r:Vals [x] us):∃ u,us=[u]/\RelV x u:=by
 cases r with
 | cons r1 r2=>cases r2;exact ⟨_,rfl,r1⟩
theorem vals2{x y:V}{us:List Value}(r:Vals [x,y] us):∃ u w',us=[u,w']/\RelV x u/\RelV y w':=by
 cases r with
 | cons r1 r2=>
  cases r2 with
  | cons r3 r4=>cases r4;exact ⟨_,_,rfl,r1,r3⟩
theorem aj8(hc:X.calm=true):CallR X (.builtin "min") (fun xs H Q=>∃ i j,xs=[.int i,.int j]/\Q (.int (if j<i then j else i)) H):=by
 intro pins s Y H xs us Q I r h;obtain ⟨i,j,rfl,q⟩:=h;obtain ⟨u,w',rfl,⟨t,rfl⟩,⟨t',rfl⟩⟩:=vals2 r;refine min_two_ints (I.ok.hd hc) fun h' tk k=>⟨_,H,I.kept k,?_,q⟩
 by_cases hj:j<i
 .rw [if_pos hj,if_pos hj];exact ⟨_,rfl⟩
 .rw [if_neg hj,if_neg hj];exact ⟨_,rfl⟩
theorem aj9:CallR X (.type "int") (fun xs H Q=>(∃ i,xs=[.int i]/\Q (.int i) H)\/∃ k,xs=[.bl k]/\Q (.int (if k then 1 else 0)) H):=by
 intro pins s Y H xs us Q I r h
 rcases h with ⟨i,rfl,q⟩ | ⟨k,rfl,q⟩
 .obtain ⟨u,rfl,t,rfl⟩:=vals1 r;exact call_int_int ⟨.int i,H,I,⟨_,rfl⟩,q⟩
 .obtain ⟨u,rfl,r1⟩:=vals1 r
  cases r1
  exact call_int_bool ⟨.int (if k then 1 else 0),H,I.tok _,⟨_,rfl⟩,q⟩
noncomputable def LenV (K:PySem.W.Frag) (x:V) (H:Hp) (n:Nat):Prop:=
 match x with
 | .str y=>y.length<=sizeLine/\n=y.length
 | .byt y=>y.size<=sizeLine/\n=y.size
 | .ref p=>(∃ xs,D9 K H p xs/\n=xs.length)\/∃ xs,C6 K H p xs/\n=xs.length
 | _=>False
theorem vX:CallR X (.builtin "len") (fun xs H Q=>∃ x n,xs=[x]/\LenV X.K x H n/\Q (.int n) H):=by
 intro pins s Y H xs us Q I r h;obtain ⟨x,n,rfl,e,q⟩:=h;obtain ⟨u,rfl,rx⟩:=vals1 r;have hl:=nA;have hs:sizeLine=16777216:=sizeLine_eq
 cases x with
 | str y=>
  obtain ⟨t,rfl⟩:=rx;obtain ⟨hy,e'⟩:y.length<=sizeLine/\n=y.length:=e;subst e';exact len_str 'a' ⟨.int _,H,I.tok _,⟨_,rfl⟩,q⟩
 | byt y=>
  obtain ⟨t,rfl⟩:=rx;obtain ⟨hy,e'⟩:y.size<=sizeLine/\n=y.size:=e;subst e';exact PySem.W.len_bytes 'a' ⟨.int _,H,I.tok _,⟨_,rfl⟩,q⟩
 | ref p=>
  cases rx
  have e':(∃ xs,D9 X.K H p xs/\n=xs.length)\/∃ xs,C6 X.K H p xs/\n=xs.length:=e
  rcases e' with ⟨xs,hx,e'⟩ | ⟨xs,hx,e'⟩
  .subst e';obtain ⟨its,r',pl,hz⟩:=I.list hx;have B1:=r'.length;exact Calls.call_len_list pl.isList (by simp only [N5];lia) ⟨.int xs.length,H,I.tok _,⟨_,by simp only [N5];rw [B1]⟩,q⟩
  .subst e';obtain ⟨its,r',pl,hz⟩:=I.tuple hx;have B1:=r'.length;exact len_tuple pl (by simp only [N5];lia) ⟨.int xs.length,H,I.tok _,⟨_,by simp only [N5];rw [B1]⟩,q⟩
 | _=>exact (show False from e).elim
end
structure ObjM(h:Heap)(x dx C:Addr)(mA:Str->Option Value):Prop where
 obj:h.get? x=some (dX C dx)
 ns:h.Ns1 dx mA
 ne:dx≠x
theorem aka{h:Heap}{dx:Addr}{mA:Str->Option Value}(n:h.Ns1 dx mA):∃ od,h.get? dx=some od/\∀ name,PySem.W.lookIn name od=some (mA name):=by
 obtain ⟨o,es,ep,ho,hd,hk,_,hm⟩:=n;refine ⟨o,ho,fun name=>?_⟩;have e:=hm name;unfold nsFind findBy at e;rw [<- Array.find?_toList] at e;unfold PySem.W.lookIn;rw [hd]
 dsimp only
 split
 .rename_i y q
  rw [q] at e;exact congrArg some e
 .rename_i q
  rw [q] at e;have a:es.toList.any (·.refKey)=false:=by
   rw [List.any_eq_false];intro y hy;obtain ⟨z,t,m5⟩:=hk y (Array.mem_toList_iff.mp hy);simp [DictEntry.refKey,m5]
  have a':¬ es.toList.any (·.refKey)=true:=by rw [a];exact N6
  rw [if_neg a'];exact congrArg some e
theorem ObjM.look{h:Heap}{x dx C:Addr}{mA:Str->Option Value}(I:ObjM h x dx C mA):∃ od,PySem.W.InstAt h x (dX C dx) C (some od)/\∀ name,PySem.W.lookIn name od=some (mA name):=
 let ⟨od,ho,hl⟩:=aka I.ns
 ⟨od,⟨I.obj,rfl,rfl,ho⟩,hl⟩
section
variable {prog:Program} {w:World} {A:Around} {E:Value->Shared->Prop} {s:Shared} {K:PySem.W.Frag} {x dx C f:Addr} {mA:Str->Option Value} {name:Str} {v:Value}
theorem anU{expr:Bool}{Q:Value->Shared->Prop}(X:K.In s.heap)(I:ObjM s.heap x dx C mA)(hg:mV K C name=true)(hh:PySem.W.hasDictIn K C=true)(ha:R5 K (.ref C) name=some none)(hv:mA name=some v)(uJ:PySem.W.handedIn v=true)(h:Q v { s with toks:=s.toks+1 }) :
  wpAny (model prog w) A (getAttr (.ref x) name expr) Q E s:=by
 obtain ⟨od,J,hl⟩:=I.look;exact PySem.W.get_value X J (PySem.W.plainGet_of hg).1 (PySem.W.findObj_own hh ha rfl (by rw [hl,hv])) uJ h
theorem alX{pl:Sem Bool}{Q:Value×List Value->Shared->Prop}(X:K.In s.heap)(I:ObjM s.heap x dx C mA)(hg:mV K C name=true)(hf:R5 K (.ref C) name=some (some (.ref f)))(ht:bZ K (.ref f)=true)(hv:mA name=none)(h:Q (.ref f,[.ref x]) s) :
  wpAny (model prog w) A (getMethod (.ref x) name pl) Q E s:=by
 obtain ⟨od,J,hl⟩:=I.look;exact PySem.W.method_fn X J (PySem.W.plainGet_of hg).1 (PySem.W.plainGet_of hg).2 hf (beq_iff_eq.mp ht) (by show (PySem.W.lookIn name od).map (·.isSome)=some false;rw [hl,hv];rfl) h
theorem anV{ns:List Str}{Q:Unit->Shared->Prop}(X:K.In s.heap)(I:ObjM s.heap x dx C mA)(hs:R5 K (.ref C) "__setattr__"=some (some (.builtin "object.__setattr__")))(hp:PySem.W.plainOver K C=true)(ht:PySem.W.takerIn K C name=some none)(hh:PySem.W.hasDictIn K C=true)(hw:PySem.Within mA ns)(hsz:ns.length<=sizeLine)(h:∀ h',ObjM h' x dx C (fun y=>if y=name then some v else mA y)->Heap.SameBut dx s.heap h'->Q () { s with heap:=h',toks:=s.toks+2 }) :
  wpAny (model prog w) A (setAttr (.ref x) name v) Q E s:=by
 obtain ⟨od,J,hl⟩:=I.look;refine PySem.W.set_plain X J hs (PySem.W.osa_open (s:={ s with toks:=s.toks+1 }) (r:=none) X J hp ht fun b=>?_);obtain ⟨cd,hc,iL⟩:=PySem.W.any_some hh;have hx:s.heap.get? x=some ⟨.ref C,some dx,.plain,#[]⟩:=I.obj;refine wpAny_bind (wpAny_pure (wpAny_bind (wpAny_bind (wpAny_loadPart hx (wpAny_bind (PySem.W.Looks.here (s:={ s with toks:=s.toks+1 }) (PySem.W.looks_clsIn X hc) ?_))))));rw [iL];refine wpAny_pure (a:=some dx) (wpAny_bind (wpAny_pure (wpAny_bind ?_)));refine wpAny_nsSet1 (s:={ s with toks:=s.toks+1 }) I.ns fun h' uK x5=>?_
 obtain ⟨oD,esD,epD,hoD,hdD,hcD⟩:=uK.count (PySem.Within.cons name v hw);refine wpAny_bind (wpAny_lookBehind hoD (by rw [hdD];exact pastItsLine_dict (F8 hcD (by rw [L1];lia))) ?_);exact wpAny_pure (h _ ⟨(x5.2 _ (Ne.symm I.ne)).trans I.obj,uK,I.ne⟩ x5)
theorem alY{R:Result->Shared->Prop}{vs:List Value}{kw:List (Str×Value)}(X:K.In s.heap)(hm:PySem.W.makesIn K C=true)(hi:R5 K (.ref C) "__init__"=some (some (.ref f)))(hf:PySem.W.typeIn K (.ref f)=some (.type "function"))(h:codeAny (model prog w) (A.under (.builtin "type.__call__" ⟨.ref C::vs,kw⟩)) (.call (.ref f) ⟨.ref (s.heap.objs.size+1)::vs,kw⟩) (PySem.W.InitBack (s.heap.objs.size+1) R)
   { s with heap:=(s.heap.push bY).push (dX C s.heap.objs.size) }) :
  codeAny (model prog w) A (.call (.ref C) ⟨vs,kw⟩) R s:=by
 obtain ⟨hh,g,d,t,os⟩:=s;exact PySem.W.make_core (PySem.W.makes_of X hm) (PySem.W.looks_findIn X hi) (fun self=>PySem.W.bind_fn X self hf) (.inl rfl) h
end
noncomputable def putF (f:Str) (v:V):List (Str×V)->List (Str×V)
 | []=>[(f,v)]
 | (g,x)::r=>if g=f then (g,v)::r else (g,x)::putF f v r
theorem N1(f g:Str)(v:V):∀ fs:List (Str×V),(putF f v fs).lookup g=if g=f then some v else fs.lookup g
 | []=>by
  show dU g [(f,v)]=_
  by_cases h:g=f
  .have hb:(g==f)=true:=beq_iff_eq.mpr h;simp only [dU,hb,if_pos h]
  .have hb:(g==f)=false:=beq_eq_false_iff_ne.mpr h;simp only [dU,hb,if_neg h]
 | (k,x)::r=>by
  have ih:=N1 f g v r;rw [show putF f v ((k,x)::r)=(if k=f then (k,v)::r else (k,x)::putF f v r) from rfl]
  by_cases hk:k=f
  .rw [if_pos hk]
   by_cases h:g=k
   .have hb:(g==k)=true:=beq_iff_eq.mpr h;simp only [dU,hb,if_pos (h.trans hk)]
   .have hb:(g==k)=false:=beq_eq_false_iff_ne.mpr h;simp only [dU,hb,if_neg (fun e:g=f=>h (e.trans hk.symm))]
  .rw [if_neg hk]
   by_cases h:g=k
   .have hb:(g==k)=true:=beq_iff_eq.mpr h;simp only [dU,hb,if_neg (fun e:g=f=>hk (h.symm.trans e))]
   .have hb:(g==k)=false:=beq_eq_false_iff_ne.mpr h;simp only [dU,hb];exact ih
theorem vY(f:Str)(v:V):∀ fs:List (Str×V),f∈(putF f v fs).map (·.1)/\∀ g,g∈fs.map (·.1)->g∈(putF f v fs).map (·.1)
 | []=>⟨by simp [putF],fun g h=>by simp at h⟩
 | (k,x)::r=>by
  obtain ⟨i1,i2⟩:=vY f v r;rw [show putF f v ((k,x)::r)=(if k=f then (k,v)::r else (k,x)::putF f v r) from rfl]
  by_cases hk:k=f
  .rw [if_pos hk];subst hk;exact ⟨by simp,fun g h=>by simpa using h⟩
  .rw [if_neg hk];refine ⟨?_,fun g h=>?_⟩
   .rw [G1];exact M6 _ i1
   .rw [G1] at h ⊢
    rcases F6.mp h with e | e
    .exact F6.mpr (.inl e)
    .exact M6 _ (i2 g e)
theorem vZ(f:Str)(v:V):∀ fs:List (Str×V),(putF f v fs).length<=fs.length+1
 | []=>by simp [putF]
 | (k,x)::r=>by
  have ih:=vZ f v r;rw [show putF f v ((k,x)::r)=(if k=f then (k,v)::r else (k,x)::putF f v r) from rfl]
  by_cases hk:k=f
  .rw [if_pos hk,L1,L1];lia
  .rw [if_neg hk,L1,L1];lia
theorem rJ{v:V}{o:Option Value}(r:RelO (some v) o):∃ u,o=some u/\RelV v u:=by
 cases o with
 | none=>exact (show False from r).elim
 | some u=>exact ⟨u,rfl,r⟩
theorem RelO.none_of{o:Option Value}(r:RelO none o):o=none:=by
 cases o with
 | none=>rfl
 | some u=>exact (show False from r).elim
theorem akb{v:V}{u:Value}(r:RelV v u):PySem.W.handedIn u=true:=by
 cases v with
 | non=>cases (show u=Value.none from r);rfl
 | bl b=>cases (show u=Value.bool b from r);rfl
 | int i=>obtain ⟨t,e⟩:=(show ∃ t,u=Value.int i t from r);cases e;rfl
 | str x=>obtain ⟨t,e⟩:=(show ∃ t,u=Value.str x t from r);cases e;rfl
 | byt b=>obtain ⟨t,e⟩:=(show ∃ t,u=Value.bytes b t from r);cases e;rfl
 | flt b=>obtain ⟨t,e⟩:=(show ∃ t,u=Value.float b t from r);cases e;rfl
 | ref a=>cases (show u=Value.ref a from r);rfl
 | ty n=>cases (show u=Value.type n from r);rfl
section
variable {P:Program} {w:World} {H H':Hp} {h h':Heap} {a C dx:Addr} {fs fs':List (Str×V)}
theorem rK(hok:O5 P w H h)(e:H a=some (.ins C dx fs)):∃ mA,ObjM h a dx C mA/\(∀ f,RelO (fs.lookup f) (mA f))/\PySem.Within mA (fs.map (·.1))/\fs.length<=1000/\H dx=some (.own a):=by
 obtain ⟨d,z,ne,ob,mA,n,r,q⟩:=(show ObjOk P w H h a (.ins C dx fs) from hok a _ e)
 exact ⟨mA,⟨ob,n,ne⟩,r,q,z,d⟩
end
structure Cls(K:PySem.W.Frag)(C:Addr):Prop where
 pg:mV K C Str.empty=true
 hd:PySem.W.hasDictIn K C=true
 po:PySem.W.plainOver K C=true
 sa:R5 K (.ref C) "__setattr__"=some (some (.builtin "object.__setattr__"))
theorem Cls.get{K:PySem.W.Frag}{C:Addr}(c:Cls K C)(f:Str):mV K C f=true:=c.pg
noncomputable def NoAttr (K:PySem.W.Frag) (C:Addr) (f:Str):Prop:=R5 K (.ref C) f=some none
theorem NoAttr.taker{K:PySem.W.Frag}{C:Addr}{f:Str}(n:NoAttr K C f):PySem.W.takerIn K C f=some none:=by
 unfold PySem.W.takerIn;rw [show R5 K (.ref C) f=some none from n];rfl
structure Meth(K:PySem.W.Frag)(C:Addr)(m:Str)(f:Addr):Prop where
 at_:R5 K (.ref C) m=some (some (.ref f))
 fn:bZ K (.ref f)=true
 kp:W8 K (.ref f)=true
section
variable {X:Cx} {pins:List (Addr×Obj)} {Y:St} {H:Hp} {s:Shared} {a C dx:Addr} {fs:List (Str×V)} {f:Str} {v:V} {A:Around} {E:Value->Shared->Prop}
theorem ajf{b:Bool}{Q:Value->Shared->Prop}(I:Inv X pins Y H s)(e:H a=some (.ins C dx fs))(c:Cls X.K C)(n:NoAttr X.K C f)(l:fs.lookup f=some v)(h:∀ u s',Inv X pins Y H s'->RelV v u->Q u s'):wpAny 'b' A (getAttr (.ref a) f b) Q E s:=by
 obtain ⟨mA,O,r,_,_,_⟩:=rK I.hok e;obtain ⟨u,hu,ru⟩:=rJ (v:=v) (o:=mA f) (by rw [<- l];exact r f);exact anU I.kIn O (c.get f) c.hd n hu (akb ru) (h u _ (I.tok _) ru)
theorem afq{m:Str}{g:Addr}{pl:Sem Bool}{Q:Value×List Value->Shared->Prop}(I:Inv X pins Y H s)(e:H a=some (.ins C dx fs))(c:Cls X.K C)(k:Meth X.K C m g)(l:fs.lookup m=none)(h:Q (.ref g,[.ref a]) s):wpAny 'b' A (getMethod (.ref a) m pl) Q E s:=by
 obtain ⟨mA,O,r,_,_,_⟩:=rK I.hok e;have hn:mA m=none:=RelO.none_of (by rw [<- l];exact r m);exact alX I.kIn O (c.get m) k.at_ k.fn hn h
theorem ajg{y:V}{u:Value}{Q:Unit->Shared->Prop}(I:Inv X pins Y H s)(e:H a=some (.ins C dx fs))(c:Cls X.K C)(n:NoAttr X.K C f)(hl:fs.length<1000)(ry:RelV y u)(h:∀ s',Inv X pins Y (A0 H a (.ins C dx (putF f y fs))) s'->Q () s'):wpAny 'b' A (setAttr (.ref a) f u) Q E s:=by
 obtain ⟨mA,O,r,wi,_,ho⟩:=rK I.hok e;have hz:(fs.map (·.1)).length<=sizeLine:=by rw [A6,sizeLine_eq];lia
 refine anV I.kIn O c.sa c.po n.taker c.hd wi hz fun h' O' sb=>h _ ?_
 have hd:∃ o,h'.get? dx=some o:=let ⟨o,_,_,e',_⟩:=O'.ns;⟨o,e'⟩
 refine I.write (x:=a) (e:=dx) (by rw [e];exact True.intro) (.inr ho) (fun b q hb z=>(sb.2 b hb).trans z) hd ?_;refine ⟨by rw [A9 O.ne];exact ho,?_,O.ne,O'.obj,_,O'.ns,fun g=>?_,fun g hg=>?_⟩
 .have:=vZ f y fs;lia
 .show RelO ((putF f y fs).lookup g) (if g=f then some u else mA g);rw [N1]
  by_cases q:g=f
  .rw [if_pos q,if_pos q];exact ry
  .rw [if_neg q,if_neg q];exact r g
 .by_cases q:g=f
  .rw [q];exact (vY f y fs).1
  .refine (vY f y fs).2 g (wi g fun z=>hg ?_);show (if g=f then some u else mA g)=none;rw [if_neg q];exact z
theorem Inv.made(I:Inv X pins Y H s):Inv X pins Y (A0 (A0 H s.heap.objs.size (.own (s.heap.objs.size+1))) (s.heap.objs.size+1) (.ins C s.heap.objs.size []))
  { s with heap:=(s.heap.push bY).push (dX C s.heap.objs.size) }:=by
 have e1:(s.heap.push bY).get? s.heap.objs.size=some bY:=Heap.get?_push_size s.heap rfl;have e2:((s.heap.push bY).push (dX C s.heap.objs.size)).get? (s.heap.objs.size+1)=some (dX C s.heap.objs.size):=by
  have:=Heap.get?_push_size (s.heap.push bY) (o:=dX C s.heap.objs.size) rfl
  rwa [Heap.size_push] at this
 have e3:(s.heap.push bY).Ns s.heap.objs.size (fun _=>none):=⟨bY,#[],_,e1,rfl,(fun e he=>absurd he (by simp)),fun _=>rfl⟩
 have I1:=I.laid (a:=s.heap.objs.size) (o:=.own (s.heap.objs.size+1)) (h':=s.heap.push bY) (t':=s.toks) (fun b u q=>Heap.get?_push_of_some _ q) (B3 _) ⟨_,e1⟩;refine I1.laid (a:=s.heap.objs.size+1) (o:=.ins C s.heap.objs.size []) (t':=s.toks) (fun b u q=>Heap.get?_push_of_some _ q) (Nat.le_of_eq (Heap.size_push _ _)) ?_;have ne:s.heap.objs.size≠s.heap.objs.size+1:=O8 (Nat.lt_succ_self _);refine ⟨by rw [A9 ne,A5],F9 _,ne,e2,fun _=>none,(Heap.Ns1.of_empty e3).at fun o q=>Heap.get?_push_of_some _ q,fun _=>True.intro,fun y hy=>absurd rfl hy⟩
theorem anW{prog:Program}{w:World}{env:Env}{e:Expr}{f:Str}{pos:Pos}{s:Shared}{Q:Value->Shared->Prop}(hb:attributeBase e f env (eval e env)=eval e env)(h:wpAny (model prog w) A (eval e env) (fun o zu=>wpAny (model prog w) A (getAttr o f true) Q E zu) E s):wpAny (model prog w) A (eval (.Attribute e f pos) env) Q E s:=
 Attribute_any_ h (by rw [arm_eval_Attribute,hb])
end
noncomputable def tFld (K:PySem.W.Frag) (ta:TE) (f:Str):TE:=fun Y H Q=>ta Y H fun x H1=>∃ a C dx fs v,x=.ref a/\H1 a=some (.ins C dx fs)/\Cls K C/\NoAttr K C f/\fs.lookup f=some v/\Q v H1
noncomputable def sFld (K:PySem.W.Frag) (ta tv:TE) (f:Str):TS:=fun D Y H=>tv Y H fun y H1=>ta Y H1 fun x H2=>∃ a C dx fs,x=.ref a/\H2 a=some (.ins C dx fs)/\Cls K C/\NoAttr K C f/\fs.length<1000/\
 D.nx Y (A0 H2 a (.ins C dx (putF f y fs)))
noncomputable def InOp (X:Cx) (op:Operator) (rd:V->V->Hp->VK->Prop):Prop:=
 ∀ (pins:List (Addr×Obj)) (s:Shared) (Y:St) (H:Hp) (x y:V) (u v:Value) (Q:VK),Inv X pins Y H s->RelV x u->RelV y v->rd x y H Q->wpAny 'b' X.A (inplaceOp op u v) (EP X pins Y Q) X.xe s
section
variable {X:Cx} {o e value:Expr} {f:Str} {pos pos' tpos:Pos} {ta tv:TE}
theorem aqE(he:PE X e ta)(hb:attributeBase e f X.env (eval e X.env)=eval e X.env):PE X (.Attribute e f pos) (tFld X.K ta f):=by
 intro pins s Y H Q I h;refine anW hb (C2 (he pins s Y H _ I h) fun u s1 ⟨x,H1,I1,rx,a,C,dx,fs,v,ex,ea,c,n,l,q⟩=>?_);subst ex;obtain rfl:u=Value.ref a:=rx;exact ajf I1 ea c n l fun u' s2 I2 ru=>⟨v,H1,I2,ru,q⟩
theorem aqF(ha:PE X o ta)(hv:PE X value tv)(hs:swapsWith value (some (.Attribute o f pos')) pos.line X.env=pure false):PS X (.Assign [.Attribute o f pos'] value pos) (sFld X.K ta tv f):=by
 intro pins s Y H D I h;refine plainObj_wpAny_Assign_Attribute (C2 (hv pins s Y H _ I h) fun u s1 ⟨y,H1,I1,ry,q⟩=>C2 (ha pins s1 Y H1 _ I1 q) fun ov s2 ⟨x,H2,I2,rx,a,C,dx,fs,ex,ea,c,n,l,q2⟩=>?_) hs;subst ex;obtain rfl:ov=Value.ref a:=rx;exact ajg I2 ea c n l ry fun s3 I3=>⟨Y,_,I3,q2⟩
noncomputable def rAdd:V->V->Hp->VK->Prop:=fun x y H Q=>∃ i j,x=.int i/\y=.int j/\Q (.int (i+j)) H
noncomputable def rSub:V->V->Hp->VK->Prop:=fun x y H Q=>∃ i j,x=.int i/\y=.int j/\Q (.int (i-j)) H
theorem aqG:InOp X .Add rAdd:=by
 rintro pins s Y H x y u v Q I rx ry ⟨i,j,rfl,rfl,q⟩;obtain ⟨t,rfl⟩:=(show ∃ t,u=Value.int i t from rx)
 obtain ⟨t',rfl⟩:=(show ∃ t',v=Value.int j t' from ry)
 exact PyProof.Rows.iadd_int ⟨.int (i+j),H,I.tok _,⟨_,rfl⟩,q⟩
theorem aqH:InOp X .Sub rSub:=by
 rintro pins s Y H x y u v Q I rx ry ⟨i,j,rfl,rfl,q⟩;obtain ⟨t,rfl⟩:=(show ∃ t,u=Value.int i t from rx)
 obtain ⟨t',rfl⟩:=(show ∃ t',v=Value.int j t' from ry)
 exact PyProof.Rows.isub_int ⟨.int (i-j),H,I.tok _,⟨_,rfl⟩,q⟩
end
section
variable {X:Cx} {pins:List (Addr×Obj)} {Y:St} {H:Hp} {s:Shared} {A:Around} {E:Value->Shared->Prop} {Q:Value->Shared->Prop} {c:Value} {b:Bool}
inductive TyOf (K:PySem.W.Frag) (H:Hp):V->Value->Prop where
 | non:TyOf K H .non (.type "NoneType")
 | bl (x:Bool):TyOf K H (.bl x) (.type "bool")
 | int (i:Int):TyOf K H (.int i) (.type "int")
 | str (x:Str):TyOf K H (.str x) (.type "str")
 | flt (x:UInt64):TyOf K H (.flt x) (.type "float")
 | lst {a:Addr} {xs:List V} (e:H a=some (.lst xs)):TyOf K H (.ref a) (.type "list")
 | frz {a:Addr} {o:Obj} {xs:List V} (e:H a=some (.frz o (.lst xs))):TyOf K H (.ref a) (.type "list")
 | tup {a:Addr} {xs:List V} (e:H a=some (.tup xs)):TyOf K H (.ref a) (.type "tuple")
 | dK {a:Addr} {kvs:List (C5×V)} (e:H a=some (.dK kvs)):TyOf K H (.ref a) (.type "dict")
 | dT {a:Addr} {kvs:List (List C5×V)} (e:H a=some (.dT kvs)):TyOf K H (.ref a) (.type "dict")
 | ins {a C dx:Addr} {fs:List (Str×V)} (e:H a=some (.ins C dx fs)) (cl:Cls K C) (ha:R5 K (.ref C) "__class__"=some (some (.builtin "object.__class__")))
   (hn:PySem.W.specialIn K (.builtin "object.__class__") "__get__"=some (some (.builtin "getset_descriptor.__get__"))) (htk:PySem.W.takesIn K (.builtin "object.__class__")=some true)
   (hm:PySem.W.mroIn K C (.type "object")=some true):TyOf K H (.ref a) (.ref C)
theorem akc{x:V}{u t:Value}(I:Inv X pins Y H s)(rx:RelV x u)(ty:TyOf X.K H x t)(e:PySem.W.kitOne X.K t c=some b)(h:∀ tk,Q (.bool b) { s with toks:=tk }) :
  wpAny 'b' A (call (.builtin "isinstance") [u,c]) Q E s:=by
 cases ty with
 | non=>cases (show u=Value.none from rx);exact t5 PySem.W.kitx_none I.kIn True.intro e (fun z=>nomatch z) h
 | bl y=>cases (show u=Value.bool y from rx);exact t5 PySem.W.kitx_bool I.kIn True.intro e (fun z=>nomatch z) h
 | int i=>obtain ⟨t,q⟩:=(show ∃ t,u=Value.int i t from rx);cases q;exact t5 PySem.W.kitx_int I.kIn True.intro e (fun z=>nomatch z) h
 | str y=>obtain ⟨t,q⟩:=(show ∃ t,u=Value.str y t from rx);cases q;exact t5 PySem.W.kitx_str I.kIn True.intro e (fun z=>nomatch z) h
 | flt y=>obtain ⟨t,q⟩:=(show ∃ t,u=Value.float y t from rx);cases q;exact t5 PySem.W.kitx_float I.kIn True.intro e (fun z=>nomatch z) h
 | @lst a xs ea=>
  cases (show u=Value.ref a from rx)
  obtain ⟨_,_,n,_,h1⟩:=(show ObjOk X.prog X.w H s.heap a (.lst xs) from I.hok a _ ea)
  exact t5 PySem.W.kitx_list I.kIn ⟨_,h1,rfl⟩ e (fun z=>nomatch z) h
 | @frz a ob xs ea=>
  cases (show u=Value.ref a from rx)
  obtain ⟨_,_,_,n,_,h1⟩:=(show ObjOk X.prog X.w H s.heap a (.frz ob (.lst xs)) from I.hok a _ ea)
  exact t5 PySem.W.kitx_list I.kIn ⟨_,h1,rfl⟩ e (fun z=>nomatch z) h
 | @tup a xs ea=>
  cases (show u=Value.ref a from rx)
  obtain ⟨_,_,_,p⟩:=(show ObjOk X.prog X.w H s.heap a (.tup xs) from I.hok a _ ea)
  obtain ⟨o,h1,h2,_⟩:=p;exact t5 PySem.W.kitx_tuple I.kIn ⟨o,h1,h2⟩ e (fun z=>nomatch z) h
 | @dK a kvs ea=>
  cases (show u=Value.ref a from rx)
  obtain ⟨_,_,vs,_,p⟩:=(show ObjOk X.prog X.w H s.heap a (.dK kvs) from I.hok a _ ea)
  obtain ⟨o,es,ep,h1,h2,_⟩:=p;exact t5 PySem.W.kitx_dict I.kIn ⟨o,h1,h2.1⟩ e (fun z=>nomatch z) h
 | @dT a kvs ea=>
  cases (show u=Value.ref a from rx)
  obtain ⟨_,_,xs,_,o,es,ep,h1,h2,_⟩:=(show ObjOk X.prog X.w H s.heap a (.dT kvs) from I.hok a _ ea)
  exact t5 PySem.W.kitx_dict I.kIn ⟨o,h1,h2.1⟩ e (fun z=>nomatch z) h
 | @ins a C dx fs ea cl ha hn htk hm=>
  cases (show u=Value.ref a from rx)
  obtain ⟨mA,O,_⟩:=rK I.hok ea;obtain ⟨od,J,_⟩:=O.look;exact t5 (PySem.W.kitx_own (cl.get _) cl.hd ha hn htk hm) I.kIn J e (fun z=>nomatch z) h
end
structure Room(k:Nat)(A:Around):Prop where
 hd:A.handled=none
 dp:A.depth+3*k+5<recursionLimit
 un:A.units+16*k+200<cLine
 gd:A.guards=some []
theorem Room.mono{j k:Nat}{A:Around}(r:Room k A)(h:j<=k):Room j A:=⟨r.hd,by have:=r.dp;lia,by have:=r.un;lia,r.gd⟩
theorem Room.deeper{k:Nat}{A:Around}(r:Room (k+1) A)(env:Env):Room k (A.deeper env):=
 ⟨r.hd,by have:=r.dp;show A.depth+1+3*k+5<_;lia,by have:=r.un;show A.units+3+16*k+200<_;lia,r.gd⟩
theorem ajh{A:Around}{C:Addr}{us:List Value}{kw:List (Str×Value)} : (A.under (.builtin "type.__call__" ⟨.ref C::us,kw⟩)).depth=A.depth+1:=by
 first | rfl | simp [Around.under,Code.weight,Code.isCreation,Code.isGuard,Code.isCaller,Code.frames,Code.isFrame,guardIds]
theorem aji{A:Around}{C:Addr}{us:List Value}{kw:List (Str×Value)} : (A.under (.builtin "type.__call__" ⟨.ref C::us,kw⟩)).units=A.units+1:=by
 first | rfl | simp [Around.under,Code.cUnits,Code.frames,Code.isFrame]
theorem Room.make{k:Nat}{A:Around}(r:Room (k+1) A)(C:Addr)(us:List Value)(kw:List (Str×Value)):Room k (A.under (.builtin "type.__call__" ⟨.ref C::us,kw⟩)):=
 ⟨r.hd,by have:=r.dp;rw [ajh];lia,by have:=r.un;rw [aji];lia,r.gd⟩
theorem Room.depth{k:Nat}{A:Around}(r:Room k A):A.depth<recursionLimit:=by have:=r.dp;lia
theorem Room.units{k:Nat}{A:Around}(r:Room k A):A.units+64<cLine:=by have:=r.un;lia
noncomputable def tNil:TA:=fun _ H Q=>Q [] H
noncomputable def tCons (ta:TE) (tr:TA):TA:=fun Y H Q=>ta Y H fun x H1=>tr Y H1 fun xs H2=>Q (x::xs) H2
section
variable {X:Cx} {e:Expr} {es:List Expr} {te:TE} {t:TA} {pos:Pos}
theorem aqI:PA X [] tNil:=fun _ _ _ _ H Q I h=>Calls.spliced_nil ⟨[],H,I,.nil,h⟩
theorem anX(ha:PE X e te)(hr:PA X es t)(hs:starEach (e::es) X.env=(false,eval e X.env)::starEach es X.env:=by rfl):PA X (e::es) (tCons te t):=by
 intro pos pins s Y H Q I h;rw [hs];show wpAny _ _ (spliced ((false,eval e X.env)::backTo pos (starEach es X.env))) _ _ s;refine Calls.spliced_cons (C2 (ha pins s Y H _ I h) fun u s1 ⟨x,H1,I1,r1,q1⟩=>?_);exact C2 (hr pos pins s1 Y H1 _ I1 q1) fun us s2 ⟨xs,H2,I2,r2,q2⟩=>⟨x::xs,H2,I2,.cons r1 r2,q2⟩
noncomputable def tTup (t:TA):TE:=fun Y H Q=>t Y H fun xs H1=>xs.length<=sizeLine/\∀ p,H1 p=none->Q (.ref p) (A0 H1 p (.tup xs))
noncomputable def tLst (t:TA):TE:=fun Y H Q=>t Y H fun xs H1=>xs.length<=sizeLine/\∀ p,H1 p=none->Q (.ref p) (A0 H1 p (.lst xs))
theorem aqJ{x1}(h:PA X es t):PE X (.Tuple es x1 pos) (tTup t):=by
 intro pins s Y H Q I hq;refine wpAny_Tuple_spliced (C2 (h pos pins s Y H _ I hq) fun us s1 ⟨xs,H1,I1,r,z,q⟩=>⟨by rw [<- r.length];exact z,?_⟩);have hf:H1 s1.heap.objs.size=none:=I1.hok.fresh (B3 _);refine ⟨.ref s1.heap.objs.size,A0 H1 s1.heap.objs.size (.tup xs),I1.laid (t':=s1.toks) (fun b u e=>Heap.get?_push_of_some _ e) (B3 _) ?_,rfl,q _ hf⟩;exact ⟨z,us,r,⟨_,Heap.get?_push_size _ rfl,rfl,_,rfl⟩⟩
theorem aqK(h:PA X es t):PE X (.List es pos) (tLst t):=by
 intro pins s Y H Q I hq;refine wpAny_List_spliced (C2 (h pos pins s Y H _ I hq) fun us s1 ⟨xs,H1,I1,r,z,q⟩=>⟨by rw [<- r.length];exact z,?_⟩);have hf:H1 s1.heap.objs.size=none:=I1.hok.fresh (B3 _);refine ⟨.ref s1.heap.objs.size,A0 H1 s1.heap.objs.size (.lst xs),I1.laid (t':=s1.toks) (fun b u e=>Heap.get?_push_of_some _ e) (B3 _) ?_,rfl,q _ hf⟩;exact ⟨z,us,0,r,Heap.get?_push_size _ rfl⟩
end
noncomputable abbrev Sp:=List V->Hp->VK->XK->Prop
noncomputable abbrev k6:=List Env->Hp->Shared->XK->Value->Shared->Prop
structure Env0(P:Program)(w:World)(K:PySem.W.Frag)(mg:Str->Option Value)(base:Heap)(A:Around)(outer:List Env)(s:Shared)(H:Hp):Prop where
 frames:A.frames=some outer
 mod:Mod K mg base
 bs:∀ b o,base.get? b=some o->s.heap.get? b=some o/\H b=none
 bsz:base.objs.size<=s.heap.objs.size
 funs:s.heap.FunFrames base outer
 frf:∀ b∈t9 outer,H b=none
 hok:O5 P w H s.heap
 bare:AllBare s.gens
noncomputable def CE (outer:List Env) (P:Program) (w:World) (H:Hp) (s:Shared) (Q:VK) (u:Value) (s':Shared):Prop:=
 ∃ v H',s'.os=s.os/\AllBare s'.gens/\Un (t9 outer) [] H H' s.heap s'.heap/\O5 P w H' s'.heap/\RelV v u/\Q v H'
noncomputable def CR (CX:k6) (outer:List Env) (P:Program) (w:World) (H:Hp) (s:Shared) (Q:VK) (E:XK) (r:Result) (s':Shared):Prop:=
 match r with
 | .ok (.ret u)=>CE outer P w H s Q u s'
 | .ok _=>False
 | .error e=>CX outer H s E e s'
structure FnOk(P:Program)(w:World)(K:PySem.W.Frag)(mg:Str->Option Value)(base:Heap)(CX:k6)(k:Nat)(f:Addr)(fd:FuncData)(ps:List Str)(sp:Sp):Prop where
 len:∀ vs H Q E,sp vs H Q E->vs.length=ps.length
 run:∀ (A:Around) (outer:List Env) (s:Shared) (H:Hp) (args:Args) (us:List Value) (vs:List V) (Q:VK) (E:XK),Room k A->Env0 P w K mg base A outer s H->BindsTo s fd args (ps.zip us)->Vals vs us->sp vs H Q E->
  codeAny (model P w) A (.call (.ref f) args) (CR CX outer P w H s Q E) s
theorem Env0.make{P:Program}{w:World}{K:PySem.W.Frag}{mg:Str->Option Value}{base:Heap}{A:Around}{outer:List Env}{s:Shared}{H:Hp}(e:Env0 P w K mg base A outer s H)(C:Addr)(us:List Value)(kw:List (Str×Value)) :
  Env0 P w K mg base (A.under (.builtin "type.__call__" ⟨.ref C::us,kw⟩)) outer s H:=⟨by first | exact e.frames | (simpa [Around.under,Code.envs,Code.isFrame,pushEnvs] using e.frames),e.mod,e.bs,e.bsz,e.funs,e.frf,e.hok,e.bare⟩
section
variable {X:Cx} {pins:List (Addr×Obj)} {Y:St} {H:Hp} {s s':Shared}
theorem Inv.env0(I:Inv X pins Y H s):Env0 X.prog X.w X.K X.mg X.base X.A X.stack s H:=
 ⟨I.ok.frames,I.ok.mod,I.bs,F8 I.ok.bsz I.sz,I.stack,I.stkFree,I.hok,I.bare⟩
theorem Inv.after{Q:VK}{u:Value}(I:Inv X pins Y H s)(h:CE X.stack X.prog X.w H s Q u s'):EP X pins Y Q u s':=by
 obtain ⟨v,H',os,bare,un,hok,r,q⟩:=h;obtain ⟨hh,g,d,t,os'⟩:=s';obtain rfl:os'=s.os:=os;exact ⟨v,H',I.call (h':=hh) (g':=g) (d':=d) (t':=t) (ch:=[]) un hok bare (fun b z=>absurd z (by simp)),r,q⟩
end
noncomputable def tCall (sp:Sp) (dvs:List V) (E:XK) (t:TA):TE:=fun Y H Q=>t Y H fun vs H1=>sp (vs++dvs) H1 Q E
noncomputable def tMeth (C:Addr) (m:Str) (sp:Sp) (dvs:List V) (E:XK) (ta:TE) (t:TA):TE:=fun Y H Q=>ta Y H fun x H1=>∃ a dx fs,x=.ref a/\H1 a=some (.ins C dx fs)/\fs.lookup m=none/\
 t Y H1 fun vs H2=>sp (x::(vs++dvs)) H2 Q E
noncomputable def tMake (C:Addr) (sp:Sp) (dvs:List V) (E:XK) (t:TA):TE:=fun Y H Q=>t Y H fun vs H1=>∀ x dx,H1 x=none->H1 dx=none->dx≠x->
 sp (.ref x::(vs++dvs)) (A0 (A0 H1 dx (.own x)) x (.ins C dx [])) (fun v H2=>v=.non/\Q (.ref x) H2) E
noncomputable def Binds (K:PySem.W.Frag) (fd:FuncData) (ps:List Str) (ds:List Value):Prop:=
 ∀ (s:Shared) (us:List Value),K.In s.heap->(us++ds).length=ps.length->BindsTo s fd ⟨us,[]⟩ (ps.zip (us++ds))
theorem Binds.all{K:PySem.W.Frag}{fd:FuncData}{ps:List Str}(h:∀ us:List Value,us.length=ps.length->bindArgs fd ⟨us,[]⟩=pure (ps.zip us)):Binds K fd ps []:=fun s us _ hl=>by
 rw [G7] at hl ⊢
 exact .of_eq (h us hl)
noncomputable def gI (CX:k6) (X:Cx) (E:XK):Prop:=∀ (pins:List (Addr×Obj)) (Y:St) (H:Hp) (s:Shared) (e:Value) (s':Shared),Inv X pins Y H s->CX X.stack H s E e s'->X.xe e s'
section
variable {X:Cx} {CX:k6} {k:Nat} {f C:Addr} {fd:FuncData} {ps:List Str} {sp:Sp} {dvs:List V} {ds:List Value} {E:XK} {x m:Str} {p pos apos:Pos} {e o:Expr} {es:List Expr} {ta:TE} {t:TA}
theorem wA{pins:List (Addr×Obj)}{Y:St}{H:Hp}{s:Shared}{Q:VK}{us:List Value}{vs:List V}(F:FnOk X.prog X.w X.K X.mg X.base CX k f fd ps sp)(hr:Room k X.A)(hb:Binds X.K fd ps ds)(hd:Vals dvs ds)(hx:gI CX X E)(I:Inv X pins Y H s)(r:Vals vs us)(h:sp (vs++dvs) H Q E):wpAny 'b' X.A (call (.ref f) us) (EP X pins Y Q) X.xe s:=by
 have r2:Vals (vs++dvs) (us++ds):=r.append hd;have hl:(us++ds).length=ps.length:=by rw [<- r2.length];exact F.len _ _ _ _ h
 refine wpAny_call (codeAny_mono (F.run X.A X.stack s H ⟨us,[]⟩ (us++ds) (vs++dvs) Q E hr I.env0 (hb s us I.kIn hl) r2 h) fun r s' hq=>?_)
 cases r with
 | error e=>exact hx pins Y H s e s' I hq
 | ok fl=>
  cases fl with
  | ret u=>exact I.after hq
  | next=>exact False.elim hq
  | brk=>exact False.elim hq
  | cont=>exact False.elim hq
theorem anY(F:FnOk X.prog X.w X.K X.mg X.base CX k f fd ps sp)(hr:Room k X.A)(hg:Gl X x)(hm:X.mg x=some (.ref f))(hk:W8 X.K (.ref f)=true)(hb:Binds X.K fd ps ds)(hd:Vals dvs ds)(hx:gI CX X E)(ha:PA X (e::es) t)(U8:(x==("__debug__" : Str))=false:=by decide)(he:starEach (e::es) X.env=(false,eval e X.env)::starEach es X.env:=by rfl)(L5:(backTo pos (starEach es X.env)).any (·.1)=false:=by rfl) :
  PE X (.Call (.Name x p) (e::es) [] pos) (tCall sp dvs E t):=by
 intro pins s Y H Q I h;refine wpAny_Call_Name_kw (vN I hg hm ?_ U8);refine PySem.W.callWith_K (h₀:=X.base) I.ok.mod.kin hk (C2 (ha pos pins s Y H _ I h) fun us s1 ⟨vs,H1,I1,r,q⟩=>⟨I1.kIn,?_⟩) he L5;exact wA F hr hb hd hx I1 r q
theorem anZ{pl:Sem Bool}(he:PE X o ta)(c:Cls X.K C)(hm:Meth X.K C m f)(F:FnOk X.prog X.w X.K X.mg X.base CX k f fd ps sp)(hr:Room k X.A)(hb:Binds X.K fd ps ds)(hd:Vals dvs ds)(hx:gI CX X E)(ha:PA X (e::es) t)(P6:starEach (e::es) X.env=(false,eval e X.env)::starEach es X.env:=by rfl)(L5:(backTo pos (starEach es X.env)).any (·.1)=false:=by rfl)(ht:eval (.Call (.Attribute o m apos) (e::es) [] pos) X.env=(do
   let ov <- eval o X.env
   standAt apos.atName
   let (f,first) <- holding [ov] (getMethod ov m pl)
   callWith pos f first (backTo pos (starEach (e::es) X.env)) (backToKw pos (keywordEach [] X.env))):=by rfl) :
  PE X (.Call (.Attribute o m apos) (e::es) [] pos) (tMeth C m sp dvs E ta t):=by
 intro pins s Y H Q I h;refine PySem.W.methodCall_KW (pl:=pl) (C2 (he pins s Y H _ I h) fun u s1 ⟨x,H1,I1,rx,a,dx,fs,ex,ea,l,q⟩=>?_) ht;subst ex;obtain rfl:u=Value.ref a:=rx;refine afq I1 ea c hm l ?_;refine PySem.W.callWith_K (first:=[.ref a]) (h₀:=X.base) I.ok.mod.kin hm.kp (C2 (ha pos pins s1 Y H1 _ I1 q) fun us s2 ⟨vs,H2,I2,r,q2⟩=>⟨I2.kIn,?_⟩) P6 L5;exact wA (us:=.ref a::us) (vs:=.ref a::vs) F hr hb hd hx I2 (.cons rfl r) q2
theorem alZ{pl:Sem Bool}(he:PE X o ta)(c:Cls X.K C)(hm:Meth X.K C m f)(F:FnOk X.prog X.w X.K X.mg X.base CX k f fd ps sp)(hr:Room k X.A)(hb:Binds X.K fd ps ds)(hd:Vals dvs ds)(hx:gI CX X E)(ht:eval (.Call (.Attribute o m apos) [] [] pos) X.env=(do
   let ov <- eval o X.env
   standAt apos.atName
   let (f,first) <- holding [ov] (getMethod ov m pl)
   callWith pos f first (backTo pos (starEach [] X.env)) (backToKw pos (keywordEach [] X.env))):=by rfl) :
  PE X (.Call (.Attribute o m apos) [] [] pos) (tMeth C m sp dvs E ta tNil):=by
 intro pins s Y H Q I h;refine PySem.W.methodCall_KW (pl:=pl) (C2 (he pins s Y H _ I h) fun u s1 ⟨x,H1,I1,rx,a,dx,fs,ex,ea,l,q⟩=>?_) ht;subst ex;obtain rfl:u=Value.ref a:=rx;refine afq I1 ea c hm l ?_;exact PySem.W.callWith_K0 (first:=[.ref a]) I1.kIn hm.kp (wA (us:=[.ref a]) (vs:=[.ref a]) F hr hb hd hx I1 (.cons rfl .nil) q)
structure Mk(K:PySem.W.Frag)(C f:Addr):Prop where
 makes:PySem.W.makesIn K C=true
 init:R5 K (.ref C) "__init__"=some (some (.ref f))
 fn:bZ K (.ref f)=true
 kp:W8 K (.ref C)=true
theorem al0{pins:List (Addr×Obj)}{Y:St}{H:Hp}{s:Shared}{Q:VK}{us:List Value}{vs:List V}(M:Mk X.K C f)(F:FnOk X.prog X.w X.K X.mg X.base CX k f fd ps sp)(hr:Room (k+1) X.A)(hb:Binds X.K fd ps ds)(hd:Vals dvs ds)(hx:gI CX X E)(I:Inv X pins Y H s)(r:Vals vs us)(h:∀ x dx,H x=none->H dx=none->dx≠x->sp (.ref x::(vs++dvs)) (A0 (A0 H dx (.own x)) x (.ins C dx [])) (fun v H2=>v=.non/\Q (.ref x) H2) E) :
  wpAny 'b' X.A (call (.ref C) us) (EP X pins Y Q) X.xe s:=by
 have hq:=h (s.heap.objs.size+1) s.heap.objs.size (I.hok.fresh (Nat.le_succ _)) (I.hok.fresh (B3 _)) (O8 (Nat.lt_succ_self _));have I2:=Inv.made (C:=C) I;have r2:Vals (V.ref (s.heap.objs.size+1)::(vs++dvs)) (Value.ref (s.heap.objs.size+1)::(us++ds)):=.cons rfl (r.append hd);have hl:(Value.ref (s.heap.objs.size+1)::us++ds).length=ps.length:=by
  have e:=r2.length;rw [F.len _ _ _ _ hq] at e;exact e.symm
 refine wpAny_call (alY (f:=f) I.kIn M.makes M.init (beq_iff_eq.mp M.fn) (codeAny_mono (F.run _ X.stack _ _ ⟨Value.ref (s.heap.objs.size+1)::us,[]⟩ (Value.ref (s.heap.objs.size+1)::(us++ds)) _ _ E (hr.make C us [])
  (I2.env0.make C us []) (hb _ (Value.ref (s.heap.objs.size+1)::us) I2.kIn hl) r2 hq) fun r s' cV=>?_))
 cases r with
 | error e=>exact hx pins Y _ _ e s' I2 cV
 | ok fl=>
  cases fl with
  | ret u=>
   obtain ⟨v,H',I3,rv,ev,q3⟩:=I2.after cV;subst ev;exact ⟨rv,⟨V.ref (s.heap.objs.size+1),H',I3,rfl,q3⟩⟩
  | next=>exact False.elim cV
  | brk=>exact False.elim cV
  | cont=>exact False.elim cV
theorem an0(M:Mk X.K C f)(F:FnOk X.prog X.w X.K X.mg X.base CX k f fd ps sp)(hr:Room (k+1) X.A)(hg:Gl X x)(hm:X.mg x=some (.ref C))(hb:Binds X.K fd ps ds)(hd:Vals dvs ds)(hx:gI CX X E)(ha:PA X (e::es) t)(U8:(x==("__debug__" : Str))=false:=by decide)(he:starEach (e::es) X.env=(false,eval e X.env)::starEach es X.env:=by rfl)(L5:(backTo pos (starEach es X.env)).any (·.1)=false:=by rfl) :
  PE X (.Call (.Name x p) (e::es) [] pos) (tMake C sp dvs E t):=by
 intro pins s Y H Q I h;refine wpAny_Call_Name_kw (vN I hg hm ?_ U8);refine PySem.W.callWith_K (h₀:=X.base) I.ok.mod.kin M.kp (C2 (ha pos pins s Y H _ I h) fun us s1 ⟨vs,H1,I1,r,q⟩=>⟨I1.kIn,?_⟩) he L5;exact al0 M F hr hb hd hx I1 r q
end
noncomputable def PK (X:Cx) (kws:List Keyword) (t:TA):Prop:=
 ∀ (pos:Pos) (pins:List (Addr×Obj)) (s:Shared) (Y:St) (H:Hp) (Q:List V->Hp->Prop),Inv X pins Y H s->t Y H Q->wpAny 'b' X.A (evalAll ((backToKw pos (keywordEach kws X.env)).map (·.2))) (AP X pins Y Q) X.xe s
section
variable {X:Cx} {CX:k6} {k:Nat} {f C:Addr} {fd:FuncData} {ps ks:List Str} {sp:Sp} {E:XK} {x m:Str} {p pos apos kpos:Pos} {e o:Expr} {es:List Expr} {kws:List Keyword} {te ta:TE} {t tk:TA} {nm:Option Str}
theorem aqL:PK X [] tNil:=fun _ _ _ _ H Q I h=>wpAny_evalAll_nil ⟨[],H,I,.nil,h⟩
theorem an1(ha:PE X e te)(hr:PK X kws t):PK X (⟨nm,e,kpos⟩::kws) (tCons te t):=by
 intro pos pins s Y H Q I h;show wpAny _ _ (evalAll ((do let v <- eval e X.env;standAt pos;pure v)::(backToKw pos (keywordEach kws X.env)).map (·.2))) _ _ s;refine wpAny_evalAll_cons (wpAny_bind (C2 (ha pins s Y H _ I h) fun u s1 ⟨x,H1,I1,r1,q1⟩=>wpAny_bind (wpAny_standAt (wpAny_pure ?_))));exact C2 (hr pos pins s1 Y H1 _ I1 q1) fun us s2 ⟨xs,H2,I2,r2,q2⟩=>⟨x::xs,H2,I2,.cons r1 r2,q2⟩
variable {g:List Value->List Value->List Value} {gV:List V->List V->List V}
end
structure FnScope(N P:List Str)(sc:Scope):Prop where
 kind:sc.kind=.function
 co:sc.isCoroutine=false
 gen:sc.isGenerator=false
 nd:N.Nodup
 pre:N.take P.length=P
 par:∀ x∈P,sc.names.lookup x=some .local\/sc.names.lookup x=some .cell
 nofree:∀ y∈sc.names,y.2≠.free
theorem agn{kindOf:Str->Option NameKind}{x:Str} : ∀ {binds:List (Str×Value)} {m:Str->Option Value},(∀ v,(x,v)∉binds)->bindL kindOf binds m x=m x
 | [],_,_=>rfl
 | (n,v)::r,m,h=>by
  unfold bindL;rw [agn fun w hw=>h w (M6 _ hw)]
  split
  .have:x≠n:=by rintro rfl;exact h v O0
   simp [this]
  .rfl
theorem ago{kindOf:Str->Option NameKind}{x:Str} : ∀ {binds:List (Str×Value)} {m:Str->Option Value},(∀ v,(x,v)∉binds)->bindC kindOf binds m x=m x
 | [],_,_=>rfl
 | (n,v)::r,m,h=>by
  unfold bindC;rw [ago fun w hw=>h w (M6 _ hw)]
  split
  .rfl
  .have:x≠n:=by rintro rfl;exact h v O0
   simp [this]
theorem agp{kindOf:Str->Option NameKind}{x:Str}{v:Value} : ∀ {P:List Str} {vs:List Value} {i:Nat} {m:Str->Option Value},P.Nodup->P[i]?=some x->vs[i]?=some v->kindOf x=some .local->
  bindL kindOf (P.zip vs) m x=some v
 | [],_,_,_,_,h,_,_=>by simp at h
 | _::_,[],_,_,_,_,h,_=>by simp at h
 | p::P,w::vs,0,m,nd,h1,h2,hk=>by
  simp at h1 h2;subst h1;subst h2;show bindL kindOf ((p,w)::P.zip vs) m p=_;unfold bindL;rw [agn fun v hv=>(V8.mp nd).1 (List.of_mem_zip hv).1,if_pos hk]
  simp
 | p::P,w::vs,i+1,m,nd,h1,h2,hk=>by
  show bindL kindOf ((p,w)::P.zip vs) m x=_;unfold bindL;exact agp (i:=i) (V8.mp nd).2 (by simpa using h1) (by simpa using h2) hk
theorem agq{kindOf:Str->Option NameKind}{x:Str}{v:Value} : ∀ {P:List Str} {vs:List Value} {i:Nat} {m:Str->Option Value},P.Nodup->P[i]?=some x->vs[i]?=some v->kindOf x≠some .local->
  bindC kindOf (P.zip vs) m x=some v
 | [],_,_,_,_,h,_,_=>by simp at h
 | _::_,[],_,_,_,_,h,_=>by simp at h
 | p::P,w::vs,0,m,nd,h1,h2,hk=>by
  simp at h1 h2;subst h1;subst h2;show bindC kindOf ((p,w)::P.zip vs) m p=_;unfold bindC;rw [ago fun v hv=>(V8.mp nd).1 (List.of_mem_zip hv).1,if_neg hk]
  simp
 | p::P,w::vs,i+1,m,nd,h1,h2,hk=>by
  show bindC kindOf ((p,w)::P.zip vs) m x=_;unfold bindC;exact agq (i:=i) (V8.mp nd).2 (by simpa using h1) (by simpa using h2) hk
noncomputable def start (N:List Str) (vs:List V):St:=vs.map some++Y2 (N.length-vs.length) none
noncomputable def cxOf (CX:k6) (P:Program) (w:World) (K:PySem.W.Frag) (mg:Str->Option Value) (base:Heap) (N:List Str) (qual:Str) (scope:Scope) (f:Addr) (cd:Value) (A:Around) (outer:List Env) (s:Shared) (H:Hp) (E:XK):Cx where
 prog:=P
 w:=w
 K:=K
 mg:=mg
 base:=base
 A:=A.deeper (envOfC qual scope s.heap.objs.size f cd)
 N:=N
 s₀:=s
 H₀:=H
 env:=envOfC qual scope s.heap.objs.size f cd
 outer:=outer
 stack:=envOfC qual scope s.heap.objs.size f cd::outer
 ex:=[]
 calm:=true
 fn:=fun _=>true
 pn:=[]
 xe:=fun e s'=>wpAny (model P w) (A.deeper (envOfC qual scope s.heap.objs.size f cd)) (leaving (envOfC qual scope s.heap.objs.size f cd) e) (fun _ s''=>CX outer H s E e s'') (fun e' s''=>CX outer H s E e' s'') s'
theorem aip{sc:Scope}{n:Nat}{x:Str}(h:sc.names.lookup x=some .cell):∃ c,(cellsFrom n sc.names []).lookup x=some c:=by
 have q:=PySem.W.cellsFrom_some sc.names n [] (.inl h);exact Option.isSome_iff_exists.mp q
theorem ake{CX:k6}{P:Program}{w:World}{K:PySem.W.Frag}{mg:Str->Option Value}{base:Heap}{N ps:List Str}{qual:Str}{scope:Scope}{f:Addr}{cd:Value}{A:Around}{outer:List Env}{s s1:Shared}{H:Hp}{E:XK}{us:List Value}{vs:List V}(S:FnScope N ps scope)(hd:A.handled=none)(e0:Env0 P w K mg base A outer s H)(hl:vs.length=ps.length)(r:Vals vs us)(x:InCallC s s.heap.objs.size (bindL (envOfC qual scope s.heap.objs.size f cd).kindOf (ps.zip us) fun _=>none) (cellsFrom (s.heap.objs.size+1) scope.names []) (bindC (envOfC qual scope s.heap.objs.size f cd).kindOf (ps.zip us) fun _=>none) s1) :
  Inv (cxOf CX P w K mg base N qual scope f cd A outer s H E) [] (start N vs) H s1:=by
 have L5:ps.length<=N.length:=by have:=congrArg Z8 S.pre;rw [E9] at this;lia
 obtain ⟨h1,tk,rfl,hk⟩:=x.done;have noA:∀ b:Addr,b∉(cxOf CX P w K mg base N qual scope f cd A outer s H E).ex:=fun b z=>absurd (show b∈([]:List Addr) from z) (by simp)
 refine ⟨⟨e0.mod,S.kind,rfl,rfl,B3 _,fun y z c h1 h2=>?_,fun y hy=>?_,fun y c _ h=>?_,fun _=>hd,Around.frames_deeper e0.frames,.inr ⟨rfl,rfl⟩,fun b z=>absurd z (noA b),e0.bs,e0.bsz,fun b _ _=>noA b,fun b z=>absurd z (noA b),e0.funs,e0.frf⟩,
  rfl,e0.bare,Un.kept hk,⟨_,x.toInCall.ns,fun i y v h1 h2 h3=>?_⟩,fun y c h=>⟨_,x.cell y c h⟩,e0.hok.fresh (B3 _),fun y c h=>?_,fun p hp=>absurd (show p∈([]:List (Addr×Obj)) from hp) (by simp),e0.hok.kept hk,?_⟩
 .exact name_of_addr x.apart (PySem.mem_of_lookup h1) (PySem.mem_of_lookup h2)
 .have hy:scope.names.lookup y=some .cell\/scope.names.lookup y=some .free:=hy
  rcases hy with hy | hy
  .exact aip hy
  .exact absurd rfl (S.nofree _ (PySem.mem_of_lookup hy))
 .exact gE (x.above y c (PySem.mem_of_lookup h))
 .have hi:i<vs.length:=by
   unfold start at h2
   by_cases hi:i<vs.length
   .exact hi
   .rw [fW (by simpa using hi)] at h2;rw [List.getElem?_replicate] at h2
    split at h2 <;> cases h2
  have ha:vs[i]?=some v:=by
   unfold start at h2;rw [dQ (by simpa using hi),O7] at h2;cases e:vs[i]? with
   | none=>rw [e] at h2;cases h2
   | some a=>rw [e] at h2;cases h2;rfl
  obtain ⟨u,hu,rv⟩:=r.get ha;have hp:ps[i]?=some y:=by
   rw [<- S.pre,rB 'a'];exact h1
  have ndP:ps.Nodup:=by rw [<- S.pre];exact S.nd.sublist (List.take_sublist _ _)
  refine ⟨u,rv,?_⟩
  rcases S.par y (L6 hp) with k | k
  .exact .inl ⟨k,agp ndP hp hu k⟩
  .obtain ⟨c,e⟩:=aip (n:=s.heap.objs.size+1) k;refine .inr ⟨.inl k,c,e,?_⟩;have q:=x.cell y c e;rw [agq ndP hp hu (by show scope.names.lookup y≠_;rw [k];decide)] at q;exact q
 .exact e0.hok.fresh (gE (x.above y c (PySem.mem_of_lookup h)))
 .unfold start;show _=N.length;rw [C1,A6,List.length_replicate];lia
theorem fn_of{CX:k6}{P:Program}{w:World}{K:PySem.W.Frag}{mg:Str->Option Value}{base:Heap}{k:Nat}{f:Addr}{name qual:Str}{params:Arguments}{body:List Stmt}{scope:Scope}{dV kV doc pm cdv ct oc:Value}{an od:Option Addr}{osl:Array (Option Value)}{N ps:List Str}{sp:Sp}(lk:K.lookup f=some ⟨oc,od,.func (V4 name qual params body scope dV kV doc pm an cdv ct),osl⟩)(U7:Y3 K cdv qual=true)(S:FnScope N ps scope)(len:∀ vs H Q E,sp vs H Q E->vs.length=ps.length)(x6:∀ (A:Around) (outer:List Env) (s:Shared) (H:Hp) (vs:List V) (Q:VK) (E:XK),Room k (A.deeper (envOfC qual scope s.heap.objs.size f cdv))->sp vs H Q E->
   ∃ t,Z9 (cxOf CX P w K mg base N qual scope f cdv A outer s H E) body t/\t { nx:=fun _ H'=>Q .non H',rt:=Q } (start N vs) H) :
  FnOk P w K mg base CX (k+1) f (V4 name qual params body scope dV kV doc pm an cdv ct) ps sp:=by
 refine ⟨len,fun A outer s H args us vs Q E hr e0 hb r eZ=>?_⟩;have hl:=len _ _ _ _ eZ;have KX:K.In s.heap:=e0.mod.kin.keeps fun b o e=>(e0.bs b o e).1
 have lim:s.heap.NoLimit:=e0.mod.nolimit.keeps fun b o e=>(e0.bs b o e).1
 have oU:∀ y∈ps.zip us,scope.names.lookup y.1=some .local\/(scope.names.lookup y.1=some .cell/\((cellsFrom (s.heap.objs.size+1) scope.names []).lookup y.1).isSome=true):=fun ⟨n,v⟩ hy=>by
  rcases S.par n (List.of_mem_zip hy).1 with q | q
  .exact .inl q
  .exact .inr ⟨q,PySem.W.cellsFrom_some _ _ _ (.inl q)⟩
 refine codeAny_call_function hr.depth (KX _ _ lk) rfl S.co S.gen rfl (PySem.W.codeRec_of KX U7) (hb _ _ _ _ ?_);refine wpAny_newFunctionEnv_cells S.kind oU fun env he s1 x=>?_
 subst he;refine ⟨lim.keeps x.toInCall.keep,codeAny_func ?_⟩;obtain ⟨t,ht,hq⟩:=x6 A outer s H vs Q E (hr.deeper _) eZ;have I:Inv (cxOf CX P w K mg base N qual scope f cdv A outer s H E) [] (start N vs) H s1:=ake S hr.hd e0 hl r x;refine wpAny_mono (ht [] s1 (start N vs) H _ I hq) (fun fl s' hs=>?_) fun e s' hs=>hs
 have fin:∀ {σ':St} {H':Hp} {v:V} {u:Value},Inv (cxOf CX P w K mg base N qual scope f cdv A outer s H E) [] σ' H' s'->RelV v u->Q v H'->CE outer P w H s Q u s':=
  fun {σ' H' v u} J rv q=>⟨v,H',J.os,J.bare,J.base,J.hok,rv,q⟩
 cases fl with
 | ret u=>
  obtain ⟨v,σ',H',J,rv,q⟩:=hs;exact fin J rv q
 | next=>
  obtain ⟨σ',H',J,q⟩:=hs;exact fin (v:=V.non) (u:=Value.none) J rfl q
 | brk=>
  obtain ⟨_,_,_,q⟩:=hs;exact False.elim q
 | cont=>
  obtain ⟨_,_,_,q⟩:=hs;exact False.elim q
end L2
section
variable {C a b f fa it md r sl:PySem.Addr}{dvs vs xs ys:List L2.V}{Q:L2.VK}{cd ct oc pm u v vl vu:PySem.Value}{at' ck i j k m n s t' x1:Nat}{items items2:Array PySem.Value}{fr ns:List Int}{its us:List PySem.Value}{A:PySem.Around}{name p q qual y z z':PySem.Str}{v' x:L2.V}{pins:List (PySem.Addr×PySem.Obj)}{Y:L2.St}{H H' H0 H1 H2 H3 zt:L2.Hp}{h h':PySem.Heap}{L M N N' acc bad g g' ks line loose ls ms ps qs ts zs:List PySem.Str}{K:PySem.W.Frag}{mg:PySem.Str->Option PySem.Value}{fd:PySem.FuncData}{sp:L2.Sp}{X:L2.Cx}{kvs:List (L2.C5×L2.V)}{prog:PySem.Program}{E:PySem.Value->PySem.Shared->Prop}{ixs pre:List Nat}{e elt iter target tg:PySem.Expr}{elts ifs:List PySem.Expr}{c:L2.TT}{td te tl tx ty:L2.TE}{fp l₁ rs:List PySem.Addr}{apos cpos kpos spos tpos:PySem.Pos}{calm fg neg:Bool}{st:PySem.Stmt}{an od:Option PySem.Addr}{tb:L2.TS}{D:L2.Ends}{lo:Int}{zw:PySem.Shared}{o:PySem.Obj}{ta:L2.TA}{ss:Array (Option PySem.Value)}
namespace L2
open PySem PySem.Spec PyProof.Rows
section
variable {X:Cx} {x:Str} {p pos:Pos} {e:Expr} {es:List Expr} {t:TA} {id T:String} {r:List V->Hp->VK->Prop}
noncomputable def gJ (r:List V->Hp->VK->Prop) (t:TA):TE:=fun Y H Q=>t Y H fun vs H1=>r vs H1 Q
theorem al1(hc:CallR X (.builtin id) r)(hg:Gl X x)(hm:X.mg x=none)(hv:bootBuiltins x=some (.builtin id))(ha:PA X (e::es) t)(hn:x≠"__name__":=by decide)(U8:(x==("__debug__" : Str))=false:=by decide)(he:starEach (e::es) X.env=(false,eval e X.env)::starEach es X.env:=by rfl)(L5:(backTo pos (starEach es X.env)).any (·.1)=false:=by rfl):PE X (.Call (.Name x p) (e::es) [] pos) (gJ r t):=by
 intro pins s Y H Q I h;refine wpAny_Call_Name_kw (dY I hg hm hv ?_ hn U8);exact PyProof.Rows.callWith_builtin1 (C2 (ha pos pins s Y H _ I h) fun us s1 ⟨vs,H1,I1,r1,q1⟩=>hc pins s1 Y H1 vs us Q I1 r1 q1) he L5
theorem akf(hc:CallR X (.type T) r)(hg:Gl X x)(hm:X.mg x=none)(hv:bootBuiltins x=some (.type T))(ha:PA X (e::es) t)(hn:x≠"__name__":=by decide)(U8:(x==("__debug__" : Str))=false:=by decide)(he:starEach (e::es) X.env=(false,eval e X.env)::starEach es X.env:=by rfl)(L5:(backTo pos (starEach es X.env)).any (·.1)=false:=by rfl):PE X (.Call (.Name x p) (e::es) [] pos) (gJ r t):=by
 intro pins s Y H Q I h;refine wpAny_Call_Name_kw (dY I hg hm hv ?_ hn U8);exact PyProof.Rows.callWith_type1 (C2 (ha pos pins s Y H _ I h) fun us s1 ⟨vs,H1,I1,r1,q1⟩=>hc pins s1 Y H1 vs us Q I1 r1 q1) he L5
end
end L2
namespace HT
open PySem PyProof.Rows
section
variable {prog:Program} {w:World} {A:Around} {E:Value->Shared->Prop} {s:Shared}
theorem cat_tup{t:Addr}{vs ws:List Value}{Q:Value->Shared->Prop}(ht:IsTup s.heap t vs.toArray)(hb:IsTup s.heap b ws.toArray)(hv:vs≠[])(h1:ws=[]->Q (.ref t) s)(h2:ws≠[]->Q (.ref s.heap.objs.size) { s with heap:=s.heap.push { cls:=.type "tuple",data:=.seq (vs++ws).toArray } })(hsz:vs.length+ws.length<=sizeLine):wpAny (model prog w) A (binaryOp .Add (.ref t) (.ref b)) Q E s:=by
 obtain ⟨⟨cls,dd,data,sl⟩,ho,hc,n,hd⟩:=id ht;obtain ⟨⟨cls2,m6,data2,Y4⟩,bG,Y9,n2,T7⟩:=id hb;simp only at hc hd Y9 T7;subst hc hd Y9 T7;have e:vs.toArray++ws.toArray=(vs++ws).toArray:=by simp
 by_cases hw:ws=[]
 .exact concat_meets ⟨_,ho,rfl⟩ ⟨_,bG,rfl⟩ noFill_tuple_add seq_tuple_add PySem.F.slot_tuple_add PySem.F.entry_tuple_add (PySem.F.args_tuple_add_2 _ _)
   (tuple_addW1 t b vs.toArray ws.toArray n n2 dd m6 sl Y4 (by simpa using hv) (by simp [hw])) ⟨ho,bG,h1 hw⟩
 .refine concat_meets ⟨_,ho,rfl⟩ ⟨_,bG,rfl⟩ noFill_tuple_add seq_tuple_add PySem.F.slot_tuple_add PySem.F.entry_tuple_add (PySem.F.args_tuple_add_2 _ _)
   (tuple_addW2 t b vs.toArray ws.toArray n n2 dd m6 sl Y4 (by simpa using hv) (by simpa using hw) (by rw [N5,N5];exact hsz)) ⟨ho,bG,?_⟩
  rw [e];exact h2 hw
noncomputable def sIx (n d:Nat):Option Int->Nat
 | none=>d
 | some v=>if v<0 then (v+(n:Int)).toNat else min v.toNat n
theorem sIx_nat(n d k:Nat):sIx n d (some (k:Int))=min k n:=by
 show (if (k:Int)<0 then ((k:Int)+(n:Int)).toNat else min (k:Int).toNat n)=min k n;rw [if_neg 'a',Int.toNat_natCast]
theorem sIx_le(n d:Nat)(hd:d<=n)(o:Option Int):sIx n d o<=n:=by
 cases o with
 | none=>exact hd
 | some v=>
  show (if v<0 then (v+(n:Int)).toNat else min v.toNat n)<=n
  by_cases hv:v<0
  .rw [if_pos hv];lia
  .rw [if_neg hv];exact Nat.min_le_right _ _
theorem clip_eq(v:Int)(n d:Nat):(if v<0 then max (v+(n:Int)) 0 else min v (n:Int))=((sIx n d (some v):Nat):Int):=by
 show (if v<0 then max (v+(n:Int)) 0 else min v (n:Int))=(((if v<0 then (v+(n:Int)).toNat else min v.toNat n):Nat):Int)
 by_cases hv:v<0
 .simp only [if_pos hv];lia
 .simp only [if_neg hv];lia
theorem ajj(lo hi:Option Int)(n:Nat):Builtin.Slice.sliceAdjust lo hi 1 (n:Int)=(((sIx n 0 lo:Nat):Int),((sIx n n hi:Nat):Int)):=by
 have h1:¬ ((1:Int)<0):=by lia
 unfold Builtin.Slice.sliceAdjust;simp only [h1,if_false];refine Prod.ext ?_ ?_
 .cases lo with
  | none=>rfl
  | some v=>exact clip_eq v n 0
 .cases hi with
  | none=>rfl
  | some v=>exact clip_eq v n n
theorem ajk(i j:Nat):Builtin.Slice.slicePlaces (i:Int) (j:Int) 1=j-i:=by
 unfold Builtin.Slice.slicePlaces;have h1:(1:Int) > 0:=by lia
 simp only [h1,if_true,Int.ediv_one]
 split <;> lia
theorem afr{o:Option Int}{Q:Option Int->Shared->Prop}(p:IsPart v o)(h:Q o s):wpAny (model prog w) A (Builtin.Slice.slicePartIndex v) Q E s:=by
 cases p with
 | none=>exact slicePart_none h
 | int i t=>exact slicePart_int h
theorem sliceApplied_gen{lo hi:Option Int}{Q:Int×Int×Nat->Shared->Prop}(hs:s.heap.IsSliceOf sl vl vu .none)(pl:IsPart vl lo)(pu:IsPart vu hi)(h:Q (((sIx n 0 lo:Nat):Int),1,sIx n n hi-sIx n 0 lo) s):wpAny (model prog w) A (Builtin.Slice.sliceApplied (.ref sl) (pure (n:Int))) Q E s:=by
 obtain ⟨os,bH,uL,oV⟩:=id hs;unfold Builtin.Slice.sliceApplied Builtin.Slice.sliceFields;refine wpAny_bind (wpAny_bind (wpAny_field bH oV (x:=vl) rfl (wpAny_bind (wpAny_field bH oV (x:=vu) rfl (wpAny_bind (wpAny_field bH oV (x:=.none) rfl (wpAny_pure ?_)))))));refine wpAny_bind (slicePart_none ?_);show wpAny _ _ (if ((1:Int)==0)=true then _ else _) _ _ s;rw [if_neg (by decide)];refine wpAny_bind (afr pl (wpAny_bind (afr pu (wpAny_bind (wpAny_pure ?_)))));show wpAny _ _ (match Builtin.Slice.sliceAdjust lo hi 1 (n:Int) with | (lo,hi)=>pure (lo,(1:Int),Builtin.Slice.slicePlaces lo hi 1)) _ _ s;rw [ajj lo hi n];show wpAny _ _ (pure (((sIx n 0 lo:Nat):Int),(1:Int),Builtin.Slice.slicePlaces ((sIx n 0 lo:Nat):Int) ((sIx n n hi:Nat):Int) 1)) _ _ s;rw [ajk];exact wpAny_pure h
theorem al2(xs:Array Value)(i k:Nat):((aI k).filterMap fun (m:Nat)=>xs[((i:Int)+(m:Int)*1).toNat]?).toArray=((xs.toList.drop i).take k).toArray:=by
 have e:(fun (m:Nat)=>xs[((i:Int)+(m:Int)*1).toNat]?)=fun m=>xs[i+m]?:=by
  funext m
  have:((i:Int)+(m:Int)*1).toNat=i+m:=by lia
  rw [this]
 rw [e]
 have:=pick_run xs i k
 rw [List.filterMap_map] at this;have e2:((fun x=>xs[x]?)∘fun x=>i+x)=fun m=>xs[i+m]?:=rfl
 rw [e2] at this;rw [this]
theorem getItem_tuple_cut{t:Addr}{lo hi:Option Int}{Q:Value->Shared->Prop}(ht:IsTup s.heap t items)(hs:s.heap.IsSliceOf sl vl vu .none)(pl:IsPart vl lo)(pu:IsPart vu hi)(hw:¬ (sIx items.size 0 lo=0/\sIx items.size items.size hi=items.size))(h:Q (.ref s.heap.objs.size) { s with heap:=s.heap.push { cls:=.type "tuple",data:=.seq ((items.toList.drop (sIx items.size 0 lo)).take (sIx items.size items.size hi-sIx items.size 0 lo)).toArray } })(hsz:items.size<=sizeLine):wpAny (model prog w) A (getItem (.ref t) (.ref sl)) Q E s:=by
 have i3:sizeOk (.seq ((items.toList.drop (sIx items.size 0 lo)).take (sIx items.size items.size hi-sIx items.size 0 lo)).toArray):=by
  show ((items.toList.drop (sIx items.size 0 lo)).take (sIx items.size items.size hi-sIx items.size 0 lo)).toArray.size<=sizeLine;rw [N5,E9,U3,gG];lia
 have hj:sIx items.size items.size hi<=items.size:=sIx_le _ _ (B3 _) hi;obtain ⟨os,bH,uL,oV⟩:=id hs;have hTs:s.TypeIs (.ref sl) "slice":=⟨os,bH,uL⟩
 unfold getItem
 try with_reducible refine wpAny_holding ?_
 first | refine wpAny_bind (wpAny_pure ?_) | skip
 refine wpAny_bind (wpAny_sequenceKey ht.typeIs (by decide) ?_);refine wpAny_bind (wpAny_callSpecial?_slot (name:=Str.ofString "__getitem__") ht.typeIs PyProof.Rows.slot_tuple_getitem
  (wpAny_call_entry PyProof.Rows.slot_tuple_getitem ht.typeIs entry_tuple_getitem ?_ (args_tuple_getitem _ _)))
 show wpAny _ _ (Builtin.Tuple.tupleItemsOf (.ref t) >>= _) _ _ s;refine wpAny_bind (tupleItemsOf_ ht ?_);refine wpAny_bind (wpAny_typeOf hTs ?_);rw [if_pos (by decide)];refine wpAny_bind (sliceApplied_gen hs pl pu ?_);have oW:¬ ((((sIx items.size 0 lo:Nat):Int)==0&&(1:Int)==1&&(sIx items.size items.size hi-sIx items.size 0 lo)==items.size)=true):=by
  intro q;rw [U4,U4] at q;have q1:((sIx items.size 0 lo:Nat):Int)=0:=eq_of_beq q.1.1;have q2:sIx items.size items.size hi-sIx items.size 0 lo=items.size:=eq_of_beq q.2;exact hw ⟨by lia,by lia⟩
 show wpAny _ _ (if (((sIx items.size 0 lo:Nat):Int)==0&&(1:Int)==1&&(sIx items.size items.size hi-sIx items.size 0 lo)==items.size)=true then _ else _) _ _ s;rw [if_neg oW,al2]
 first
  | exact wpAny_bind (m:=Builtin.Tuple.tupleExact _) (wpAny_newObj_type (wpAny_pure ⟨_,rfl,wpAny_pure h⟩) i3)
  | exact wpAny_bind (m:=Builtin.Tuple.tupleExact _) (wpAny_newObj_type (wpAny_bind (wpAny_pure (wpAny_pure ⟨_,rfl,wpAny_pure h⟩))) i3)
  | exact wpAny_bind (wpAny_bind (m:=Builtin.Tuple.tupleExact _) (wpAny_newObj_type (wpAny_pure (wpAny_pure ⟨_,rfl,wpAny_pure h⟩)) i3))
  | exact wpAny_bind (wpAny_bind (m:=Builtin.Tuple.tupleExact _) (wpAny_newObj_type (wpAny_pure ⟨_,rfl,wpAny_pure h⟩) i3))
end
end HT
namespace L2
open PySem PySem.Spec PyProof.Rows
noncomputable abbrev TO:=St->Hp->(Option Int->Hp->Prop)->Prop
noncomputable def PO (X:Cx) (e:Option Expr) (t:TO):Prop:=
 ∀ (pins:List (Addr×Obj)) (s:Shared) (Y:St) (H:Hp) (Q:Option Int->Hp->Prop),Inv X pins Y H s->t Y H Q->
  wpAny 'b' X.A (evalPart e X.env) (fun u s'=>∃ o H',Inv X pins Y H' s'/\IsPart u o/\Q o H') X.xe s
noncomputable def wB:TO:=fun _ H Q=>Q none H
noncomputable def tPart (t:TE):TO:=fun Y H Q=>t Y H fun x H1=>∃ i,x=.int i/\Q (some i) H1
theorem rL : ∀ {us:List Value},Vals (ns.map V.int) us->IntsAre us ns:=by
 induction ns with
 | nil=>intro us r;rw [bV] at r;cases r;exact .nil
 | cons n ns ih=>
  intro us r;rw [G1] at r
  cases r with
  | cons r1 r2=>
   obtain ⟨t,e⟩:=r1;subst e;exact .cons n t (ih r2)
section
variable {X:Cx} {e:Expr} {te:TE} {lo hi:Option Expr} {tl th:TO} {pos p2:Pos}
theorem an2:PO X none wB:=by
 intro pins s Y H Q I h;rw [evalPart_none];exact wpAny_pure ⟨none,H,I,.none,h⟩
theorem an3(h:PE X e te):PO X (some e) (tPart te):=by
 intro pins s Y H Q I hw;rw [evalPart_some];refine C2 (h pins s Y H _ I hw) fun u s1 ⟨x,H1,I1,r1,q1⟩=>?_
 obtain ⟨i,rfl,q⟩:=q1;obtain ⟨t,rfl⟩:=r1;exact ⟨some i,H1,I1,.int i t,q⟩
noncomputable def jV (X:Cx) (r:V->Option Int->Option Int->Hp->VK->Prop):Prop:=
 ∀ (pins:List (Addr×Obj)) (s:Shared) (Y:St) (H:Hp) (x:V) (v vl vu:Value) (lo hi:Option Int) (sl:Addr) (Q:VK),Inv X pins Y H s->RelV x v->s.heap.IsSliceOf sl vl vu .none->IsPart vl lo->IsPart vu hi->r x lo hi H Q->
  ∃ T id,typeLookup (.type T) "__getitem__"=pure (some (.builtin id))/\s.TypeIs v T/\wpAny 'b' X.A (getItem v (.ref sl)) (EP X pins Y Q) X.xe s
noncomputable def wC (r:V->Option Int->Option Int->Hp->VK->Prop) (te:TE) (tl th:TO):TE:=fun Y H Q=>te Y H fun x H1=>tl Y H1 fun l H2=>th Y H2 fun u H3=>r x l u H3 Q
theorem al3{r:V->Option Int->Option Int->Hp->VK->Prop}(hr:jV X r)(he:PE X e te)(hl:PO X lo tl)(hu:PO X hi th):PE X (.Subscript e (.Slice lo hi none p2) pos) (wC r te tl th):=by
 intro pins s Y H Q I h;refine Subscript_ (C2 (he pins s Y H _ I h) fun v s1 ⟨x,H1,I1,r1,q1⟩=>?_);refine wpAny_Slice (C2 (hl pins s1 Y H1 _ I1 q1) fun vl s2 ⟨l,H2,I2,pl,q2⟩=>C2 (hu pins s2 Y H2 _ I2 q2) fun vu s3 ⟨u,H3,I3,pu,q3⟩=>?_);rw [evalPart_none];refine wpAny_pure ?_;have I4:Inv X pins Y H3 { s3 with heap:=s3.heap.push { cls:=.type "slice",data:=.fields #[vl,vu,.none] } }:=I3.kept (t':=s3.toks) fun b ob q=>Heap.get?_push_of_some _ q
 obtain ⟨T,id,hT,ht,hg⟩:=hr pins { s3 with heap:=s3.heap.push { cls:=.type "slice",data:=.fields #[vl,vu,.none] } } Y H3 x v vl vu l u s3.heap.objs.size Q I4 r1 (Heap.IsSliceOf.new ..) pl pu q3;show wpAny 'b' X.A (subscriptTail e (.Slice lo hi none p2) v (.ref s3.heap.objs.size)) (EP X pins Y Q) X.xe { s3 with heap:=s3.heap.push { cls:=.type "slice",data:=.fields #[vl,vu,.none] } };exact tail_any (ops:=[.ref s3.heap.objs.size,v]) ht hT hg (by with_unfolding_all rfl)
noncomputable def cutV (xs:List V) (lo hi:Option Int):List V:=(xs.drop (HT.sIx xs.length 0 lo)).take (HT.sIx xs.length xs.length hi-HT.sIx xs.length 0 lo)
theorem aeA(xs:List V)(lo hi:Option Int):(cutV xs lo hi).length<=xs.length:=by
 unfold cutV;rw [E9,U3];lia
noncomputable def rSlT (K:PySem.W.Frag):V->Option Int->Option Int->Hp->VK->Prop:=fun x lo hi H Q=>∃ a xs,x=.ref a/\C6 K H a xs/\
 ¬ (HT.sIx xs.length 0 lo=0/\HT.sIx xs.length xs.length hi=xs.length)/\∀ p,H p=none->Q (.ref p) (A0 H p (.tup (cutV xs lo hi)))
theorem aqM:jV X (rSlT X.K):=by
 intro pins s Y H x v vl vu lo hi sl Q I rx hs pl pu h;obtain ⟨a,xs,rfl,hx,hw,q⟩:=h
 cases rx
 obtain ⟨its,r,ht,hz⟩:=I.tuple hx;have B1:its.toArray.size=xs.length:=by rw [N5];exact r.length.symm
 refine ⟨"tuple",_,PyProof.Rows.slot_tuple_getitem.lookup,ht.typeIs,?_⟩;refine HT.getItem_tuple_cut ht hs pl pu (by rw [B1];exact hw) ?_ (by rw [B1];exact hz);rw [B1];refine ⟨.ref s.heap.objs.size,_,I.laid (t':=s.toks) (o:=.tup (cutV xs lo hi)) (fun b ob q=>Heap.get?_push_of_some _ q) (B3 _) ?_,rfl,q _ (I.hok.fresh (B3 _))⟩;exact ⟨F8 (aeA xs lo hi) hz,_,(r.drop (HT.sIx xs.length 0 lo)).take (HT.sIx xs.length xs.length hi-HT.sIx xs.length 0 lo),IsTup.new _ _⟩
noncomputable def rCatT (K:PySem.W.Frag):R2:=fun x y H Q=>∃ a b xs ys,x=.ref a/\y=.ref b/\C6 K H a xs/\C6 K H b ys/\xs≠[]/\xs.length+ys.length<=sizeLine/\
 (ys=[]->Q (.ref a) H)/\(ys≠[]->∀ p,H p=none->Q (.ref p) (A0 H p (.tup (xs++ys))))
theorem Vals.nil_iff(r:Vals xs us):us=[]↔xs=[]:=by
 cases r with
 | nil=>simp
 | cons _ _=>simp
theorem an4:L3 X (binaryOp .Add) (rCatT X.K):=by
 sleep 0;obtain ⟨a,b,xs,ys,rfl,rfl,ha,hb,hx,hz,q1,q2⟩:=h
 cases rx
 cases ry
 obtain ⟨its,r1,p1,_⟩:=I.tuple ha;obtain ⟨its2,r2,p2,_⟩:=I.tuple hb;refine HT.cat_tup p1 p2 (fun z=>hx (r1.nil_iff.mp z)) (fun z=>⟨.ref a,H,I,rfl,q1 (r2.nil_iff.mp z)⟩) (fun z=>?_) (by rw [<- r1.length,<- r2.length];exact hz);refine ⟨.ref s.heap.objs.size,_,I.laid (t':=s.toks) (o:=.tup (xs++ys)) (fun b ob q=>Heap.get?_push_of_some _ q) (B3 _) ?_,rfl,q2 (fun w=>z (r2.nil_iff.mpr w)) _ (I.hok.fresh (B3 _))⟩;exact ⟨by rw [C1];exact hz,_,r1.append r2,IsTup.new _ _⟩
end
noncomputable def k7 (n:Nat) (i:Int):Option Nat:=if 0<=i then (if i<n then some i.toNat else none) else if -(n:Int)<=i then some (i+n).toNat else none
noncomputable def K5 {α:Type} (xs:List α) (i:Int):Option α:=(k7 xs.length i).bind fun j=>xs[j]?
theorem an5{i:Int}(h:k7 n i=some j):seqIndex? i n=some j/\j<n/\-(n:Int)<=i/\i<n:=by
 unfold k7 at h
 by_cases h0:0<=i
 .rw [if_pos h0] at h
  by_cases h1:i<n
  .rw [if_pos h1] at h;have e:i.toNat=j:=Option.some.inj h;exact ⟨by rw [seqIndex_of h0 h1,e],by lia,by lia,h1⟩
  .rw [if_neg h1] at h;cases h
 .rw [if_neg h0] at h
  by_cases h1:-(n:Int)<=i
  .rw [if_pos h1] at h;have e:(i+n).toNat=j:=Option.some.inj h;exact ⟨by rw [seqIndex_neg 'a' h1,e],by lia,h1,by lia⟩
  .rw [if_neg h1] at h;cases h
theorem wD{α:Type}{xs:List α}{i:Int}{v:α}(h:K5 xs i=some v):∃ j,seqIndex? i xs.length=some j/\xs[j]?=some v/\j<xs.length/\-(xs.length:Int)<=i/\i<xs.length:=by
 unfold K5 at h;cases e:k7 xs.length i with
 | none=>rw [e] at h;cases h
 | some j=>
  rw [e] at h;obtain ⟨h1,h2,h3,h4⟩:=an5 e;exact ⟨j,h1,h,h2,h3,h4⟩
theorem N2{α:Type}{xs:List α}{v:α}(h:xs[j]?=some v):K5 xs (j:Int)=some v:=by
 have hj:j<xs.length:=(I0.mp h).1;have e:k7 xs.length (j:Int)=some j:=by
  unfold k7;rw [if_pos 'a',if_pos 'a'];simp
 unfold K5;rw [e];exact h
theorem aiq{α:Type}(xs:List α)(v:α):K5 (xs++[v]) (-1)=some v:=by
 have hl:(xs++[v]).length=xs.length+1:=by simp
 have e:k7 (xs++[v]).length (-1)=some xs.length:=by
  unfold k7;rw [hl,if_neg (by decide),if_pos 'a']
  congr 1
  lia
 unfold K5;rw [e];show (xs++[v])[xs.length]?=some v
 simp
noncomputable def akg (b:Expr):Prop:=∀ o i,subscripted b false o i=operate [o,i] (getItem o i)
noncomputable def cD (X:Cx) (r:R2):Prop:=
 ∀ (value slice:Expr) (pins:List (Addr×Obj)) (s:Shared) (Y:St) (H:Hp) (x y:V) (v u:Value) (Q:VK),Inv X pins Y H s->RelV x v->RelV y u->r x y H Q->
  subscripted slice false v u=operate [v,u] (getItem v u)->wpAny 'b' X.A (subscriptTail value slice v u) (EP X pins Y Q) X.xe s
noncomputable def rM (X:Cx) (id:String) (r:V->List V->Hp->VK->Prop):Prop:=
 ∀ (pins:List (Addr×Obj)) (s:Shared) (Y:St) (H:Hp) (x:V) (xs:List V) (v:Value) (us:List Value) (Q:VK),Inv X pins Y H s->RelV x v->Vals xs us->r x xs H Q->
  wpAny 'b' X.A (call (.builtin id) (v::us)) (EP X pins Y Q) X.xe s
section
variable {X:Cx} {a b:Expr} {ta tb:TE} {pos:Pos}
theorem cD.or{r r':R2}(h:cD X r)(h':cD X r'):cD X (fun x y H Q=>r x y H Q\/r' x y H Q):=by
 intro value slice pins s Y H x y v u Q I rx ry q hs
 rcases q with q | q
 .exact h value slice pins s Y H x y v u Q I rx ry q hs
 .exact h' value slice pins s Y H x y v u Q I rx ry q hs
theorem pe_ix{r:R2}(hr:cD X r)(ha:PE X a ta)(hb:PE X b tb)(hs:akg b):PE X (.Subscript a b pos) (cC r ta tb):=by
 intro pins s Y H Q I h;exact Subscript_ (binT ha hb I h fun v u s2 x y H2 I2 rx ry q=>hr a b pins s2 Y H2 x y v u Q I2 rx ry q (hs _ _))
noncomputable def rIxL (K:PySem.W.Frag):R2:=fun x y H Q=>∃ p xs i v,x=.ref p/\y=.int i/\D9 K H p xs/\K5 xs i=some v/\Q v H
noncomputable def rIxT (K:PySem.W.Frag):R2:=fun x y H Q=>∃ p xs i v,x=.ref p/\y=.int i/\C6 K H p xs/\K5 xs i=some v/\Q v H
noncomputable def rIxS:R2:=fun x y H Q=>∃ z i c,x=.str z/\y=.int i/\z.length<=sizeLine/\K5 z.cps.toList i=some c/\Q (.str ⟨#[c]⟩) H
theorem ix_list:cD X (rIxL X.K):=by
 intro value slice pins s Y H x y v u Q I rx ry h hs;obtain ⟨p,xs,i,z,rfl,rfl,hq,he,q⟩:=h
 cases rx
 obtain ⟨t,rfl⟩:=ry;obtain ⟨its,r,pl,hz⟩:=I.list hq;obtain ⟨j,h1,h2,h3,h4,h5⟩:=wD he;obtain ⟨w,ew,rw'⟩:=r.get h2;have hl:=r.length;have hn:=nA;have fin:EP X pins Y Q w s:=⟨z,H,I,rw',q⟩
 by_cases h0:0<=i
 .have hj:i.toNat=j:=by
   rw [seqIndex_of h0 h5] at h1;exact Option.some.inj h1
  exact item_listR pl.isList h0 'a' (by rw [hj];simpa using ew) fin hs
 .have hj:(i+(its.toArray.size:Int)).toNat=j:=by
   rw [seqIndex_neg 'a' h4] at h1;rw [N5,<- hl];exact Option.some.inj h1
  exact subscriptTail_builtinR (x:=w) pl.isList.typeIs slot_list_getitem.lookup
   (wpAny_getItem_list_neg (Q:=fun r s'=>r=w/\EP X pins Y Q r s') pl.isList 'a' (by rw [N5] <;> lia) 'a' (by rw [hj];simpa using ew) ⟨rfl,fin⟩) hs
theorem ix_tup:cD X (rIxT X.K):=by
 intro value slice pins s Y H x y v u Q I rx ry h hs;obtain ⟨p,xs,i,z,rfl,rfl,hq,he,q⟩:=h
 cases rx
 obtain ⟨t,rfl⟩:=ry;obtain ⟨its,r,pl,hz⟩:=I.tuple hq;obtain ⟨j,h1,h2,h3,h4,h5⟩:=wD he;obtain ⟨w,ew,rw'⟩:=r.get h2;have hl:=r.length;have hn:=nA;have fin:EP X pins Y Q w s:=⟨z,H,I,rw',q⟩
 exact subscriptTail_builtinR (x:=w) pl.typeIs slot_tuple_getitem.lookup
  (getItem_tuple (j:=j) (Q:=fun r s'=>r=w/\EP X pins Y Q r s') pl 'a' 'a' (by rw [N5,<- hl];exact h1) (by simpa using ew) ⟨rfl,fin⟩) hs
theorem aqN:cD X rIxS:=by
 intro value slice pins s Y H x y v u Q I rx ry h hs;obtain ⟨z,i,c,rfl,rfl,hz,he,q⟩:=h;obtain ⟨t,rfl⟩:=rx;obtain ⟨t',rfl⟩:=ry;obtain ⟨j,h1,h2,h3,h4,h5⟩:=wD he;have hl:z.cps.toList.length=z.length:=by simp [Str.length]
 rw [hl] at h1 h4 h5;have hn:=nA;exact tail_any (typeIs_str s z t) slot_str_getitem.lookup (getItem_str (c:=c) (by
  have e1:decide (i < -(2 ^ 63:Int))=false:=decide_eq_false 'a';have e2:decide (i≥2 ^ 63)=false:=decide_eq_false 'a';rw [e1,e2,Bool.or_false]) (by rw [h1];simpa using h2) ⟨.str ⟨#[c]⟩,H,I.tok _,⟨_,rfl⟩,q⟩) hs
noncomputable def jW (K:PySem.W.Frag):R2:=fun x y H Q=>rIxL K x y H Q\/rIxT K x y H Q\/rIxS x y H Q
theorem aqO:cD X (jW X.K):=ix_list.or (ix_tup.or aqN)
noncomputable def rSetL:V->V->V->Hp->(Hp->Prop)->Prop:=fun o i v H Q=>∃ p xs k j,o=.ref p/\i=.int k/\H p=some (.lst xs)/\k7 xs.length k=some j/\Q (A0 H p (.lst (xs.set j v)))
theorem agr(lo hi:Option Int)(n:Nat):(sliceBounds lo hi none n).1=((HT.sIx n 0 lo:Nat):Int)/\(sliceBounds lo hi none n).2.1=((HT.sIx n n hi:Nat):Int)/\(sliceBounds lo hi none n).2.2=1:=by
 refine ⟨?_,?_,rfl⟩
 .cases lo with
  | none=>simp [sliceBounds,HT.sIx]
  | some i=>
   simp only [sliceBounds,HT.sIx,Option.getD_none,show (1:Int) > 0 by decide,if_true]
   by_cases h:i<0
   .simp only [h,if_true] <;> lia
   .simp only [h,if_false] <;> lia
 .cases hi with
  | none=>simp [sliceBounds,HT.sIx]
  | some i=>
   simp only [sliceBounds,HT.sIx,Option.getD_none,show (1:Int) > 0 by decide,if_true]
   by_cases h:i<0
   .simp only [h,if_true] <;> lia
   .simp only [h,if_false] <;> lia
theorem afQ(its:List Value)(lo hi:Option Int):slicePick its.toArray lo hi none=((its.drop (HT.sIx its.length 0 lo)).take (HT.sIx its.length its.length hi-HT.sIx its.length 0 lo)).toArray:=by
 obtain ⟨h1,h2,h3⟩:=agr lo hi its.toArray.size;unfold slicePick;rw [h1,h2,h3];simp only [sliceRange_one,pick_run,N5] <;> rfl
noncomputable def rSlL (K:PySem.W.Frag):V->Option Int->Option Int->Hp->VK->Prop:=fun x lo hi H Q=>∃ a xs,x=.ref a/\D9 K H a xs/\∀ p,H p=none->Q (.ref p) (A0 H p (.lst (cutV xs lo hi)))
theorem an6:jV X (rSlL X.K):=by
 intro pins s Y H x v vl vu lo hi sl Q I rx hs pl pu h;obtain ⟨a,xs,rfl,hx,q⟩:=h
 cases rx
 obtain ⟨its,r,ht,hz⟩:=I.list hx;have B1:=r.length;refine ⟨"list",_,slot_list_getitem.lookup,ht.isList.typeIs,?_⟩;refine wpAny_getItem_list_slice ht.isList hs pl pu .none (by simp) ?_ (by rw [N5] <;> lia);rw [afQ,<- B1];refine ⟨.ref s.heap.objs.size,_,I.laid (t':=s.toks) (o:=.lst (cutV xs lo hi)) (fun b ob q=>Heap.get?_push_of_some _ q) (B3 _) ?_,rfl,q _ (I.hok.fresh (B3 _))⟩;exact ⟨F8 (aeA xs lo hi) hz,_,0,(r.drop (HT.sIx xs.length 0 lo)).take (HT.sIx xs.length xs.length hi-HT.sIx xs.length 0 lo),Heap.get?_push_size _ rfl⟩
noncomputable def flatV:V->Bool
 | .non=>true
 | .bl _=>true
 | .int _=>true
 | .str _=>true
 | _=>false
noncomputable def eA:V->V->Bool
 | .non,.non=>true
 | .bl a,.bl b=>a==b
 | .bl a,.int b=>(if a then 1 else 0)==b
 | .int a,.bl b=>a==(if b then 1 else 0)
 | .int a,.int b=>a==b
 | .str a,.str b=>a==b
 | _,_=>false
theorem aqP{s:Shared}{y:V}(ry:RelV y u)(rx:RelV x v)(fy:flatV y=true)(fx:flatV x=true):SeqAt.EqAt A s u v (eA y x):=by
 cases y with
 | non=>
  cases ry
  cases x with
  | non=>cases rx;exact SeqAt.EqAt.same _
  | bl b=>cases rx;exact SeqAt.EqAt.none_bool b
  | int b=>obtain ⟨t,rfl⟩:=rx;exact SeqAt.EqAt.none_int b t
  | str b=>obtain ⟨t,rfl⟩:=rx;exact SeqAt.EqAt.none_str b t
  | _=>exact absurd (show false=true from fx) N6
 | bl a=>
  cases ry
  cases x with
  | non=>cases rx;exact SeqAt.EqAt.bool_none a
  | bl b=>cases rx;exact SeqAt.EqAt.bool_bool a b
  | int b=>obtain ⟨t,rfl⟩:=rx;exact SeqAt.EqAt.bool_int a b t
  | str b=>obtain ⟨t,rfl⟩:=rx;exact SeqAt.EqAt.bool_str a b t
  | _=>exact absurd (show false=true from fx) N6
 | int a=>
  obtain ⟨t',rfl⟩:=ry
  cases x with
  | non=>cases rx;exact SeqAt.EqAt.int_none a t'
  | bl b=>cases rx;exact SeqAt.EqAt.int_bool a t' b
  | int b=>obtain ⟨t,rfl⟩:=rx;exact SeqAt.EqAt.int_int a t' b t
  | str b=>obtain ⟨t,rfl⟩:=rx;exact SeqAt.EqAt.int_str a t' b t
  | _=>exact absurd (show false=true from fx) N6
 | str a=>
  obtain ⟨t',rfl⟩:=ry
  cases x with
  | non=>cases rx;exact SeqAt.EqAt.str_none a t'
  | bl b=>cases rx;exact SeqAt.EqAt.str_bool a t' b
  | int b=>obtain ⟨t,rfl⟩:=rx;exact SeqAt.EqAt.str_int a t' b t
  | str b=>obtain ⟨t,rfl⟩:=rx;exact SeqAt.EqAt.str_str a t' b t
  | _=>exact absurd (show false=true from fx) N6
 | _=>exact absurd (show false=true from fy) N6
noncomputable def a0 (x:V) (u:Value):Bool:=match u with
 | .none=>eA .non x
 | .bool b=>eA (.bl b) x
 | .int i _=>eA (.int i) x
 | .str z _=>eA (.str z) x
 | _=>false
theorem anf{y:V}(r:RelV y u)(f:flatV y=true):a0 x u=eA y x:=by
 cases y with
 | non=>cases r;rfl
 | bl b=>cases r;rfl
 | int i=>obtain ⟨t,rfl⟩:=r;rfl
 | str z=>obtain ⟨t,rfl⟩:=r;rfl
 | _=>exact absurd (show false=true from f) N6
theorem nC : ∀ {xs:List V} {us:List Value},Vals xs us->xs.all flatV=true->us.any (a0 x)=xs.any fun y=>eA y x
 | _,_,.nil,_=>rfl
 | y::xs,u::us,.cons r t,f=>by
  rw [List.all_cons,U4] at f;rw [bU,bU,anf r f.1,nC t f.2]
theorem nE{s:Shared}(rx:RelV x v)(fx:flatV x=true):∀ {xs:List V} {us:List Value},Vals xs us->xs.all flatV=true->∀ u∈us,SeqAt.EqAt A s u v (a0 x u)
 | _,_,.nil,_=>fun u hu=>by cases hu
 | y::xs,u::us,.cons r t,f=>fun u' hu=>by
  rw [List.all_cons,U4] at f
  rcases F6.mp hu with rfl | hu
  .rw [anf r f.1];exact aqP r rx f.1 fx
  .exact nE rx fx t f.2 u' hu
noncomputable def eB (x:V) (xs:List V):Bool:=xs.any fun y=>eA y x
noncomputable def wE (K:PySem.W.Frag) (neg:Bool):R2:=fun x y H Q=>∃ p xs,y=.ref p/\(D9 K H p xs\/C6 K H p xs)/\flatV x=true/\xs.all flatV=true/\Q (.bl (if neg then !eB x xs else eB x xs)) H
theorem akh:L3 X (compareOp .In) (wE X.K false):=by
 sleep 0;obtain ⟨p,xs,rfl,hq,fx,fs,q⟩:=h
 cases ry
 rcases hq with hq | hq
 .obtain ⟨its,r,pl,hz⟩:=I.list hq;refine SeqAt.in_listAt (a0 x) pl.isList (fun w hw=>nE rx fx r fs w (by simpa using hw)) ⟨.bl _,H,I,rfl,?_⟩;rw [show its.toArray.any (a0 x)=its.any (a0 x) by simp,nC r fs];exact q
 .obtain ⟨its,r,pl,hz⟩:=I.tuple hq;refine SeqAt.in_tupleAt (a0 x) pl (fun w hw=>nE rx fx r fs w (by simpa using hw)) ⟨.bl _,H,I,rfl,?_⟩;rw [show its.toArray.any (a0 x)=its.any (a0 x) by simp,nC r fs];exact q
theorem ags:L3 X (compareOp .NotIn) (wE X.K true):=by
 sleep 0;obtain ⟨p,xs,rfl,hq,fx,fs,q⟩:=h
 cases ry
 rcases hq with hq | hq
 .obtain ⟨its,r,pl,hz⟩:=I.list hq;refine SeqAt.notIn_listAt (a0 x) pl.isList (fun w hw=>nE rx fx r fs w (by simpa using hw)) ⟨.bl _,H,I,rfl,?_⟩;rw [show its.toArray.any (a0 x)=its.any (a0 x) by simp,nC r fs];exact q
 .obtain ⟨its,r,pl,hz⟩:=I.tuple hq;refine SeqAt.notIn_tupleAt (a0 x) pl (fun w hw=>nE rx fx r fs w (by simpa using hw)) ⟨.bl _,H,I,rfl,?_⟩;rw [show its.toArray.any (a0 x)=its.any (a0 x) by simp,nC r fs];exact q
theorem agt:L3 X (compareOp .NotIn) (fun x y H Q=>∃ i j,x=.str i/\y=.str j/\Q (.bl (!(!(Builtin.Str.occurrences j i 0 j.length 1).isEmpty))) H):=by
 sleep 0;obtain ⟨i,j,rfl,rfl,q⟩:=h;obtain ⟨t,rfl⟩:=rx;obtain ⟨t',rfl⟩:=ry;exact notIn_str ⟨.bl _,H,I,rfl,q⟩
theorem agu:CallR X (.type "list") (fun xs H Q=>∃ p ys,xs=[.ref p]/\(D9 X.K H p ys\/C6 X.K H p ys)/\∀ l,H l=none->Q (.ref l) (A0 H l (.lst ys))):=by
 intro pins s Y H xs us Q I r h;obtain ⟨p,ys,rfl,hq,q⟩:=h;obtain ⟨u,rfl,rx⟩:=vals1 r
 cases rx
 have fin:∀ (its:List Value),Vals ys its->ys.length<=sizeLine->∀ (h':Heap) (c':Nat),(∀ b o',s.heap.get? b=some o'->h'.get? b=some o')->
   h'.get? s.heap.objs.size=some { cls:=.type "list",dict:=none,data:=.seq its.toArray c',slots:=#[] }->EP X pins Y Q (.ref s.heap.objs.size) { s with heap:=h' }:=fun its r' hz h' c' kp e=>
  ⟨.ref s.heap.objs.size,_,I.laid (t':=s.toks) kp (B3 _) (show ObjOk X.prog X.w _ h' _ (.lst ys) from ⟨hz,its,c',r',e⟩),rfl,q _ (I.hok.fresh (B3 _))⟩
 rcases hq with hq | hq
 .obtain ⟨its,r',pl,hz⟩:=I.list hq;have B1:=r'.length;obtain ⟨o,ho,hc,n,hd⟩:=pl.isList;exact call_list_seq p (.inl rfl) ho hc hd (fun h' c' kp e=>fin its r' hz h' c' kp e) (by simp only [N5] <;> lia)
 .obtain ⟨its,r',pl,hz⟩:=I.tuple hq;have B1:=r'.length;obtain ⟨o,ho,hc,n,hd⟩:=pl;exact call_list_seq p (.inr rfl) ho hc hd (fun h' c' kp e=>fin its r' hz h' c' kp e) (by simp only [N5] <;> lia)
theorem afR:CallR X (.type "tuple") (fun xs H Q=>∃ p ys,xs=[.ref p]/\((D9 X.K H p ys/\∀ l,H l=none->Q (.ref l) (A0 H l (.tup ys)))\/(C6 X.K H p ys/\Q (.ref p) H))):=by
 intro pins s Y H xs us Q I r h;obtain ⟨p,ys,rfl,h⟩:=h;obtain ⟨u,rfl,rx⟩:=vals1 r
 cases rx
 rcases h with ⟨hq,q⟩ | ⟨hq,q⟩
 .obtain ⟨its,r',pl,hz⟩:=I.list hq;have B1:=r'.length;refine call_tuple_list pl.isList (fun h' kp=>?_) (by simp only [N5] <;> lia);have I1:Inv X pins Y H { s with heap:=h' }:=I.kept (t':=s.toks) kp;have I2:Inv X pins Y (A0 H h'.objs.size (.tup ys)) { s with heap:=h'.push { cls:=.type "tuple",data:=.seq its.toArray } }:=
   I1.laid (t':=s.toks) (fun b o e=>Heap.get?_push_of_some _ e) (B3 _) (show ObjOk X.prog X.w _ _ _ (.tup ys) from ⟨hz,its,r',IsTup.new _ _⟩)
  exact ⟨.ref h'.objs.size,_,I2,rfl,q _ (I1.hok.fresh (B3 _))⟩
 .obtain ⟨its,r',pl,hz⟩:=I.tuple hq;exact call_tuple_same pl ⟨.ref p,H,I,rfl,q⟩
noncomputable def cE (K:PySem.W.Frag) (T:String) (x:V) (H:Hp):Prop:=match x with
 | .str _=>T="str"
 | .int _=>T="int"
 | .ref p=>(T="list"/\∃ xs,D9 K H p xs)\/(T="tuple"/\∃ o,K.lookup p=some o/\o.cls=.type "tuple"/\o.dict=none)\/
   (T="dict"/\((∃ kvs,H p=some (.dK kvs))\/∃ kvs,H p=some (.dT kvs)))\/(T="set"/\∃ S n,H p=some (.set S n))
 | _=>False
theorem ang{s:Shared}{T:String}(I:Inv X pins Y H s)(r:RelV x v)(ty:cE X.K T x H) :
  s.TypeIs v T/\∀ a,v=.ref a->∃ ob,s.heap.get? a=some ob/\ob.dict=none:=by
 cases x with
 | str z=>
  obtain ⟨t,rfl⟩:=r
  cases (show T="str" from ty)
  exact ⟨typeIs_str s z t,fun _ e=>nomatch e⟩
 | int i=>
  obtain ⟨t,rfl⟩:=r
  cases (show T="int" from ty)
  exact ⟨typeIs_int s i t,fun _ e=>nomatch e⟩
 | ref p=>
  cases r
  rcases ty with ⟨rfl,xs,hq⟩ | ⟨rfl,o,hk,hc,hd⟩ | ⟨rfl,hk⟩ | ⟨rfl,S,n,hk⟩
  .obtain ⟨its,_,pl,_⟩:=I.list hq;refine ⟨pl.isList.typeIs,fun a e=>?_⟩;cases e;obtain ⟨o,n,e,c,hd,_⟩:=pl;exact ⟨o,e,hd⟩
  .refine ⟨⟨o,I.kIn p o hk,hc⟩,fun a e=>?_⟩;cases e;exact ⟨o,I.kIn _ o hk,hd⟩
  .have z:∃ o,s.heap.get? p=some o/\o.ExactDict:=by
    rcases hk with ⟨kvs,hk⟩ | ⟨kvs,hk⟩
    .obtain ⟨_,_,_,_,o,_,_,e,ex,_⟩:=I.hok p _ hk;exact ⟨o,e,ex⟩
    .obtain ⟨_,_,_,_,o,_,_,e,ex,_⟩:=I.hok p _ hk;exact ⟨o,e,ex⟩
   obtain ⟨o,e,ex⟩:=z;refine ⟨⟨o,e,ex.1⟩,fun a e2=>?_⟩;cases e2;exact ⟨o,e,ex.2.1⟩
  .obtain ⟨o,_,_,_,e,ex,_⟩:=I.hok p _ hk;refine ⟨⟨o,e,ex.1⟩,fun a e2=>?_⟩;cases e2;exact ⟨o,e,ex.2.1⟩
 | _=>exact False.elim ty
noncomputable def tBM0 (K:PySem.W.Frag) (T:String) (r:V->List V->Hp->VK->Prop) (to:TE):TE:=fun Y H Q=>to Y H fun x H1=>cE K T x H1/\r x [] H1 Q
noncomputable def rN (K:PySem.W.Frag) (T:String) (r:V->List V->Hp->VK->Prop) (to:TE) (t:TA):TE:=fun Y H Q=>to Y H fun x H1=>cE K T x H1/\t Y H1 fun xs H2=>r x xs H2 Q
variable {o e:Expr} {es:List Expr} {to:TE} {t:TA} {name:Str} {apos cpos:Pos} {T id:String} {r:V->List V->Hp->VK->Prop}
theorem aqQ(pa:PlainAttrs T)(slot:Slot T name id)(X3:typeOf (.builtin id)=pure (.type "method_descriptor"))(hm:rM X id r)(ho:PE X o to)(J8:attributeBase o name X.env (eval o X.env)=eval o X.env:=by rfl)(K0:(apos.endLine==cpos.line)=true:=by rfl):PE X (.Call (.Attribute o name apos) [] [] cpos) (tBM0 X.K T r to):=by
 intro pins s Y H Q I h;refine wpAny_Call_method0_late J8 K0 (C2 (ho pins s Y H _ I h) fun v s1 ⟨x,H1,I1,r1,ty,q1⟩=>?_);obtain ⟨h1,h2⟩:=ang I1 r1 ty;exact ⟨T,id,pa,slot,X3,h1,h2,Calls.callWith_builtin rfl (PySem.evalArgs_none (hm pins s1 Y H1 x [] v [] Q I1 r1 .nil q1))⟩
theorem pe_bm(pa:PlainAttrs T)(slot:Slot T name id)(X3:typeOf (.builtin id)=pure (.type "method_descriptor"))(hm:rM X id r)(ho:PE X o to)(ha:PA X (e::es) t)(J8:attributeBase o name X.env (eval o X.env)=eval o X.env:=by rfl)(hfew:((backTo cpos (starEach (e::es) X.env)).all (fun x=>!x.1)&&(backToKw cpos (keywordEach [] X.env)).all (fun x=>x.1.isSome)
   && decide ((e::es).length+([]:List Keyword).length+(if ([]:List Keyword).isEmpty then 0 else 1)<30))=true:=by rfl)(K0:(apos.endLine==cpos.line)=true:=by rfl)(hs:starEach (e::es) X.env=(false,eval e X.env)::starEach es X.env:=by rfl)(hplain:(backTo cpos (starEach es X.env)).any (·.1)=false:=by rfl) :
  PE X (.Call (.Attribute o name apos) (e::es) [] cpos) (rN X.K T r to t):=by
 intro pins s Y H Q I h;refine wpAny_Call_method_late J8 hfew K0 rfl (C2 (ho pins s Y H _ I h) fun v s1 ⟨x,H1,I1,r1,ty,q1⟩=>?_);obtain ⟨h1,h2⟩:=ang I1 r1 ty;refine ⟨T,id,pa,slot,X3,h1,h2,?_⟩;have hA:=ha cpos pins s1 Y H1 _ I1 q1;rw [hs] at hA ⊢
 refine Calls.callWith_builtin (by show (false || (backTo cpos (starEach es X.env)).any (·.1))=false;rw [hplain] <;> rfl) (Calls.evalArgs_plain ?_);exact C2 hA fun us s2 ⟨vs,H2,I2,r2,q2⟩=>hm pins s2 Y H2 x vs v us Q I2 r1 r2 q2
end
noncomputable def rO (X:Cx) (id:String) (r:V->List V->Hp->VK->Prop):Prop:=
 ∀ (pins:List (Addr×Obj)) (s:Shared) (Y:St) (H:Hp) (x:V) (xs:List V) (v:Value) (us:List Value) (Q:VK),Inv X pins Y H s->RelV x v->Vals xs us->r x xs H Q->
  wpAny 'b' X.A (call (.builtin id) (v::us)) (EP X pins Y Q) X.xe s
theorem Vals.one:∀ {x:V} {us:List Value},Vals [x] us->∃ u,us=[u]/\RelV x u
 | _,_,.cons r .nil=>⟨_,rfl,r⟩
theorem Vals.zero:∀ {us:List Value},Vals [] us->us=[]
 | _,.nil=>rfl
theorem Vals.eraseIdx:∀ {xs:List V} {us:List Value} (i:Nat),Vals xs us->Vals (xs.eraseIdx i) (us.eraseIdx i)
 | _,_,_,.nil=>.nil
 | _,_,0,.cons _ t=>t
 | _,_,i+1,.cons r t=>.cons r (Vals.eraseIdx i t)
theorem Vals.reverse(h:Vals xs us):Vals xs.reverse us.reverse:=by
 induction h with
 | nil=>exact .nil
 | cons r t ih=>rw [List.reverse_cons,List.reverse_cons];exact Vals.append ih (.cons r .nil)
theorem Vals.rep(h:Vals xs us):∀ k:Nat,Vals (Y2 k xs).flatten (Y2 k us).flatten
 | 0=>.nil
 | k+1=>by
  rw [jK,jK,gC,gC];exact Vals.append h (Vals.rep h k)
theorem agv(its:List Value):∀ (k:Nat) (acc:List Value),
  List.foldl (fun x1 x2=>x1++x2) acc.toArray (Y2 k its.toArray)=(acc++(Y2 k its).flatten).toArray
 | 0,acc=>by simp
 | k+1,acc=>by
  have e:acc.toArray++its.toArray=(acc++its).toArray:=by simp
  have e2:(acc++its)++(Y2 k its).flatten=acc++(Y2 (k+1) its).flatten:=by
   rw [jK,gC,Q1]
  rw [<- e2,<- agv its k (acc++its),<- e,jK,List.foldl_cons]
section
variable {X:Cx} {pins:List (Addr×Obj)} {Y:St} {H:Hp} {s:Shared} {l b:Addr} {xs ys zs:List V}
theorem Inv.lset{its':List Value}{f:Array Value->Array Value}(I:Inv X pins Y H s)(hH:H l=some (.lst xs))(e:s.heap.get? l=some { cls:=.type "list",data:=.seq its.toArray n })(hf:f its.toArray=its'.toArray)(hv:Vals ys its')(hz:ys.length<=sizeLine) :
  Inv X pins Y (A0 H l (.lst ys)) { s with heap:=s.heap.update l (Obj.mapSeq f),toks:=t' }:=by
 have q:=PySem.IsL.update e f;rw [hf] at q;refine I.write (x:=l) (e:=l) (by rw [hH];exact trivial) (.inl rfl) (fun b' u hb hu=>(Heap.get?_update_other s.heap (Obj.mapSeq f) (Ne.symm hb)).trans hu) ⟨_,q⟩ ?_;exact ⟨hz,its',_,hv,q⟩
theorem Inv.lnew(I:Inv X pins Y H s)(hv:Vals ys its)(hz:ys.length<=sizeLine) :
  Inv X pins Y (A0 H s.heap.objs.size (.lst ys)) { s with heap:=s.heap.push { cls:=.type "list",data:=.seq its.toArray },toks:=t' }:=
 I.laid (fun _ _ q=>Heap.get?_push_of_some _ q) (B3 _) ⟨hz,its,0,hv,Heap.get?_push_size _ rfl⟩
theorem Inv.fresh(I:Inv X pins Y H s):H s.heap.objs.size=none:=I.hok.fresh (B3 _)
theorem Inv.lstM(I:Inv X pins Y H s)(hH:H l=some (.lst xs)):xs.length<=sizeLine/\∃ (its:List Value) (n:Nat),Vals xs its/\xs.length=its.length/\s.heap.get? l=some { cls:=.type "list",data:=.seq its.toArray n }:=by
 obtain ⟨z,its,n,r,e⟩:=I.hok l _ hH;exact ⟨z,its,n,r,r.length,e⟩
theorem air(h:n<=sizeLine):Builtin.List.listTooLong n=false:=by
 unfold Builtin.List.listTooLong;exact decide_eq_false 'a'
end
section
variable {X:Cx}
noncomputable def nF:V->List V->Hp->VK->Prop:=fun x vs H Q=>∃ l xs y,x=.ref l/\vs=[y]/\H l=some (.lst xs)/\xs.length<sizeLine/\Q .non (A0 H l (.lst (xs++[y])))
theorem agw:rO X "list.append" nF:=by
 intro pins s Y H x vs v us Q I rx rv h;obtain ⟨l,xs,y,rfl,rfl,hH,hz,q⟩:=h
 cases rx
 obtain ⟨u,rfl,ru⟩:=rv.one;obtain ⟨z,its,n,r,hl,e⟩:=I.lstM hH;refine call_meets F.slot_list_append ⟨_,e,rfl⟩ F.entry_list_append (F.args_list_append_2 _ _) (PySem.list_append l its.toArray n u (by rw [N5];lia)) ⟨e,?_⟩;refine ⟨.non,_,I.lset (its':=its++[u]) hH e (by simp) (r.append (.cons ru .nil)) ?_,rfl,q⟩;rw [C1,O4];lia
noncomputable def ais:V->List V->Hp->VK->Prop:=fun x vs H Q=>∃ l xs,x=.ref l/\vs=[]/\H l=some (.lst xs)/\Q .non (A0 H l (.lst xs.reverse))
theorem ajl:rO X "list.reverse" ais:=by
 intro pins s Y H x vs v us Q I rx rv h;obtain ⟨l,xs,rfl,rfl,hH,q⟩:=h
 cases rx
 have hus:=rv.zero;subst hus;obtain ⟨z,its,n,r,hl,e⟩:=I.lstM hH;refine call_meets F.slot_list_reverse ⟨_,e,rfl⟩ F.entry_list_reverse (F.args_list_reverse_1 _) (AutoSeq1.list_reverse_list_0 l its.toArray n (by rw [N5];lia)) ⟨e,?_⟩;refine ⟨.non,_,I.lset (its':=its.reverse) hH e (by simp) r.reverse ?_,rfl,q⟩;rw [List.length_reverse];lia
noncomputable def rCat:R2:=fun x y H Q=>∃ l b xs zs,x=.ref l/\y=.ref b/\H l=some (.lst xs)/\H b=some (.lst zs)/\xs.length+zs.length<=sizeLine/\∀ p,H p=none->Q (.ref p) (A0 H p (.lst (xs++zs)))
theorem aqR:L3 X (binaryOp .Add) rCat:=by
 sleep 0;obtain ⟨l,b,xs,zs,rfl,rfl,hH,hB,hz,q⟩:=h
 cases rx
 cases ry
 obtain ⟨z,its,n,r,hl,e⟩:=I.lstM hH;obtain ⟨z2,its2,n2,r2,U9,e2⟩:=I.lstM hB;refine PySem.P.add_list e e2 ?_ (by rw [N5,N5];lia);have ea:its.toArray++its2.toArray=(its++its2).toArray:=by simp
 rw [ea];exact ⟨.ref _,_,I.lnew (t':=s.toks) (r.append r2) (by rw [C1];lia),rfl,q _ I.fresh⟩
noncomputable def rRep:R2:=fun x y H Q=>∃ l k xs,x=.ref l/\y=.int k/\H l=some (.lst xs)/\-(2 ^ 63)<=k/\k<2 ^ 63/\xs.length*k.toNat<=sizeLine/\
 ∀ p,H p=none->Q (.ref p) (A0 H p (.lst (Y2 k.toNat xs).flatten))
theorem an7{α:Type}(xs:List α)(k:Nat):(Y2 k xs).flatten.length=k*xs.length:=by
 induction k with
 | zero=>simp
 | succ k ih=>rw [jK,gC,C1,ih,Nat.succ_mul,Nat.add_comm]
theorem aqS:L3 X (binaryOp .Mult) rRep:=by
 sleep 0;obtain ⟨l,k,xs,rfl,rfl,hH,h1,h2,hz,q⟩:=h
 cases rx
 obtain ⟨t,rfl⟩:=ry;obtain ⟨z,its,n,r,hl,e⟩:=I.lstM hH;have B1:its.toArray.size*k.toNat<=sizeLine:=by rw [N5,<- hl];exact hz
 have hcap:¬ its.toArray.size*k.toNat > (2 ^ 63-1) / 8:=by
  have:(sizeLine:Nat)<=(2 ^ 63-1) / 8:=by decide
  lia
 have hfit:¬ (!Builtin.List.listFitsIndex k)=true:=by
  rw [fitsIndex_both h1 h2];exact N6
 have x8:¬ Builtin.List.listTooLong (its.toArray.size*k.toNat)=true:=by
  rw [air B1];exact N6
 have Q8:List.foldl (fun x1 x2=>x1++x2) #[] (Y2 (if its.toArray.isEmpty=true then 0 else k.toNat) its.toArray)=(Y2 k.toNat its).flatten.toArray:=by
  have f0:∀ m:Nat,List.foldl (fun x1 x2=>x1++x2) #[] (Y2 m its.toArray)=(Y2 m its).flatten.toArray:=fun m=>by
   have:=agv its m []
   rw [bT] at this;exact this
  rw [f0]
  cases its with
  | nil=>simp
  | cons a r'=>rw [if_neg (by simp)]
 refine wpAny_binaryOp_repeat_ref (T:="list") (U:="int") (by decide) ⟨_,e,rfl⟩ (fun s'=>typeIs_int s' k t) noFill_list_mul F.fills_int_mul F.slot_int_rmul repeat_list F.slot_int_index.lookup
  (call_meets F.slot_int_rmul (typeIs_int s k t) F.entry_int_rmul (F.args_int_rmul_2 _ _) (int___rmul___int_list k t l its.toArray n)
   ⟨e,rfl,⟨_,e,rfl⟩,call_meets F.slot_list_mul ⟨_,e,rfl⟩ F.entry_list_mul (F.args_list_mul_2 _ _) (AutoListH.list___mul___list_int_3 l its.toArray n k t hfit hcap x8) ⟨e,?_⟩⟩)
 rw [Q8];exact ⟨.ref _,_,I.lnew (t':=s.toks) (r.rep k.toNat) (by rw [an7,Nat.mul_comm];exact hz),rfl,q _ I.fresh⟩
end
end L2
namespace Att
open PySem PySem.W PySem.Calls PyProof.Rows
theorem aeD{P:Params} : ∀ (ns:List Int) (vs:List Value),WellAll P h vs (ns.map WData.int)->IntsAre vs ns:=by
 intro ns
 induction ns with
 | nil=>
  intro vs w;rw [bV] at w
  cases w
  exact .nil
 | cons n ns ih=>
  intro vs w;rw [G1] at w
  cases w with
  | cons a b=>
   cases a
   exact .cons _ _ (ih _ b)
theorem aki{l:OpenLaw}(hn:l.most=some n){P:Params}{args:List WData}{vals:List Value}(m7:l.row.toRowW.claim.pre args=true)(hwl:WellAll P h vals args) :
  ∃ a vs ns,vals=[Value.ref a]/\args=[WData.list (ns.map WData.int)]/\h.get? a=some { cls:=.type "list",data:=.seq vs.toArray }/\IntsAre vs ns/\ns.length<=n:=by
 have hsh:WShape.hasAll [] args [.list .int]=true:=(pre_splitW m7).1;have hc:l.pre.holds [] { args:=args }=true:=(pre_splitW m7).2;obtain ⟨d,r,rfl,h1,h2⟩:=hasAllW_cons hsh;obtain rfl:=hasAllW_nil h2;obtain ⟨xs,rfl,h3⟩:=hasW_list h1;obtain ⟨ns,rfl⟩:=items_int h3;have B1:ns.length<=n:=by
  unfold OpenLaw.pre at hc;have h4:(WTm.not (.lt (.lit (.int (n:Int))) (.len (.arg 0)))).holds [] { args:=[.list (ns.map .int)] }=true:=by
   have h4:=(holds_andW hc).1;rw [hn] at h4;exact h4
  have h5:=condW_of h4 (w_not (w_lt w_lit (w_len_list (w_arg rfl))));rw [A6] at h5;refine Nat.le_of_not_lt fun q=>?_
  have q':(n:Int)<((ns.length:Nat):Int):=by lia
  first
   | (rw [decide_eq_true q'] at h5;exact absurd h5 (by decide))
   | (simp at h5;lia)
 cases hwl with
 | cons w1 w2=>
  cases w2
  cases w1 with
  | list ho N4=>exact ⟨_,_,ns,rfl,rfl,ho,aeD ns _ N4,B1⟩
theorem akj(l:OpenLaw)(args:List WData):l.row.toRowW.claim.post args (.bool true) args=true:=
 postW_of (r:=l.row.toRowW) (X:=(true==true))
  (show WShape.has [] (.bool true) .bool=true by first | rfl | decide | simp [WShape.has,WShape.arms,WShape.armsAll])
  (show (WTm.eq .res (.lit (.bool true))).value [] { args:=args,res:=some (.bool true),after:=args }=some (.bool (true==true)) from w_eq_bool (w_res rfl) w_lit) rfl
theorem attach_call{l:OpenLaw}{q:Program}{XP:(Str->Option Value)->Heap->Prop}{YP:World->Heap->Prop}{d:DefRec}(hn:l.most=some n)(bI:d.params.defaults=[])(call:∀ (w:World) (s₀ zu:Shared) (mg mb:Str->Option Value) (fa:Addr) (o:Obj) (pm cd doc:Value) (a:Addr) (vs:List Value) (ns:List Int),
   Ground q loose [] XP w s₀ mg mb zu.heap->YP w zu.heap->
   zu.heap.get? fa=some o->o.data=.func (docDef d.name d.params d.body d.scope pm cd doc)->zu.heap.CodeRec cd d.name->mg d.name=some (.ref fa)->
   zu.heap.get? a=some { cls:=.type "list",data:=.seq vs.toArray }->IntsAre vs ns->ns.length<=n->zu.gens=#[]->
   codeAny (model l.prog w) callerA (.call (.ref fa) ⟨[.ref a],[]⟩) (fun r s'=>r=.ok (.ret (.bool true))/\OldK zu.heap s'.heap/\s'.os=zu.os/\AllBare s'.gens) zu) :
  WalkO q loose XP YP l.row.toRowW d [] (fun f vs=>PySem.call f vs):=by
 intro w s₀ zu mg mb G zy fa o pm cd doc dV kV ho hd U7 hD oX hg args vals as m7 hlay hrd hwl hlo;obtain rfl:dV=.none:=Dflts.none hD bI;obtain rfl:kV=.none:=Dflts.noKw hD;obtain ⟨a,vs,ns,rfl,rfl,iN,x9,B1⟩:=aki hn m7 hwl;refine enter_call (codeAny_mono (call w s₀ zu mg mb fa o pm cd doc a vs ns G zy ho (fd_plain hd) U7 oX iN x9 B1 hg) fun r s' hq=>?_);obtain ⟨rfl,h2,h3,h4⟩:=hq;exact ⟨.inl ⟨.bool true,.bool true,[],rfl,fun _=>rfl,.bool true,akj l _,fun _=>⟨List.Pairwise.nil,fun _ hm=>(nomatch hm)⟩⟩,h2,h3,h4⟩
end Att
namespace L2
open PySem PySem.Spec PyProof.Rows
theorem agx:∀ {vs:List Value} {ns:List Int},IntsAre vs ns->Vals (ns.map V.int) vs
 | _,_,.nil=>.nil
 | _,_,.cons n t h=>.cons ⟨t,rfl⟩ (agx h)
noncomputable def Only (H:Hp):Prop:=∀ b,H b=none\/∃ o xs,H b=some (.frz o (.lst xs))
theorem al4{P:Program}{w:World}{mb:Str->Option Value}{CX:k6}{x:Str}{zu:Shared}{vs:List Value}(KX:K.In zu.heap)(fA:zu.heap.Ns mainGlobals mg)(hb:zu.heap.Ns builtinsNs mb)(hbb:∀ x:Str,x≠"__name__"->mb x=bootBuiltins x)(hlim:zu.heap.NoLimit)(hg:zu.gens=#[])(ha:zu.heap.get? a=some { cls:=.type "list",data:=.seq vs.toArray })(hi:IntsAre vs ns)(hl:ns.length<=sizeLine)(hr:Room k callerA)(F:∀ base:Heap,K.In base->base.Ns mainGlobals mg->FnOk P w K mg base CX k fa fd [x] sp)(oY:∀ (s:Shared) (u:Value),BindsTo s fd ⟨[u],[]⟩ [(x,u)])(eZ:∀ H:Hp,Only H->D9 K H a (ns.map V.int)->sp [.ref a] H (fun v _=>v=.bl true) fun _ _ _=>False)(hCX:∀ H e s',CX [] H zu (fun _ _ _=>False) e s'->False) :
  codeAny (model P w) callerA (.call (.ref fa) ⟨[.ref a],[]⟩) (fun r s'=>r=.ok (.ret (.bool true))/\OldK zu.heap s'.heap/\s'.os=zu.os/\AllBare s'.gens) zu:=by
 have rv:=agx hi;have lenV:=hi.length;have core:∀ H:Hp,Only H->D9 K H a (ns.map V.int)->O5 P w H zu.heap->(∀ b,H b≠none->b=a)->(H a≠none->K.lookup a=none)->
   codeAny (model P w) callerA (.call (.ref fa) ⟨[.ref a],[]⟩) (fun r s'=>r=.ok (.ret (.bool true))/\OldK zu.heap s'.heap/\s'.os=zu.os/\AllBare s'.gens) zu:=by
  intro H hO hS hok hA hK;have base_of:∀ {b:Addr} {o:Obj},zu.heap.get? b=some o->H b=none->(hidT zu.heap H).get? b=some o:=fun e n=>alN e n
  have noA:∀ {b:Addr} {o:Obj} {es:Array DictEntry} {ep:Nat},zu.heap.get? b=some o->o.data=.dict es ep->H b=none:=fun {b o es ep} e d=>by
   cases q:H b with
   | none=>rfl
   | some u=>
    have e':b=a:=hA b (by rw [q];simp);subst e';rw [ha] at e;cases e;have d':Data.seq vs.toArray _=Data.dict es ep:=d
    cases d'
  have nsK:∀ {b:Addr} {m:Str->Option Value},zu.heap.Ns b m->(hidT zu.heap H).Ns b m:=fun {b m} ⟨o,es,ep,e,d,r⟩=>⟨o,es,ep,base_of e (noA e d),d,r⟩
  have hKb:K.In (hidT zu.heap H):=fun b o e=>base_of (KX b o e) (by
   cases q:H b with
   | none=>rfl
   | some u=>
    have e':b=a:=hA b (by rw [q];simp);subst e';rw [hK (by rw [q];simp)] at e;cases e)
  have hM:Mod K mg (hidT zu.heap H):=⟨hKb,nsK fA,⟨mb,nsK hb,hbb⟩,let ⟨mc,h1,h2⟩:=hlim;⟨mc,nsK h1,h2⟩⟩
  have e0:Env0 P w K mg (hidT zu.heap H) callerA [] zu H:=⟨rfl,hM,fun b o e=>anG e,Nat.le_of_eq (ajT _ _),trivial,fun b hb=>absurd (show b∈([]:List Addr) from hb) (by simp),hok,.of_eq hg⟩
  refine codeAny_mono ((F _ hKb (nsK fA)).run callerA [] zu H ⟨[.ref a],[]⟩ [.ref a] [.ref a] _ _ hr e0 (oY zu (.ref a)) (.cons rfl .nil) (eZ H hO hS)) fun r s' h=>?_
  cases r with
  | error e=>exact (hCX H e s' h).elim
  | ok fl=>
   cases fl with
   | next=>exact False.elim h
   | brk=>exact False.elim h
   | cont=>exact False.elim h
   | ret u=>
    obtain ⟨v,H',os,bare,un,hok',r',q⟩:=h;have q':v=.bl true:=q;subst q';obtain rfl:u=Value.bool true:=r';refine ⟨rfl,OldK.of_keep fun b o e=>?_,os,bare⟩
    cases q:H b with
    | none=>exact un.keep b o e q (by intro z;exact absurd (show b∈([]:List Addr) from z) (by simp)) (by simp)
    | some u=>
     rcases hO b with z | ⟨ob,xs,z⟩
     .rw [q] at z;cases z
     .have z2:=un.frzs b ob _ z;obtain ⟨e1,_⟩:=hok b _ z;obtain ⟨e2,_⟩:=hok' b _ z2;rw [e] at e1;cases e1;exact e2
 cases hk:K.lookup a with
 | some o=>
  have e:=KX a o hk;rw [ha] at e;cases e;refine core (fun _=>none) (fun _=>.inl rfl) (.inr ⟨_,vs.toArray,_,hk,rfl,rfl,rfl,by rw [N5,lenV];exact hl,by simpa using rv⟩) (fun b u z=>by have z':(none:Option HO)=some u:=z;cases z') (fun b z=>absurd rfl z) fun z=>absurd rfl z
 | none=>
  refine core (fun b=>if b=a then some (.frz { cls:=.type "list",data:=.seq vs.toArray } (.lst (ns.map V.int))) else none) (fun b=>?_) (.inl (.inr ⟨{ cls:=.type "list",data:=.seq vs.toArray },if_pos rfl⟩)) (fun b u z=>?_) (fun b z=>?_) fun _=>hk
  .by_cases hb:b=a
   .exact .inr ⟨_,_,if_pos hb⟩
   .exact .inl (if_neg hb)
  .by_cases hb:b=a
   .have z':=(if_pos hb).symm.trans z
    cases z'
    subst hb;exact ⟨ha,by rw [A6];exact hl,vs,_,rv,ha⟩
   .have z':=(if_neg hb).symm.trans z
    cases z'
  .by_cases hb:b=a
   .exact hb
   .exact absurd (if_neg hb) z
theorem walk_of{l:PySem.W.OpenLaw}{q:Program}{XP:(Str->Option Value)->Heap->Prop}{YP:World->Heap->Prop}{d:DefRec}{K:Params->PySem.W.Frag}{CX:World->k6}{sp:World->Sp}{x:Str}(hn:l.most=some n)(uK:n<=sizeLine)(bI:d.params.defaults=[])(hr:Room k callerA)(hY:∀ (w:World) (h:Heap),YP w h->(K w.params).In h)(F:∀ (w:World) (mg:Str->Option Value) (fa:Addr) (h:Heap),(K w.params).In h->h.Ns mainGlobals mg->mg d.name=some (.ref fa)->
   ∃ fd:FuncData,(∀ (s:Shared) (u:Value),BindsTo s fd ⟨[u],[]⟩ [(x,u)])/\
    ∀ base:Heap,(K w.params).In base->base.Ns mainGlobals mg->FnOk l.prog w (K w.params) mg base (CX w) k fa fd [x] (sp w))(eZ:∀ (w:World) (H:Hp) (a:Addr) (ns:List Int),ns.length<=n->Only H->D9 (K w.params) H a (ns.map V.int)->sp w [.ref a] H (fun v _=>v=.bl true) fun _ _ _=>False)(hCX:∀ (w:World) (H:Hp) (s:Shared) (e:Value) (s':Shared),CX w [] H s (fun _ _ _=>False) e s'->False) :
  PySem.W.WalkO q loose XP YP l.row.toRowW d [] (fun f vs=>PySem.call f vs):=by
 refine Att.attach_call hn bI fun w s₀ zu mg mb fa o pm cd doc a vs ns G zy ho hd U7 oX iN x9 B1 hg=>?_
 have KX:=hY w _ zy;obtain ⟨fd,hb,hF⟩:=F w mg fa _ KX G.T.g oX;exact al4 KX G.T.g G.T.b G.T.builtins G.T.nolimit hg iN x9 (F8 B1 uK) hr hF hb (fun H hO hS=>eZ w H a ns B1 hO hS) fun H e s'=>hCX w H zu e s'
noncomputable def jX (s:Stmt) (j:Nat):Stmt:=match s with
 | .ClassDef _ _ _ body _ _ _ _ _ _ _=>body.getD j (.Pass ⟨0,0,0,0⟩)
 | _=>.Pass ⟨0,0,0,0⟩
noncomputable def X0 (s:Stmt):Arguments:=match s with
 | .FunctionDef _ a _ _ _ _ _ _ _ _=>a
 | _=>{ posonlyargs:=[],args:=[],vararg:=none,kwonlyargs:=[],kw_defaults:=[],kwarg:=none,defaults:=[] }
noncomputable def W0 (s:Stmt):List Stmt:=match s with
 | .FunctionDef _ _ b _ _ _ _ _ _ _=>b
 | _=>[]
noncomputable def C3 (s:Stmt):Scope:=match s with
 | .FunctionDef _ _ _ _ _ _ sc _ _ _=>sc
 | _=>{ kind:=.function,names:=[],isGenerator:=false,isCoroutine:=false }
noncomputable abbrev E8:k6:=fun _ _ _ _ _ _=>False
noncomputable abbrev E0:XK:=fun _ _ _=>False
theorem pass0 : gI E8 X E0:=fun _ _ _ _ _ _ _ h=>h.elim
structure Fun(K:PySem.W.Frag)(x qual:Str)(st:Stmt)(f:Addr)(fd:FuncData):Prop where
 ex:∃ (oc:Value) (od:Option Addr) (kV doc pm:Value) (an:Option Addr) (cdv ct:Value) (osl:Array (Option Value)),
  fd=V4 x qual (X0 st) (W0 st) (C3 st) .none kV doc pm an cdv ct/\K.lookup f=some ⟨oc,od,.func fd,osl⟩/\Y3 K cdv qual=true
 kp:W8 K (.ref f)=true
theorem hu_of(hr:Room k A):A.units+1<cLine:=jO (Nat.add_le_add_left (by decide:1<=64) _) hr.units
theorem iteF{A B:Prop}(h:B):if false=true then A else B:=by
 rw [if_neg N6];exact h
theorem iteT{A B:Prop}(h:A):if true=true then A else B:=by
 rw [if_pos rfl];exact h
noncomputable def Same (H H':Hp):Prop:=∀ b o,H b=some o->H' b=some o
theorem aN(H:Hp):Same H H:=fun _ _ h=>h
theorem Same.trans(a:Same H H1)(b:Same H1 H2):Same H H2:=fun c o h=>b c o (a c o h)
theorem Same.free(e:Same H H'){l:Addr}(h:H' l=Option.none):H l=Option.none:=by
 cases q:H l with
 | none=>rfl
 | some o=>
  rw [e l o q] at h;cases h
theorem Same.seq(e:Same H H')(h:D9 K H a xs):D9 K H' a xs:=by
 rcases h with (h | ⟨o,h⟩) | h
 .exact .inl (.inl (e _ _ h))
 .exact .inl (.inr ⟨o,e _ _ h⟩)
 .exact .inr h
section
variable {κ:Type} [DecidableEq κ]
noncomputable def valV (kvs:List (κ×V)) (k:κ):Option V:=(kvs.find? fun kv=>decide (kv.1=k)).map (·.2)
noncomputable def putK (kvs:List (κ×V)) (k:κ) (v:V):List (κ×V):=
 if (kvs.any fun kv=>decide (kv.1=k))=true then kvs.map (fun kv=>if kv.1=k then (kv.1,v) else kv) else kvs++[(k,v)]
theorem rP{p:κ×V}{r:List (κ×V)}{k:κ}(e:p.1=k):valV (p::r) k=some p.2:=by simp [valV,aG,e]
theorem cF{p:κ×V}{r:List (κ×V)}{k:κ}(e:¬ p.1=k):valV (p::r) k=valV r k:=by simp [valV,aG,e]
theorem wF(k:κ):∀ kvs:List (κ×V),(kvs.any fun kv=>decide (kv.1=k))=(valV kvs k).isSome
 | []=>rfl
 | p::r=>by
  rw [bU]
  by_cases e:p.1=k
  .simp only [rP e,decide_eq_true e,Bool.true_or,Option.isSome_some]
  .rw [cF e,decide_eq_false e,Bool.false_or];exact wF k r
theorem wG(kvs:List (κ×V))(k:κ)(v:V):(putK kvs k v).length<=kvs.length+1:=by
 unfold putK
 split
 .rw [A6];lia
 .rw [C1,L1,Z5];lia
theorem al5{kvs:List (κ×V)}{k:κ}(v:V)(h:valV kvs k=none):putK kvs k v=kvs++[(k,v)]:=by
 unfold putK;rw [wF,h];exact if_neg (by decide)
theorem RelO.isSome_eq{o:Option V}{u:Option Value}(r:RelO o u):o.isSome=u.isSome:=by
 cases o with
 | none=>cases u with
  | none=>rfl
  | some _=>exact (show False from r).elim
 | some _=>cases u with
  | none=>exact (show False from r).elim
  | some _=>rfl
theorem RelO.getD{o:Option V}{u:Option Value}{d:V}{d':Value}(r:RelO o u)(rd:RelV d d'):RelV (o.getD d) (u.getD d'):=by
 cases o with
 | none=>cases u with
  | none=>exact rd
  | some _=>exact (show False from r).elim
 | some _=>cases u with
  | none=>exact (show False from r).elim
  | some _=>exact r
theorem KV.val{kvs:List (κ×V)}{vs:List (κ×Value)}(r:KV kvs vs)(k:κ):RelO (valV kvs k) (valueAt vs k):=by
 unfold KV at r
 induction r with
 | nil=>exact True.intro
 | @cons p q ps qs h t ih=>
  obtain ⟨h1,h2⟩:=h
  by_cases e:p.1=k
  .have e':q.1=k:=h1.symm.trans e;have b:valueAt (q::qs) k=some q.2:=by simp [valueAt,aG,e']
   rw [rP e,b];exact h2
  .have e':¬ q.1=k:=fun z=>e (h1.trans z)
   have b:valueAt (q::qs) k=valueAt qs k:=by simp [valueAt,aG,e']
   rw [cF e,b];exact ih
theorem KV.any{kvs:List (κ×V)}{vs:List (κ×Value)}(r:KV kvs vs)(k:κ):(kvs.any fun kv=>decide (kv.1=k))=vs.any fun kv=>decide (kv.1=k):=by
 unfold KV at r
 induction r with
 | nil=>rfl
 | cons h t ih=>rw [bU,bU,ih,h.1]
theorem KV.repl{kvs:List (κ×V)}{vs:List (κ×Value)}(r:KV kvs vs)(k:κ){y:V}(ry:RelV y u) :
  KV (kvs.map fun kv=>if kv.1=k then (kv.1,y) else kv) (vs.map fun kv=>if kv.1=k then (kv.1,u) else kv):=by
 unfold KV at r ⊢
 induction r with
 | nil=>exact .nil
 | @cons p q ps qs h t ih=>
  rw [G1,G1];refine .cons ?_ ih;obtain ⟨h1,h2⟩:=h
  by_cases e:p.1=k
  .rw [if_pos e,if_pos (h1.symm.trans e)];exact ⟨h1,ry⟩
  .rw [if_neg e,if_neg (fun z=>e (h1.trans z))];exact ⟨h1,h2⟩
theorem KV.put{kvs:List (κ×V)}{vs:List (κ×Value)}(r:KV kvs vs)(k:κ){y:V}(ry:RelV y u):KV (putK kvs k y) (stored vs k u):=by
 unfold putK stored;rw [r.any k]
 by_cases e:(vs.any fun kv=>decide (kv.1=k))=true
 .rw [if_pos e,if_pos e];exact r.repl k ry
 .rw [if_neg e,if_neg e];exact Paired.snoc r ⟨rfl,ry⟩
theorem KV.keys{kvs:List (κ×V)}{vs:List (κ×Value)}(r:KV kvs vs):kvs.map (·.1)=vs.map (·.1):=by
 unfold KV at r
 induction r with
 | nil=>rfl
 | cons h t ih=>rw [G1,G1,ih,h.1]
theorem KV.length{kvs:List (κ×V)}{vs:List (κ×Value)}(r:KV kvs vs):kvs.length=vs.length:=Paired.length r
end
theorem kV_is{P:Program}{w:World}{k:C5}(r:RelV (kV k) u):(Q3 P w).is k u=true:=by
 cases k with
 | inl i=>obtain ⟨t,e⟩:=(show ∃ t,u=Value.int i t from r);subst e;exact aht P w i t
 | inr x=>obtain ⟨t,e⟩:=(show ∃ t,u=Value.str x t from r);subst e;exact ahu P w x t
theorem agy{P:Program}{w:World} : ∀ {ks:List C5} {us:List Value},Vals (ks.map kV) us->ItemsAre (Q3 P w) ks us
 | [],_,r=>by rw [bV] at r;cases r;exact .nil
 | k::ks,_,r=>by
  rw [G1] at r
  cases r with
  | cons h t=>exact .cons (kV_is h) (agy t)
noncomputable abbrev KT (H:Hp):List (List C5×V)->List (List C5×Addr×Value)->Prop:=Paired fun p q=>p.1=q.1/\H q.2.1=some (.tup (p.1.map kV))/\RelV p.2 q.2.2
theorem KT.val{kvs:List (List C5×V)}{xs:List (List C5×Addr×Value)}(r:KT H kvs xs)(k:List C5):RelO (valV kvs k) ((atKey xs k).map (·.2)):=by
 induction r with
 | nil=>exact True.intro
 | @cons p q ps qs h t ih=>
  obtain ⟨h1,_,h2⟩:=h
  by_cases e:p.1=k
  .have e':q.1=k:=h1.symm.trans e;have b:atKey (q::qs) k=some q.2:=by simp [atKey,aG,e']
   rw [rP e,b];exact h2
  .have e':¬ q.1=k:=fun z=>e (h1.trans z)
   have b:atKey (q::qs) k=atKey qs k:=by simp [atKey,aG,e']
   rw [cF e,b];exact ih
theorem KT.repl{kvs:List (List C5×V)}{xs:List (List C5×Addr×Value)}(r:KT H kvs xs)(k:List C5){y:V}(ry:RelV y u) :
  KT H (kvs.map fun kv=>if kv.1=k then (kv.1,y) else kv) (xs.map (putAt k u)):=by
 induction r with
 | nil=>exact .nil
 | @cons p q ps qs h t ih=>
  rw [G1,G1];refine .cons ?_ ih;obtain ⟨h1,h2,h3⟩:=h;unfold putAt
  by_cases e:p.1=k
  .rw [if_pos e,if_pos (h1.symm.trans e)];exact ⟨h1,h2,ry⟩
  .rw [if_neg e,if_neg (fun z=>e (h1.trans z))];exact ⟨h1,h2,h3⟩
theorem KT.put{kvs:List (List C5×V)}{xs:List (List C5×Addr×Value)}(r:KT H kvs xs)(k:List C5){y:V}(hb:H b=some (.tup (k.map kV)))(ry:RelV y u) :
  KT H (putK kvs k y) (storedH xs k b u):=by
 have e:(kvs.any fun kv=>decide (kv.1=k))=(atKey xs k).isSome:=by
  rw [wF,(r.val k).isSome_eq,Option.isSome_map]
 unfold putK storedH;rw [e]
 by_cases q:(atKey xs k).isSome=true
 .rw [if_pos q,if_pos q];exact r.repl k ry
 .rw [if_neg q,if_neg q];exact Paired.snoc r ⟨rfl,hb,ry⟩
theorem KT.keeps{kvs:List (List C5×V)}{xs:List (List C5×Addr×Value)}(r:KT H kvs xs)(ht:∀ b ys,H b=some (.tup ys)->H' b=some (.tup ys)):KT H' kvs xs:=
 L0 r fun _ _ z=>⟨z.1,ht _ _ z.2.1,z.2.2⟩
section
variable {P:Program} {w:World} {H:Hp} {h:Heap} {a:Addr}
theorem rd_of{u:HO}(ok:O5 P w H h)(e:Rd H a u):ObjOk P w H h a u:=e.ok ok
theorem dk_rd(ok:O5 P w H h)(e:Rd H a (.dK kvs)):kvs.length<=sizeLine/\(a==sysModules)=false/\∃ vs,KV kvs vs/\h.DictOf (Q3 P w) a vs:=
 show ObjOk P w H h a (.dK kvs) from rd_of ok e
theorem dk_of(ok:O5 P w H h)(e:H a=some (.dK kvs)):kvs.length<=sizeLine/\(a==sysModules)=false/\∃ vs,KV kvs vs/\h.DictOf (Q3 P w) a vs:=dk_rd ok (.inl e)
theorem gK{ks:List C5}(ok:O5 P w H h)(e:H a=some (.tup (ks.map kV))):(tupleKind (Q3 P w)).is h ks a:=by
 obtain ⟨_,its,r,o,h1,h2,n,h3⟩:=(show ObjOk P w H h a (.tup (ks.map kV)) from ok a _ e)
 exact ⟨o,its.toArray,n,h1,h2,h3,by simpa using agy r⟩
theorem dt_rd{kvs:List (List C5×V)}(ok:O5 P w H h)(e:Rd H a (.dT kvs)):kvs.length<=sizeLine/\(a==sysModules)=false/\
  ∃ xs,KT H kvs xs/\h.DictOfH (tupleKind (Q3 P w)) a xs:=by
 obtain ⟨z,y,xs,r,o,es,ep,h1,h2,h3,h4,h5⟩:=(show ObjOk P w H h a (.dT kvs) from rd_of ok e)
 refine ⟨z,y,xs,r,o,es,ep,h1,h2,h3,h4,fun x hx=>?_,h5⟩;have all:∀ {l:List (List C5×V)} {m:List (List C5×Addr×Value)},KT H l m->∀ x∈m,(tupleKind (Q3 P w)).is h x.1 x.2.1:=by
  intro l m q
  induction q with
  | nil=>intro x hx;exact nomatch hx
  | @cons p q ps qs hq t ih=>
   intro x hx
   rcases F6.mp hx with e | hx
   .subst e;exact gK ok (by rw [<- hq.1];exact hq.2.1)
   .exact ih x hx
 exact all r x hx
theorem dt_of{kvs:List (List C5×V)}(ok:O5 P w H h)(e:H a=some (.dT kvs)):kvs.length<=sizeLine/\(a==sysModules)=false/\
  ∃ xs,KT H kvs xs/\h.DictOfH (tupleKind (Q3 P w)) a xs:=dt_rd ok (.inl e)
end
noncomputable def DGet (H:Hp) (a:Addr) (y:V) (r:Option V):Prop:=
 (∃ kvs k,Rd H a (.dK kvs)/\y=kV k/\r=valV kvs k)\/∃ kvs k b,Rd H a (.dT kvs)/\y=.ref b/\H b=some (.tup (k.map kV))/\r=valV kvs k
noncomputable def DPut (H:Hp) (a:Addr) (y v:V) (H':Hp):Prop:=
 (∃ kvs k,H a=some (.dK kvs)/\y=kV k/\kvs.length<sizeLine/\H'=A0 H a (.dK (putK kvs k v)))\/
 ∃ kvs k b,H a=some (.dT kvs)/\y=.ref b/\H b=some (.tup (k.map kV))/\kvs.length<sizeLine/\H'=A0 H a (.dT (putK kvs k v))
theorem k8{k:C5}(e:H a=some (.dK kvs)):DGet H a (kV k) (valV kvs k):=.inl ⟨kvs,k,.inl e,rfl,rfl⟩
theorem cG{k:C5}{v:V}(e:H a=some (.dK kvs))(hl:kvs.length<sizeLine):DPut H a (kV k) v (A0 H a (.dK (putK kvs k v))):=.inl ⟨kvs,k,e,rfl,hl,rfl⟩
section
variable {X:Cx} {pins:List (Addr×Obj)} {Y:St} {H:Hp} {s:Shared} {a:Addr} {y v:V} {u r:Value} {o:Option V} {A:Around} {E:Value->Shared->Prop}
theorem Inv.big(I:Inv X pins Y H s):sysModules<s.heap.objs.size:=by
 have h:mainGlobals<s.heap.objs.size:=(I.mod.glob.keeps I.bk).lt;exact Nat.lt_trans (by decide) h
theorem agz{Q:Value->Shared->Prop}(hu:A.units+1<cLine)(I:Inv X pins Y H s)(g:DGet H a y (some v))(ry:RelV y u)(h:∀ w' s',Inv X pins Y H s'->RelV v w'->Q w' s') :
  wpAny 'b' A (getItem (.ref a) u) Q E s:=by
 rcases g with ⟨kvs,k,e,ey,l⟩ | ⟨kvs,k,b,e,ey,eb,l⟩
 .subst ey;obtain ⟨z,hd,vs,rel,dd⟩:=dk_rd I.hok e;obtain ⟨w',hw,rw'⟩:=rJ (v:=v) (o:=valueAt vs k) (by rw [l];exact rel.val k);exact wpAny_getItem_of (kV_is ry) dd.mapOf hw (h w' _ (I.tok _) rw')
 .subst ey
  cases (show u=Value.ref b from ry)
  obtain ⟨z,hd,xs,rel,dd⟩:=dt_rd I.hok e;obtain ⟨w',hw,rw'⟩:=rJ (v:=v) (o:=(atKey xs k).map (·.2)) (by rw [l];exact rel.val k);obtain ⟨p,hp,X4⟩:=Option.map_eq_some_iff.mp hw;refine wpAny_getItem_heap (tupleKind_room_in1 hu) (gK I.hok eb) dd hp ?_;rw [X4];exact h w' _ (I.tok _) rw'
theorem d_in{Q:Value->Shared->Prop}(hu:A.units+1<cLine)(I:Inv X pins Y H s)(g:DGet H a y o)(ry:RelV y u)(h:∀ s',Inv X pins Y H s'->Q (.bool o.isSome) s') :
  wpAny 'b' A (compareOp .In u (.ref a)) Q E s:=by
 rcases g with ⟨kvs,k,e,ey,l⟩ | ⟨kvs,k,b,e,ey,eb,l⟩
 .subst ey;obtain ⟨z,hd,vs,rel,dd⟩:=dk_rd I.hok e;refine wpAny_in_of (kV_is ry) hd dd.mapOf ?_;rw [<- (rel.val k).isSome_eq,<- l];exact h _ (I.tok _)
 .subst ey
  cases (show u=Value.ref b from ry)
  obtain ⟨z,hd,xs,rel,dd⟩:=dt_rd I.hok e;refine wpAny_in_heap (tupleKind_room_in1 hu) (gK I.hok eb) hd dd ?_;have q:=(rel.val k).isSome_eq;rw [Option.isSome_map] at q;rw [<- q,<- l];exact h _ (I.tok _)
theorem an8{Q:Value->Shared->Prop}(hu:A.units+1<cLine)(I:Inv X pins Y H s)(g:DGet H a y o)(ry:RelV y u)(h:∀ s',Inv X pins Y H s'->Q (.bool (!o.isSome)) s') :
  wpAny 'b' A (compareOp .NotIn u (.ref a)) Q E s:=by
 rcases g with ⟨kvs,k,e,ey,l⟩ | ⟨kvs,k,b,e,ey,eb,l⟩
 .subst ey;obtain ⟨z,hd,vs,rel,dd⟩:=dk_rd I.hok e;refine wpAny_notIn_of (kV_is ry) hd dd.mapOf ?_;rw [<- (rel.val k).isSome_eq,<- l];exact h _ (I.tok _)
 .subst ey
  cases (show u=Value.ref b from ry)
  obtain ⟨z,hd,xs,rel,dd⟩:=dt_rd I.hok e;refine wpAny_notIn_heap (tupleKind_room_in1 hu) (gK I.hok eb) hd dd ?_;have q:=(rel.val k).isSome_eq;rw [Option.isSome_map] at q;rw [<- q,<- l];exact h _ (I.tok _)
theorem wH{ob:HO}(I:Inv X pins Y H s)(mu:mX (H a))(hs:Heap.SameBut a s.heap h')(he:∃ q,h'.get? a=some q)(new:ObjOk X.prog X.w (A0 H a ob) h' a ob) :
  Inv X pins Y (A0 H a ob) { s with heap:=h',toks:=t' }:=
 I.write (x:=a) (e:=a) mu (.inl rfl) (fun b q hb z=>(hs.2 b hb).trans z) he new
theorem wI{P:Program}{w:World}{vs:List (C5×Value)}(z:kvs.length<=sizeLine)(hd:(a==sysModules)=false)(rel:KV kvs vs)(dd:h'.DictOf (Q3 P w) a vs) :
  ObjOk P w H' h' a (.dK kvs):=⟨z,hd,vs,rel,dd⟩
theorem agA{Q:Unit->Shared->Prop}(hu:A.units+1<cLine)(I:Inv X pins Y H s)(g:DPut H a y v H')(ry:RelV y u)(rv:RelV v r)(h:∀ s',Inv X pins Y H' s'->Q () s') :
  wpAny 'b' A (setItem (.ref a) u r) Q E s:=by
 rcases g with ⟨kvs,k,e,ey,l,eH⟩ | ⟨kvs,k,b,e,ey,eb,l,eH⟩
 .subst ey eH;obtain ⟨z,hd,vs,rel,dd⟩:=dk_of I.hok e;have hz:vs.length<=sizeLine:=by rw [<- rel.length];exact z
  have hl:(putK kvs k v).length<=sizeLine:=by have:=wG kvs k v;lia
  refine wpAny_setItem_pairs (hsz:=hz) (kV_is ry) dd fun h' dd' hs=>h _ ?_
  have he:∃ q,h'.get? a=some q:=let ⟨q,_,_,hq,_⟩:=dd';⟨q,hq⟩
  exact wH I (by rw [e];exact True.intro) hs he (wI hl hd (rel.put k rv) dd')
 .subst ey eH
  cases (show u=Value.ref b from ry)
  obtain ⟨z,hd,xs,rel,dd⟩:=dt_of I.hok e;have hz:xs.length<=sizeLine:=by rw [<- Paired.length rel];exact z
  have hl:(putK kvs k v).length<=sizeLine:=by have:=wG kvs k v;lia
  refine wpAny_setItem_heap (hsz:=hz) (tupleKind_room_in1 hu) (gK I.hok eb) dd fun h' dd' hs=>h _ ?_
  obtain ⟨q,es,ep,hq,h2,h3,h4,_,h5⟩:=dd';refine wH I (by rw [e];exact True.intro) hs ⟨q,hq⟩ ⟨hl,hd,_,(rel.put k eb rv).keeps fun c ys ec=>?_,q,es,ep,hq,h2,h3,h4,h5⟩;rw [A9 (ne_of ec e (fun z=>nomatch z))];exact ec
end
section
variable {X:Cx} {pins:List (Addr×Obj)} {Y:St} {H:Hp} {s:Shared} {a:Addr} {kvs:List (C5×V)} {k:C5} {u:Value} {A:Around} {E:Value->Shared->Prop}
theorem d_len{Q:Value->Shared->Prop}(I:Inv X pins Y H s)(e:Rd H a (.dK kvs))(h:∀ t s',Inv X pins Y H s'->Q (.int kvs.length t) s'):wpAny 'b' A (call (.builtin "len") [.ref a]) Q E s:=by
 obtain ⟨z,hd,vs,rel,dd⟩:=dk_rd I.hok e;refine call_len_dict hd dd (by rw [<- rel.length];rw [sizeLine_eq] at z;lia) ?_;rw [<- rel.length];exact h _ _ (I.tok _)
end
noncomputable def NoSl (i:Expr):Prop:=∀ ov iv,subscripted i false ov iv=operate [ov,iv] (getItem ov iv)
theorem akl{w:World}{s:Shared}{env:Env}{value slice:Expr}{pos:Pos}{T id:String}{Q:Value->Shared->Prop}(hl:typeLookup (.type T) "__getitem__"=pure (some (.builtin id)))(hs:NoSl slice)(h:wpAny (model prog w) A (eval value env) (fun o zu=>wpAny (model prog w) A (eval slice env) (fun i zx=>zx.TypeIs o T/\wpAny (model prog w) A (getItem o i) Q E zx) E zu) E s) :
  wpAny (model prog w) A (eval (.Subscript value slice pos) env) Q E s:=by
 refine Subscript_ (wpAny_mono h (fun o zu zr=>wpAny_mono zr (fun i zx zq=>?_) fun _ _ x=>x) fun _ _ x=>x);obtain ⟨hT,zq⟩:=zq;unfold subscriptTail;refine wpAny_bind ?_;rw [getitemInPython_of_ne hT.not_modules];refine wpAny_bind (wpAny_specialOf hT hl ?_);have fin:wpAny (model prog w) A (subscripted slice false o i) (fun r zw=>wpAny (model prog w) A (letTemporaryGo value o r >>= fun _=>pure r) Q E zw) E zx:=by
  rw [hs o i];exact wpAny_operating (wpAny_mono zq (fun r zw zp=>wpAny_bind (wpAny_letTemporaryGo (wpAny_pure zp))) fun _ _ x=>x)
 first
  | exact wpAny_pure (wpAny_bind fin)
  | exact wpAny_bind (wpAny_pure (wpAny_bind fin))
  | exact wpAny_bind fin
theorem ahz{s:Shared}{y:V}{o:Option V}(I:Inv X pins Y H s)(g:DGet H a y o):s.TypeIs (.ref a) "dict":=by
 rcases g with ⟨kvs,k,e,_,_⟩ | ⟨kvs,k,b,e,_,_,_⟩
 .obtain ⟨_,_,vs,_,dd⟩:=dk_rd I.hok e;exact dd.typeIs
 .obtain ⟨_,_,xs,_,dd⟩:=dt_rd I.hok e;exact dd.typeIs
noncomputable def tDGet (td ty:TE):TE:=fun Y H Q=>td Y H fun x H1=>ty Y H1 fun y H2=>∃ a v,x=.ref a/\DGet H2 a y (some v)/\Q v H2
noncomputable def sDPut (td ty tv:TE):TS:=fun D Y H=>tv Y H fun v H1=>td Y H1 fun x H2=>ty Y H2 fun y H3=>∃ a H4,x=.ref a/\DPut H3 a y v H4/\D.nx Y H4
noncomputable def sDAug (td ty tv:TE) (rd:V->V->Hp->VK->Prop):TS:=fun D Y H=>td Y H fun x H1=>ty Y H1 fun y H2=>∃ a v,x=.ref a/\DGet H2 a y (some v)/\
 tv Y H2 fun y2 H3=>rd v y2 H3 fun z H4=>∃ H5,DPut H4 a y z H5/\D.nx Y H5
section
variable {X:Cx} {o i e value:Expr} {pos pos' tpos:Pos} {td ty tv:TE}
theorem an9(hu:X.A.units+1<cLine)(ho:PE X o td)(hi:PE X i ty)(hs:NoSl i):PE X (.Subscript o i pos) (tDGet td ty):=by
 intro pins s Y H Q I h;refine akl PySem.F.slot_dict_getitem.lookup hs (C2 (ho pins s Y H _ I h) fun u s1 ⟨x,H1,I1,rx,q1⟩=>C2 (hi pins s1 Y H1 _ I1 q1) fun iv s2 ⟨y,H2,I2,ry,a,v,ex,g,q2⟩=>?_);subst ex;obtain rfl:u=Value.ref a:=rx;exact ⟨ahz I2 g,agz hu I2 g ry fun w' s3 I3 rw'=>⟨v,H2,I3,rw',q2⟩⟩
theorem aoa(hu:X.A.units+1<cLine)(ho:PE X o td)(hi:PE X i ty)(hv:PE X value tv)(hs:swapsWith value (some (.Subscript o i pos')) pos.line X.env=pure false) :
  PS X (.Assign [.Subscript o i pos'] value pos) (sDPut td ty tv):=by
 intro pins s Y H D I h;refine wpAny_Assign_Subscript (C2 (hv pins s Y H _ I h) fun r s1 ⟨v,H1,I1,rv,q1⟩=>C2 (ho pins s1 Y H1 _ I1 q1) fun u s2 ⟨x,H2,I2,rx,q2⟩=>C2 (hi pins s2 Y H2 _ I2 q2) fun iv s3 ⟨y,H3,I3,ry,a,H4,ex,g,q3⟩=>?_) hs;subst ex;obtain rfl:u=Value.ref a:=rx;exact agA hu I3 g ry rv fun s4 I4=>⟨Y,H4,I4,q3⟩
theorem aob{op:Operator}{rd:V->V->Hp->VK->Prop}(hu:X.A.units+1<cLine)(ho:PE X o td)(hi:PE X i ty)(hv:PE X value tv)(hop:InOp X op rd)(ha:∀ ov iv new,augStore i ov iv new=(do holding [new,ov,iv] (setItem ov iv new);release [new,ov,iv] [];pure .next)):PS X (.AugAssign (.Subscript o i tpos) op value pos) (sDAug td ty tv rd):=by
 intro pins s Y H D I h;refine wpAny_AugAssign_SubscriptAny (C2 (ho pins s Y H _ I h) fun u s1 ⟨x,H1,I1,rx,q1⟩=>C2 (hi pins s1 Y H1 _ I1 q1) fun iv s2 ⟨y,H2,I2,ry,a,v,ex,g,q2⟩=>?_) ha;subst ex;obtain rfl:u=Value.ref a:=rx;refine agz hu I2 g ry fun w' s3 I3 rw'=>C2 (hv pins s3 Y H2 _ I3 q2) fun w2 s4 ⟨y2,H3,I4,ry2,q3⟩=>C2 (hop pins s4 Y H3 v y2 w' w2 _ I4 rw' ry2 q3) fun w3 s5 ⟨z,H4,I5,rz,H5,g5,q4⟩=>?_
 exact agA hu I5 g5 ry rz fun s6 I6=>⟨Y,H5,I6,q4⟩
end
theorem al6{P:Program}{w:World}(h:Heap)(hb:sysModules<h.objs.size):ObjOk P w H (h.push { cls:=.type "dict",data:=.dict #[] }) h.objs.size (.dK []):=
 ⟨F9 _,beq_eq_false_iff_ne.mpr (Ne.symm (O8 hb)),[],.nil,Heap.DictOf.new h⟩
noncomputable def wJ:TE:=fun _ H Q=>∀ p,H p=none->Q (.ref p) (A0 H p (.dK []))
section
variable {X:Cx} {pos:Pos}
theorem al7:PE X (.Dict [] [] pos) wJ:=fun pins s Y H Q I h=>
 wpAny_Dict_empty ⟨.ref s.heap.objs.size,_,I.laid (a:=s.heap.objs.size) (o:=.dK []) (t':=s.toks) (fun _ _ q=>Heap.get?_push_of_some _ q) (B3 _) (al6 s.heap I.big),rfl,h _ (I.hok.fresh (B3 _))⟩
end
noncomputable def jY:List (TE×TE)->St->Hp->(List (V×V)->Hp->Prop)->Prop
 | [],_,H,Q=>Q [] H
 | (tk,tv)::r,Y,H,Q=>tk Y H fun x H1=>tv Y H1 fun y H2=>jY r Y H2 fun ps H3=>Q ((x,y)::ps) H3
noncomputable def Y5 (kvs more:List (C5×V)):List (C5×V):=more.foldl (fun acc kv=>putK acc kv.1 kv.2) kvs
theorem adI:∀ (more kvs:List (C5×V)),(Y5 kvs more).length<=kvs.length+more.length
 | [],kvs=>by show kvs.length<=kvs.length+0;lia
 | p::r,kvs=>by
  have h1:=adI r (putK kvs p.1 p.2);have h2:=wG kvs p.1 p.2;show (Y5 (putK kvs p.1 p.2) r).length<=_;rw [L1];lia
noncomputable def tDisp (trs:List (TE×TE)):TE:=fun Y H Q=>∀ p,H p=none->jY trs Y (A0 H p (.dK [])) fun ps H2=>H2 p=some (.dK [])/\∃ kvs:List (C5×V),ps=kvs.map (fun kv=>(kV kv.1,kv.2))/\kvs.length<=15/\Q (.ref p) (A0 H2 p (.dK (Y5 [] kvs)))
structure M1(X:Cx)(o:Expr)(m:Str)(apos:Pos)(e:Expr)(cpos:Pos):Prop where
 base:attributeBase o m X.env (eval o X.env)=eval o X.env
 few:((backTo cpos (starEach [e] X.env)).all (fun x=>!x.1)&&(backToKw cpos (keywordEach [] X.env)).all (fun x=>x.1.isSome)
  && decide (([e]:List Expr).length+([]:List Keyword).length+(if ([]:List Keyword).isEmpty then 0 else 1)<30))=true
 line:(apos.endLine==cpos.line)=true
 trees:backTo cpos (starEach [e] X.env)=[(false,eval e X.env)]
structure M2(X:Cx)(o:Expr)(m:Str)(apos:Pos)(e f:Expr)(cpos:Pos):Prop where
 base:attributeBase o m X.env (eval o X.env)=eval o X.env
 few:((backTo cpos (starEach [e,f] X.env)).all (fun x=>!x.1)&&(backToKw cpos (keywordEach [] X.env)).all (fun x=>x.1.isSome)
  && decide (([e,f]:List Expr).length+([]:List Keyword).length+(if ([]:List Keyword).isEmpty then 0 else 1)<30))=true
 line:(apos.endLine==cpos.line)=true
 trees:backTo cpos (starEach [e,f] X.env)=[(false,eval e X.env),(false,eval f X.env)]
noncomputable def gL (H:Hp) (a:Addr):Prop:=(∃ kvs,Rd H a (.dK kvs))\/∃ kvs,Rd H a (.dT kvs)
theorem wK{s:Shared}(I:Inv X pins Y H s)(d:gL H a) :
  s.TypeIs (.ref a) "dict"/\(∀ b,Value.ref a=.ref b->∃ ob,s.heap.get? b=some ob/\ob.dict=none)/\(a==sysModules)=false:=by
 rcases d with ⟨kvs,e⟩ | ⟨kvs,e⟩
 .obtain ⟨_,hd,vs,_,dd⟩:=dk_rd I.hok e;refine ⟨dd.typeIs,fun b q=>?_,hd⟩
  cases q
  obtain ⟨ob,_,_,h1,h2,_⟩:=dd;exact ⟨ob,h1,h2.2.1⟩
 .obtain ⟨_,hd,xs,_,dd⟩:=dt_rd I.hok e;refine ⟨dd.typeIs,fun b q=>?_,hd⟩
  cases q
  obtain ⟨ob,_,_,h1,h2,_⟩:=dd;exact ⟨ob,h1,h2.2.1⟩
section
variable {X:Cx} {pins:List (Addr×Obj)} {Y:St} {H:Hp} {s:Shared} {a:Addr} {y d:V} {u r:Value} {o:Option V} {A:Around} {E:Value->Shared->Prop}
theorem aqT{Q:Value->Shared->Prop}(hu:A.units+1<cLine)(I:Inv X pins Y H s)(g:DGet H a y o)(ry:RelV y u)(h:∀ w' s',Inv X pins Y H s'->RelV (o.getD .non) w'->Q w' s') :
  wpAny 'b' A (call (.builtin "dict.get") [.ref a,u]) Q E s:=by
 rcases g with ⟨kvs,k,e,ey,l⟩ | ⟨kvs,k,b,e,ey,eb,l⟩
 .subst ey;obtain ⟨z,hd,vs,rel,dd⟩:=dk_rd I.hok e;refine call_meetsIn jQ dd.typeIs rC (PySem.F.args_dict_get_2 _ _) (meets_dict_get (Q3 X.prog X.w) a (kV_is ry) hd) ⟨_,dd.mapOf,h _ _ (I.tok _) ?_⟩;rw [l];exact (rel.val k).getD rfl
 .subst ey
  cases (show u=Value.ref b from ry)
  obtain ⟨z,hd,xs,rel,dd⟩:=dt_rd I.hok e;refine call_meetsIn jQ dd.typeIs rC (PySem.F.args_dict_get_2 _ _) (meetsH_dict_get (tupleKind (Q3 X.prog X.w)) a b hd) ⟨tupleKind_room_in1 hu,k,xs,gK I.hok eb,dd,h _ _ (I.tok _) ?_⟩;rw [l];exact (rel.val k).getD rfl
theorem aqU{Q:Value->Shared->Prop}(hu:A.units+1<cLine)(I:Inv X pins Y H s)(g:DGet H a y o)(ry:RelV y u)(rd:RelV d r)(h:∀ w' s',Inv X pins Y H s'->RelV (o.getD d) w'->Q w' s') :
  wpAny 'b' A (call (.builtin "dict.get") [.ref a,u,r]) Q E s:=by
 rcases g with ⟨kvs,k,e,ey,l⟩ | ⟨kvs,k,b,e,ey,eb,l⟩
 .subst ey;obtain ⟨z,hd,vs,rel,dd⟩:=dk_rd I.hok e;refine call_meetsIn jQ dd.typeIs rC (PySem.F.args_dict_get_3 _ _ _) (meets_dict_get_default (Q3 X.prog X.w) a (kV_is ry) hd r) ⟨_,dd.mapOf,h _ _ (I.tok _) ?_⟩;rw [l];exact (rel.val k).getD rd
 .subst ey
  cases (show u=Value.ref b from ry)
  obtain ⟨z,hd,xs,rel,dd⟩:=dt_rd I.hok e;refine call_meetsIn jQ dd.typeIs rC (PySem.F.args_dict_get_3 _ _ _) (meetsH_dict_get_default (tupleKind (Q3 X.prog X.w)) a b hd r) ⟨tupleKind_room_in1 hu,k,xs,gK I.hok eb,dd,h _ _ (I.tok _) ?_⟩;rw [l];exact (rel.val k).getD rd
end
noncomputable def wL (td ty:TE):TE:=fun Y H Q=>td Y H fun x H1=>∃ a,x=.ref a/\gL H1 a/\ty Y H1 fun y H2=>∃ o,DGet H2 a y o/\Q (o.getD .non) H2
noncomputable def wM (td ty tx:TE):TE:=fun Y H Q=>td Y H fun x H1=>∃ a,x=.ref a/\gL H1 a/\ty Y H1 fun y H2=>tx Y H2 fun z H3=>∃ o,DGet H3 a y o/\Q (o.getD z) H3
section
variable {X:Cx} {o e f:Expr} {apos cpos:Pos} {td ty tx:TE}
theorem al8(hu:X.A.units+1<cLine)(ho:PE X o td)(he:PE X e ty)(m:M1 X o "get" apos e cpos):PE X (.Call (.Attribute o "get" apos) [e] [] cpos) (wL td ty):=by
 intro pins s Y H Q I h;refine wpAny_Call_method m.base m.few m.line PySem.F.plainAttrs_dict jQ PySem.F.type_dict_get (C2 (ho pins s Y H _ I h) fun u s1 ⟨x,H1,I1,rx,a,ex,d,q1⟩=>?_);subst ex;obtain rfl:u=Value.ref a:=rx;obtain ⟨t1,t2,_⟩:=wK I1 d;refine ⟨t1,t2,?_⟩;rw [m.trees];refine Calls.callWith_builtin rfl (Calls.evalArgs_plain (Calls.spliced_cons (C2 (he pins s1 Y H1 _ I1 q1) fun iv s2 ⟨y,H2,I2,ry,ov,g,q2⟩=>Calls.spliced_nil ?_)));exact aqT hu I2 g ry fun w' s3 I3 rw'=>⟨_,H2,I3,rw',q2⟩
theorem al9(hu:X.A.units+1<cLine)(ho:PE X o td)(he:PE X e ty)(hf:PE X f tx)(m:M2 X o "get" apos e f cpos):PE X (.Call (.Attribute o "get" apos) [e,f] [] cpos) (wM td ty tx):=by
 intro pins s Y H Q I h;refine wpAny_Call_method m.base m.few m.line PySem.F.plainAttrs_dict jQ PySem.F.type_dict_get (C2 (ho pins s Y H _ I h) fun u s1 ⟨x,H1,I1,rx,a,ex,d,q1⟩=>?_);subst ex;obtain rfl:u=Value.ref a:=rx;obtain ⟨t1,t2,_⟩:=wK I1 d;refine ⟨t1,t2,?_⟩;rw [m.trees];refine Calls.callWith_builtin rfl (Calls.evalArgs_plain (Calls.spliced_cons (C2 (he pins s1 Y H1 _ I1 q1) fun iv s2 ⟨y,H2,I2,ry,q2⟩=>
  Calls.spliced_cons (C2 (hf pins s2 Y H2 _ I2 q2) fun fv s3 ⟨z,H3,I3,rz,ov,g,q3⟩=>Calls.spliced_nil ?_))))
 exact aqU hu I3 g ry rz fun w' s4 I4 rw'=>⟨_,H3,I4,rw',q3⟩
end
section
variable {κ:Type} [DecidableEq κ]
theorem rQ:∀ {l:List κ} {k:κ},l.Nodup->¬ k∈l->(l++[k]).Nodup
 | [],k,_,_=>by simp
 | a::r,k,h,hk=>by
  obtain ⟨h1,h2⟩:=V8.mp h;show (a::(r++[k])).Nodup;refine V8.mpr ⟨fun m=>?_,rQ h2 fun m=>hk (F6.mpr (Or.inr m))⟩
  rcases E4.mp m with q | q
  .exact h1 q
  .exact hk (F6.mpr (Or.inl (G2.mp q).symm))
end
noncomputable def cloOf (cells:List (Str×Addr)):List (Str×NameKind)->List (Str×Addr)->List (Str×Addr)
 | [],acc=>acc
 | (n,k)::r,acc=>if k=.free then cloOf cells r ((n,(cells.lookup n).getD 0)::acc) else cloOf cells r acc
theorem wN{env:Env} : ∀ (names:List (Str×NameKind)) (acc:List (Str×Addr)),(∀ x∈names,x.2=.free->∃ c,env.cells.lookup x.1=some c)->
  (forIn names acc fun (x:Str×NameKind) (cs:List (Str×Addr))=>(if (x.2==NameKind.free)=true then do
   let c <- cellOf env x.1
   pure (ForInStep.yield ((x.1,c)::cs)) else pure (ForInStep.yield cs):Sem (ForInStep (List (Str×Addr)))))=(pure (cloOf env.cells names acc):Sem (List (Str×Addr)))
 | [],acc,_=>rfl
 | (n,k)::r,acc,h=>by
  rw [List.forIn_cons];have hr:∀ x∈r,x.2=.free->∃ c,env.cells.lookup x.1=some c:=fun x hx=>h x (M6 _ hx)
  by_cases hk:k=.free
  .subst hk;obtain ⟨c,hc⟩:=h (n,.free) O0 rfl;have e1:cellOf env n=pure c:=by unfold cellOf;rw [show env.cells.lookup n=some c from hc]
   simp only [beq_self_eq_true,if_true];rw [e1];show (forIn r ((n,c)::acc) _:Sem _)=_;rw [wN r _ hr];show _=pure (if NameKind.free=.free then cloOf env.cells r ((n,(env.cells.lookup n).getD 0)::acc) else _);rw [if_pos rfl,show env.cells.lookup n=some c from hc];rfl
  .have hb:(k==NameKind.free)=false:=by simpa using hk
   simp only [hb,Bool.false_eq_true,if_false];show (forIn r acc _:Sem _)=_;rw [wN r _ hr];show _=pure (if k=.free then _ else cloOf env.cells r acc);rw [if_neg hk]
theorem adt{scope:Scope}{env:Env}(h:∀ x∈scope.names,x.2=.free->∃ c,env.cells.lookup x.1=some c):closureFor scope env=pure (cloOf env.cells scope.names []):=by
 simp only [closureFor];have e:=wN (env:=env) scope.names [] h;rw [e];rfl
theorem rR{cells:List (Str×Addr)}{x:Str} : ∀ (names:List (Str×NameKind)) (acc:List (Str×Addr)),
  (cloOf cells names acc).lookup x=if (x,NameKind.free)∈names then some ((cells.lookup x).getD 0) else acc.lookup x
 | [],acc=>by simp [cloOf]
 | (n,k)::r,acc=>by
  show (if k=.free then cloOf cells r ((n,(cells.lookup n).getD 0)::acc) else cloOf cells r acc).lookup x=_
  by_cases hk:k=.free
  .subst hk;rw [if_pos rfl,rR r]
   by_cases hm:(x,NameKind.free)∈r
   .rw [if_pos hm,if_pos (M6 _ hm)]
   .rw [if_neg hm,List.lookup_cons]
    by_cases hx:x=n
    .subst hx;rw [if_pos O0]
     simp
    .have e:(x==n)=false:=by simpa using hx
     rw [e,if_neg];intro z
     rcases F6.mp z with z | z
     .exact hx (Prod.mk.inj z).1
     .exact hm z
  .rw [if_neg hk,rR r]
   by_cases hm:(x,NameKind.free)∈r
   .rw [if_pos hm,if_pos (M6 _ hm)]
   .rw [if_neg hm,if_neg];intro z
    rcases F6.mp z with z | z
    .exact hk (Prod.mk.inj z).2.symm
    .exact hm z
theorem wO{α:Type}{x:Str} : ∀ {l:List (Str×α)} {k:α},l.lookup x=some k->(x,k)∈l
 | [],_,h=>by simp at h
 | (n,a)::r,k,h=>by
  rw [List.lookup_cons] at h
  by_cases hx:x=n
  .subst hx;simp at h;subst h;exact O0
  .have e:(x==n)=false:=by simpa using hx
   rw [e] at h;exact M6 _ (wO h)
theorem aef{sc:Scope}{env:Env}{x:Str}{k:NameKind}(hc:∀ y∈sc.names,y.2≠.cell)(h:(relabel sc env).names.lookup x=some k)(hk:k=.cell\/k=.free):(x,NameKind.free)∈sc.names:=by
 have m:=wO h;unfold relabel at m;obtain ⟨⟨n,k'⟩,hm,e⟩:=E2.mp m;have N0:=hc _ hm
 by_cases hf:k'=.free
 .subst hf
  have:n=x:=by
   dsimp only at e
   split at e
   .exact (Prod.mk.inj e).1
   .exact (Prod.mk.inj e).1
  subst this;exact hm
 .have hb:(k'==NameKind.free)=false:=by simpa using hf
  simp only [hb,jP,Bool.false_eq_true,if_false] at e;obtain ⟨e1,e2⟩:=Prod.mk.inj e;subst e1 e2
  rcases hk with z | z
  .exact absurd z N0
  .subst z;exact absurd rfl hf
structure CompOk(N:List Str)(kn:List (Str×NameKind))(sc:Scope)(N':List Str)(k:Nat)(ixs:List Nat):Prop where
 kind:sc.kind=.function
 cell:∀ x∈sc.names,x.2≠.cell
 names:∀ x∈sc.names,x.2=.local->sc.names.lookup x.1=some .local
 free:∀ x∈sc.names,x.2=.free->kn.lookup x.1=some .cell\/kn.lookup x.1=some .free
 clean:∀ x∈sc.names,x.2=.free->sc.names.lookup x.1=some .free
 len:N'.length=k+ixs.length
 at_:ixs.map (fun i=>N[i]?)=(N'.drop k).map some
 fr:∀ x∈N'.drop k,(x,NameKind.free)∈sc.names
noncomputable def N3 (X:Cx) (sc:Scope) (N':List Str) (C:Addr) (zw:Shared) (zt:Hp) (fp:List Addr) (pins:List (Addr×Obj)):Cx:=
 {prog:=X.prog,w:=X.w,K:=X.K,mg:=X.mg,base:=X.base,A:=X.A,N:=N',s₀:=zw,H₀:=zt,
  env:=compEnvC sc (cloOf X.env.cells sc.names []) C X.env,outer:=X.stack,stack:=X.stack,ex:=fp,fn:=fun _=>false,calm:=X.calm,
  pn:=X.pn++pins,xe:=fun _ _=>False }
noncomputable def compStart (k:Nat) (ixs:List Nat) (Y:St):St:=Y2 k none++ixs.map fun i=>(Y[i]?).join
theorem afU : (compStart k ixs Y).length=k+ixs.length:=by simp [compStart]
section
variable {X:Cx} {sc:Scope} {N':List Str} {k:Nat} {ixs:List Nat} {pins:List (Addr×Obj)} {Y:St} {H:Hp} {s:Shared} {fp:List Addr}
theorem jZ(C:CompOk X.N X.env.scope.names sc N' k ixs)(I:Inv X pins Y H s){x:Str}{c:Addr}(e:(cloOf X.env.cells sc.names []).lookup x=some c):X.env.cells.lookup x=some c/\(x,NameKind.free)∈sc.names:=by
 rw [rR] at e
 by_cases hm:(x,NameKind.free)∈sc.names
 .rw [if_pos hm] at e;obtain ⟨c',m4⟩:=I.ok.has x (C.free _ hm rfl);rw [m4] at e;exact ⟨m4.trans e,hm⟩
 .rw [if_neg hm] at e;cases e
theorem akq(C:CompOk X.N X.env.scope.names sc N' k ixs)(I:Inv X pins Y H s){x:Str}(hm:(x,NameKind.free)∈sc.names):∃ c,(cloOf X.env.cells sc.names []).lookup x=some c/\X.env.cells.lookup x=some c:=by
 obtain ⟨c',m4⟩:=I.ok.has x (C.free _ hm rfl);refine ⟨c',?_,m4⟩;rw [rR,if_pos hm,m4];rfl
theorem aqV(C:CompOk X.N X.env.scope.names sc N' k ixs)(I:Inv X pins Y H s)(hf:∀ b∈fp,FpOk X pins H b)(ho:∀ b∈fp,∃ o,s.heap.get? b=some o):(N3 X sc N' s.heap.objs.size s H fp pins).Ok where
 mod:=I.ok.mod
 kind:=C.kind
 glob:=I.ok.glob
 blt:=I.ok.blt
 above:=B3 _
 inj:=fun x y c e1 e2=>I.ok.inj x y c (jZ C I e1).1 (jZ C I e2).1
 has:=fun x hx=>by
  have hm:(x,NameKind.free)∈sc.names:=by
   rcases hx with z | z
   .exact aef C.cell z (.inl rfl)
   .exact aef C.cell z (.inr rfl)
  obtain ⟨c,h1,_⟩:=akq C I hm;exact ⟨c,h1⟩
 cab:=fun x c h _=>by cases h
 hd:=I.ok.hd
 frames:=I.ok.frames
 stk:=.inl rfl
 exf:=fun b hb=>by
  obtain ⟨o,e⟩:=ho b hb;exact ⟨O8 (Heap.lt_size e),fun x c e1=>(hf b hb).2.2.2.2.1 x c (jZ C I e1).1⟩
 bs:=I.bs
 bsz:=F8 I.ok.bsz I.sz
 noex:=fun b o e hb=>by
  rcases (hf b hb).2.2.2.1 with z | z
  .exact I.ok.noex b o e z
  .exact absurd (Q9 (Heap.lt_size e) (F8 I.ok.bsz z)) (aJ _)
 exfs:=fun b hb hm=>by
  rcases F6.mp (I.stkSub b hm) with z | z
  .exact (hf b hb).2.1 z
  .exact (hf b hb).2.2.1 z
 funs:=I.stack
 frf:=I.stkFree
theorem aoc(C:CompOk X.N X.env.scope.names sc N' k ixs)(I:Inv X pins Y H s)(hf:∀ b∈fp,FpOk X pins H b)(ho:∀ b∈fp,∃ o,s.heap.get? b=some o){m:Str->Option Value}(hn:h'.Ns s.heap.objs.size m)(hk:∀ b o,s.heap.get? b=some o->h'.get? b=some o):Inv (N3 X sc N' s.heap.objs.size s H fp pins) [] (compStart k ixs Y) H { s with heap:=h',toks:=t' } where
 ok:=aqV C I hf ho
 os:=rfl
 bare:=I.bare
 base:=Un.kept hk
 loc:=by
  refine ⟨m,hn,fun i x v e1 e2 e3=>?_⟩;unfold compStart at e2
  by_cases hi:i<k
  .rw [dQ (by simpa using hi)] at e2;rw [List.getElem?_replicate_of_lt hi] at e2;cases e2
  .rw [fW (by simpa using hi),List.length_replicate] at e2;rw [O7] at e2;cases e4:ixs[i-k]? with
   | none=>rw [e4] at e2;cases e2
   | some j=>
    rw [e4] at e2;have e5:(Y[j]?).join=some v:=Option.some.inj e2;have e6:Y[j]?=some (some v):=by
     cases e7:Y[j]? with
     | none=>rw [e7] at e5;cases e5
     | some o=>rw [e7] at e5;exact congrArg some e5
    have e1':N'[i]?=some x:=e1;have ed:(N'.drop k)[i-k]?=some x:=by rw [List.getElem?_drop,show k+(i-k)=i by lia];exact e1'
    have n3:(x,NameKind.free)∈sc.names:=C.fr x (L6 ed);have n2:X.N[j]?=some x:=by
     have q:=congrArg (fun l=>l[i-k]?) C.at_;simp only [O7,e4,ed,Option.map_some] at q;exact Option.some.inj q
    obtain ⟨m0,hn0,hl0⟩:=I.loc;have oZ:X.env.scope.names.lookup x=some .cell\/X.env.scope.names.lookup x=some .free:=C.free _ n3 rfl;obtain ⟨u,r,l⟩:=hl0 j x v n2 e6 (.inr oZ);refine ⟨u,r,.inr ?_⟩
    rcases l with ⟨l,_⟩ | ⟨_,c,hc,N8⟩
    .have l':X.env.scope.names.lookup x=some .local:=l
     rcases oZ with z | z
     .rw [l'] at z;cases z
     .rw [l'] at z;cases z
    .obtain ⟨c',h1,h2⟩:=akq C I n3;rw [hc] at h2;cases h2;refine ⟨?_,c,h1,?_⟩
     .have e3':(relabel sc X.env).names.lookup x=some .local\/(relabel sc X.env).names.lookup x=some .cell\/(relabel sc X.env).names.lookup x=some .free:=e3
      rcases e3' with z | z
      .exfalso
       have mm:=wO z;unfold relabel at mm;obtain ⟨⟨n,k'⟩,hm,e⟩:=E2.mp mm;have i4:k'=.local/\n=x:=by
        dsimp only at e
        split at e
        .obtain ⟨_,q⟩:=Prod.mk.inj e
         cases q
        .exact ⟨(Prod.mk.inj e).2,(Prod.mk.inj e).1⟩
       obtain ⟨z1,z2⟩:=i4;subst z1 z2;have q1:=C.names _ hm rfl;rw [C.clean _ n3 rfl] at q1
       cases q1
      .exact z
     .exact N8.keeps hk
 cell:=fun x c e=>by
  obtain ⟨v,z⟩:=I.cell x c (jZ C I e).1;exact ⟨v,z.keeps hk⟩
 free:=I.hok.fresh (B3 _)
 freeC:=fun x c e=>I.freeC x c (jZ C I e).1
 pin:=fun p hp=>by
  have hp':p∈X.pn++pins:=by simpa [N3] using hp
  obtain ⟨e,n,ne,nf,d⟩:=I.pin p hp';refine ⟨hk _ _ e,n,O8 (Heap.lt_size e),fun hm=>?_,d⟩
  rcases F6.mp (I.stkSub _ hm) with z | z
  .exact ne z
  .exact nf z
 hok:=I.hok.kept hk
 len:=by rw [afU];exact C.len.symm
end
section
variable {prog:Program} {w:World} {A:Around} {R:Result->Shared->Prop} {s:Shared}
theorem agB{scope:Scope}{pos:Pos}{it acc:Value}{env:Env}(I:Nat->Shared->Prop)(turn:∀ n s,I n s->wpAny (model prog w) A (pyNext it) (fun r zu=>match r with
   | none=>R (.ok .next) zu
   | some v=>wpAny (model prog w) A (letOwnedTupleGo target it v) (fun _ zu=>wpAny (model prog w) A (assign target env v) (fun _ zx=>
     wpAny (model prog w) A (forIn ifs true fun c r=>if r=true then do let ok <- isTrue c env (eval c env);pure (ForInStep.yield ok) else pure (ForInStep.yield r)) (fun ok zw=>
      if ok=true then wpAny (model prog w) A (eval elt env) (fun x zo=>
       wpAny (model prog w) A (call (.builtin "list.append") [acc,x]) (fun _ zn=>∃ m,m<n/\I m zn) (notedBy (model prog w) A env fun e s'=>R (.error e) s') zo) (notedBy (model prog w) A env fun e s'=>R (.error e) s') zw
      else ∃ m,m<n/\I m zw) (notedBy (model prog w) A env fun e s'=>R (.error e) s') zx) (notedBy (model prog w) A env fun e s'=>R (.error e) s') zu) (notedBy (model prog w) A env fun e s'=>R (.error e) s') zu) (notedBy (model prog w) A env fun e s'=>R (.error e) s') s)(n:Nat)(h:I n s) :
  codeAny (model prog w) A (.compLoop (.ListComp elt [⟨target,iter,ifs,0⟩] scope pos) 0 it acc env) R s:=by
 refine codeAny_loop rfl I (fun n s hI=>?_) n h;show wpAny _ A ((compTurn (.ListComp elt [⟨target,iter,ifs,0⟩] scope pos) 0 it acc env).onRaise (fun x=>do noteFrame x env;theTreesLotGoes x)) _ _ s;refine wpAny_noted ?_;rw [compTurn_list];refine wpAny_bind (wpAny_standAt (wpAny_bind (wpAny_mono (turn n s hI) (fun r zu zr=>?_) fun _ _ h'=>h')))
 cases r with
 | none=>exact wpAny_pure zr
 | some v=>
  refine wpAny_bind (wpAny_mono zr (fun _ zu zr=>?_) fun _ _ h'=>h');refine wpAny_bind (wpAny_mono zr (fun _ zx zq=>wpAny_bind (wpAny_mono zq (fun ok zw zp=>?_) fun _ _ h'=>h')) fun _ _ h'=>h')
  cases ok with
  | false=>exact wpAny_pure ⟨rfl,zp⟩
  | true=>
   exact wpAny_bind (wpAny_bind (wpAny_mono zp (fun x zo zm=>wpAny_bind (wpAny_mono zm (fun _ zn zk=>wpAny_pure (wpAny_pure ⟨rfl,zk⟩)) fun _ _ h'=>h')) fun _ _ h'=>h'))
end
noncomputable def PIfs (X:Cx) (ifs:List Expr) (t:TT):Prop:=
 ∀ (pins:List (Addr×Obj)) (s:Shared) (Y:St) (H:Hp) (Q:Bool->Hp->Prop),Inv X pins Y H s->t Y H Q->
  wpAny 'b' X.A (forIn ifs true fun c r=>if r=true then do let ok <- isTrue c X.env (eval c X.env);pure (ForInStep.yield ok) else pure (ForInStep.yield r)) (TP X pins Y Q) X.xe s
noncomputable def tYes:TT:=fun _ H Q=>Q true H
theorem ama : PIfs X [] tYes:=fun _ _ _ H _ I h=>wpAny_tests_nil ⟨H,I,h⟩
theorem amb{c:Expr}{t:TT}(hc:PT X c t):PIfs X [c] t:=fun pins s Y H Q I h=>wpAny_tests_one (hc pins s Y H Q I h)
noncomputable def tComp (wi:TI) (k:Nat) (ixs:List Nat) (g:TG) (c:TT) (te:TE):TE:=fun Y H Q=>wi Y H fun J H1=>∀ D,H1 D=none->
 ∃ (n:Nat) (W:Nat->List V->St->Hp->Prop),W 0 [] (compStart k ixs Y) (A0 H1 D (.lst []))/\∀ i ys σ2 H2,W i ys σ2 H2->H2 D=some (.lst ys)->
  (J.stop i H2/\Q (.ref D) H2)\/
  (i<n/\J.go i H2/\∀ x H',J.yld i H2 x H'->g x σ2 H' fun σ3 H3=>c σ3 H3 fun b H4=>
   if b=true then te σ3 H4 fun y H5=>H5 D=some (.lst ys)/\ys.length<sizeLine/\W (i+1) (ys++[y]) σ3 (A0 H5 D (.lst (ys++[y])))
   else H4 D=some (.lst ys)/\W (i+1) ys σ3 H4)
section
variable {X:Cx} {sc:Scope} {N':List Str} {k:Nat} {ixs:List Nat}
theorem aft{pos:Pos}{J:It}{g:TG}(C:CompOk X.N X.env.scope.names sc N' k ixs)(L9:X.calm=true)(hg:∀ C zw zt fp pins,PG (N3 X sc N' C zw zt fp pins) target g)(hc:∀ C zw zt fp pins,PIfs (N3 X sc N' C zw zt fp pins) ifs c)(he:∀ C zw zt fp pins,PE (N3 X sc N' C zw zt fp pins) elt te){s:Shared}{tn:Nat->Heap->Prop}(I:Inv X pins Y H s)(T:Turn X.prog X.w X.K target J fp it tn)(st:tn 0 s.heap)(hf:∀ b∈fp,FpOk X pins H b)(h:∀ D,H D=none->∃ (n:Nat) (W:Nat->List V->St->Hp->Prop),W 0 [] (compStart k ixs Y) (A0 H D (.lst []))/\∀ i ys σ2 H2,W i ys σ2 H2->H2 D=some (.lst ys)->
   (J.stop i H2/\Q (.ref D) H2)\/
   (i<n/\J.go i H2/\∀ x H',J.yld i H2 x H'->g x σ2 H' fun σ3 H3=>c σ3 H3 fun b H4=>
    if b=true then te σ3 H4 fun y H5=>H5 D=some (.lst ys)/\ys.length<sizeLine/\W (i+1) (ys++[y]) σ3 (A0 H5 D (.lst (ys++[y])))
    else H4 D=some (.lst ys)/\W (i+1) ys σ3 H4)){RR:Value->Addr->Result->Shared->Prop}(hRR:∀ D Cc (H':Hp) (s':Shared) (o:Obj) m,Inv X pins Y H' s'->Inv X (pins++[(Cc,o)]) Y H' s'->s'.heap.get? Cc=some o->s'.heap.Ns Cc m->H' Cc=none->Cc≠X.env.locals->X.s₀.heap.objs.size<=Cc->
   (∀ x c,X.env.cells.lookup x=some c->c≠Cc)->(∀ p∈X.pn++pins,p.1≠Cc)->Q (.ref D) H'->RR (.ref D) Cc (.ok .next) s') :
  wpAny 'b' X.A (newList []) (fun acc zw=>wpAny 'b' X.A (newFunctionEnv sc X.env.globals (cloOf X.env.cells sc.names []) [] X.env.qual none .none (some X.env)) (fun cenv zo=>
   codeAny 'b' X.A (.compStart (.ListComp elt [⟨target,iter,ifs,0⟩] sc pos) 0 (.ref it) acc { cenv with scope:=relabel sc X.env }) (RR acc cenv.locals) zo) E zw) E s:=by
 have fresh:=I.hok.fresh (B3 s.heap.objs.size);obtain ⟨n,W,w0,turn⟩:=h s.heap.objs.size fresh;have hfD:∀ b∈fp,b≠s.heap.objs.size:=fun b hb z=>by
  obtain ⟨o,e,_⟩:=T.obj _ _ st b hb;rw [z] at e;exact absurd (Heap.lt_size e) (aJ _)
 have hf3:∀ b∈fp,FpOk X pins (A0 H s.heap.objs.size (.lst [])) b:=fun b hb=>⟨by rw [A9 (hfD b hb)];exact (hf b hb).1,(hf b hb).2⟩
 have main:∀ (s3:Shared) (zr:Heap) (t1:Nat),Inv X pins Y (A0 H s.heap.objs.size (.lst [])) s3->(∀ b o,s.heap.get? b=some o->s3.heap.get? b=some o)->zr.Ns s3.heap.objs.size (fun x=>([]:List (Str×Value)).reverse.lookup x)->
   (∀ b o,s3.heap.get? b=some o->zr.get? b=some o)->
   tn 0 zr/\codeAny 'b' X.A (.compLoop (.ListComp elt [⟨target,iter,ifs,0⟩] sc pos) 0 (.ref it) (.ref s.heap.objs.size) (N3 X sc N' s3.heap.objs.size s3 (A0 H s.heap.objs.size (.lst [])) fp pins).env) (RR (.ref s.heap.objs.size) s3.heap.objs.size) { s3 with heap:=zr,toks:=t1 }:=by
  intro s3 zr t1 I3 k3 fA keep3;have eY:tn 0 s3.heap:=T.keep _ _ _ st fun b hb o e=>k3 b o e
  have ho3:∀ b∈fp,∃ o,s3.heap.get? b=some o:=fun b hb=>let ⟨o,e,_⟩:=T.obj _ _ eY b hb;⟨o,e⟩
  have uM:tn 0 zr:=T.keep _ _ _ eY fun b hb o e=>keep3 b o e
  have B0:Inv (N3 X sc N' s3.heap.objs.size s3 (A0 H s.heap.objs.size (.lst [])) fp pins) [] (compStart k ixs Y) (A0 H s.heap.objs.size (.lst [])) { s3 with heap:=zr,toks:=t1 }:=aoc C I3 hf3 ho3 fA keep3;refine ⟨uM,?_⟩;have fpX:∀ {H':Hp},(∀ b∈fp,H' b=none)->∀ b∈fp,FpOk (N3 X sc N' s3.heap.objs.size s3 (A0 H s.heap.objs.size (.lst [])) fp pins) [] H' b:=fun {H'} hn b hb=>by
   obtain ⟨o,eo⟩:=ho3 b hb;refine ⟨hn b hb,O8 (Heap.lt_size eo),?_,.inl hb,?_,?_⟩
   .intro hm
    rcases F6.mp (I3.stkSub b hm) with z | z
    .exact (hf b hb).2.1 z
    .exact (hf b hb).2.2.1 z
   .intro x cc ec;exact (hf b hb).2.2.2.2.1 x cc (jZ C I3 ec).1
   .intro p hp;exact (hf b hb).2.2.2.2.2 p (by simpa [N3] using hp)
  refine agB (fun m s'=>∃ i ys σ' H',m=n-i/\Inv (N3 X sc N' s3.heap.objs.size s3 (A0 H s.heap.objs.size (.lst [])) fp pins) [] σ' H' s'/\tn i s'.heap/\(∀ b∈fp,H' b=none)/\H' s.heap.objs.size=some (.lst ys)/\W i ys σ' H') ?_ n ⟨0,[],_,_,rfl,B0,uM,fun b hb=>(hf3 b hb).1,A5,w0⟩;rintro m s4 ⟨i,ys,σ4,H4,rfl,I4,st4,fr4,hD4,w4⟩;have again:∀ {i':Nat} {ys':List V} {σ7:St} {H7:Hp} {s6 s7:Shared},i<n->i'=i+1->tn i' s6.heap->Inv (N3 X sc N' s3.heap.objs.size s3 (A0 H s.heap.objs.size (.lst [])) fp pins) ([]++jT fp s6.heap) σ7 H7 s7->H7 s.heap.objs.size=some (.lst ys')->W i' ys' σ7 H7->
    ∃ m,m<n-i/\∃ i ys σ' H',m=n-i/\Inv (N3 X sc N' s3.heap.objs.size s3 (A0 H s.heap.objs.size (.lst [])) fp pins) [] σ' H' s7/\tn i s7.heap/\(∀ b∈fp,H' b=none)/\H' s.heap.objs.size=some (.lst ys)/\W i ys σ' H':=fun {i' ys' σ7 H7 s6 s7} C9 ei lQ I7 hD w=>by
   subst ei;refine ⟨n-(i+1),by lia,i+1,ys',σ7,H7,rfl,I7.unpinned,T.keep _ _ _ lQ fun b hb o e=>(I7.pin (b,o) (V1 _ (V1 _ (jU hb e)))).1,fun b hb=>?_,hD,w⟩;obtain ⟨o,e,_⟩:=T.obj _ _ lQ b hb;exact (I7.pin (b,o) (V1 _ (V1 _ (jU hb e)))).2.1
  rcases turn i ys σ4 H4 w4 hD4 with ⟨stop,q⟩ | ⟨C9,go,step⟩
  .refine C2 (T.done (N3 X sc N' s3.heap.objs.size s3 (A0 H s.heap.objs.size (.lst [])) fp pins) rfl rfl rfl L9 i [] s4 σ4 H4 _ I4 (fpX fr4) st4 stop) fun r s5 p9=>?_
   obtain ⟨hr,I5⟩:=p9;subst hr;have back:Inv X pins Y H4 s5:=I3.call' (ch:=fp) I5.os I5.base I5.hok I5.bare fun b hb=>⟨(hf b hb).2.2.2.1,(hf b hb).2.1,(hf b hb).2.2.2.2.1,(hf b hb).2.2.2.2.2⟩
   obtain ⟨mm,hn5,_⟩:=I5.loc;obtain ⟨o,es,ep,ho,hd,V7⟩:=id hn5;have hC:s3.heap.objs.size≠X.env.locals:=Nat.ne_of_gt I3.lt;refine hRR s.heap.objs.size s3.heap.objs.size H4 s5 o mm back ?_ ho hn5 I5.free hC I3.sz ?_ ?_ q
   .refine back.pins_of fun p hp=>?_
    rcases E4.mp hp with z | z
    .exact back.pin p (V1 _ z)
    .have e:p=(s3.heap.objs.size,o):=by simpa using z
     subst e;exact ⟨ho,I5.free,hC,I3.nofs (B3 _),fun v z=>by rw [hd] at z;cases z⟩
   .intro x c e z;obtain ⟨v,q⟩:=I3.cell x c e
    have:=q.lt
    rw [z] at this;exact aJ _ this
   .intro p hp z
    have:=Heap.lt_size (I3.pin p hp).1
    rw [z] at this;exact aJ _ this
  .refine C2 (T.item (N3 X sc N' s3.heap.objs.size s3 (A0 H s.heap.objs.size (.lst [])) fp pins) rfl rfl rfl L9 i [] s4 σ4 H4 _ I4 (fpX fr4) st4 go) fun r s5 p9=>?_
   obtain ⟨u,hr,h5⟩:=p9;subst hr;refine C2 h5 fun _ s6 h6=>?_
   obtain ⟨x,H6,I6,r6,y6,lQ,fr6⟩:=h6;have I6':=I6.pinned (fpX fr6) (T.obj _ _ lQ);refine wpAny_mono (hg _ _ _ _ _ _ s6 σ4 H6 x u _ I6' r6 (step x H6 y6)) (fun _ s7 h7=>?_) fun _ _ z=>False.elim z
   obtain ⟨σ7,H7,I7,q7⟩:=h7;refine wpAny_mono (hc _ _ _ _ _ _ s7 σ7 H7 _ I7 q7) (fun ok s8 h8=>?_) fun _ _ z=>False.elim z
   obtain ⟨H8,I8,q8⟩:=h8
   cases ok with
   | false=>
    rw [if_neg N6] at q8 ⊢
    exact again C9 rfl lQ I8 q8.1 q8.2
   | true=>
    rw [if_pos rfl] at q8 ⊢
    refine wpAny_mono (he _ _ _ _ _ _ s8 σ7 H8 _ I8 q8) (fun y s9 h9=>?_) fun _ _ z=>False.elim z
    obtain ⟨yv,H9,I9,r9,hD9,hz9,w9⟩:=h9;refine wpAny_mono (agw (X:=(N3 X sc N' s3.heap.objs.size s3 (A0 H s.heap.objs.size (.lst [])) fp pins)) _ s9 σ7 H9 (.ref s.heap.objs.size) [yv] (.ref s.heap.objs.size) [y] (fun _ H'=>H'=A0 H9 s.heap.objs.size (.lst (ys++[yv]))) I9 rfl (.cons r9 .nil) ⟨_,ys,yv,rfl,rfl,hD9,hz9,rfl⟩) (fun _ s10 h10=>?_) fun _ _ z=>False.elim z
    obtain ⟨_,X5,I10,_,e10⟩:=h10;subst e10;exact again C9 rfl lQ I10 A5 w9
 have I3:=I.lnew (ys:=[]) (its:=[]) (t':=s.toks) .nil (F9 _);refine wpAny_newObj_type (wpAny_newFunctionEnv C.cell (by intro y hy;simp at hy) (fun zr zj zi=>?_) C.kind);obtain ⟨uM,loop⟩:=main _ zr (s.toks+([]:List (Str×Value)).length) I3 (fun b o e=>Heap.get?_push_of_some _ e) zj fun b o e=>zi.extBut b o (O8 (Heap.lt_size e)) (Heap.get?_push_of_some _ e)
 exact codeAny_compStart_list loop (T.self X.A 0 _ _ _ uM loop)
theorem aod{pos:Pos}{wi:TI}{g:TG}(C:CompOk X.N X.env.scope.names sc N' k ixs)(L9:X.calm=true)(hi:PI X target iter wi)(hg:∀ C zw zt fp pins,PG (N3 X sc N' C zw zt fp pins) target g)(hc:∀ C zw zt fp pins,PIfs (N3 X sc N' C zw zt fp pins) ifs c)(he:∀ C zw zt fp pins,PE (N3 X sc N' C zw zt fp pins) elt te)(hs:∀ x,foldedSetIterable iter X.env x=pure x:=by intro _;rfl):PE X (.ListComp elt [⟨target,iter,ifs,0⟩] sc pos) (tComp wi k ixs g c te):=by
 intro pins s Y H Q I h;rw [eval_ListComp];refine wpAny_comprehension_free (use:=none) rfl hs (adt fun x hx hf=>I.ok.has x.1 (C.free x hx hf)) C.kind C.names (C2 (hi pins s Y H _ I h) fun v s1 h1=>C2 h1 fun itv s2 h2=>?_);obtain ⟨it,fp,tn,J,H2,e,I2,T,oS,f2,q2⟩:=h2;subst e;refine aft (RR:=fun acc C=>compPost 'b' X.A X.xe none (EP X pins Y Q) acc C) C L9 hg hc he I2 T oS f2 q2 ?_;intro D Cc H' s' o m I' _ ho hn hC hL fB N8 iO q;exact ⟨m,hn,fun h'' hs''=>⟨.ref D,H',I'.turned (t':=s'.toks) (fun b o hb e=>hs''.extBut b o hb e) hC hL (.inr fB) N8 iO,rfl,q⟩⟩
theorem ajm{pos py:Pos}{wi:TI}{g:TG}(hN:X.N.Nodup)(hiN:X.N[i]?=some y)(hx:o4 X.env.scope y)(C:CompOk X.N X.env.scope.names sc N' k ixs)(L9:X.calm=true)(hi:PI X target iter wi)(hg:∀ C zw zt fp pins,PG (N3 X sc N' C zw zt fp pins) target g)(hc:∀ C zw zt fp pins,PIfs (N3 X sc N' C zw zt fp pins) ifs c)(he:∀ C zw zt fp pins,PE (N3 X sc N' C zw zt fp pins) elt te)(pA:swapsWith (.ListComp elt [⟨target,iter,ifs,0⟩] sc pos) (some (.Name y py)) spos.line X.env=pure true:=by rfl)(hf:X.fn y=true\/X.env.scope.names.lookup y=some .local:=by first | exact .inl rfl | exact .inr rfl | assumption)(hs:∀ x,foldedSetIterable iter X.env x=pure x:=by intro _;rfl):PS X (.Assign [.Name y py] (.ListComp elt [⟨target,iter,ifs,0⟩] sc pos) spos) (tAsg (tComp wi k ixs g c te) (gName i)):=by
 intro pins s Y H D I h;rw [exec_Assign_Name_used _ _ _ _ pA];refine wpAny_bind (wpAny_standAt (wpAny_bind ?_));show wpAny _ X.A (do let _ <- comprehension (.ListComp elt [⟨target,iter,ifs,0⟩] sc pos) sc X.env _ (newList []) false (eval iter X.env) (some (assign (.Name y py) X.env))) _ _ s;refine wpAny_bind (wpAny_mono (wpAny_comprehension_free (use:=some (assign (.Name y py) X.env)) (Q:=fun _ s'=>SP X pins D .next s') rfl hs (adt fun x hx hf=>I.ok.has x.1 (C.free x hx hf)) C.kind C.names
  (C2 (hi pins s Y H _ I h) fun v s1 h1=>C2 h1 fun itv s2 h2=>?_)) (fun _ s' hq=>wpAny_pure (wpAny_pure hq)) fun _ _ e=>e)
 obtain ⟨it,fp,tn,J,H2,e,I2,T,oS,f2,q2⟩:=h2;subst e;refine aft (Q:=fun x H1=>gName i x Y H1 D.nx) (RR:=fun acc C=>compPost 'b' X.A X.xe (some (assign (.Name y py) X.env)) (fun _ s'=>SP X pins D .next s') acc C) C L9 hg hc he I2 T oS f2 q2 ?_;intro Da Cc H' s' o m _ Ip ho hn hC hL fB N8 iO q;show wpAny _ X.A (assign (.Name y py) X.env (.ref Da)) _ _ _;refine wpAny_assign_Name (rE (v:=.ref Da) Ip hN hiN hx rfl (fun s'' I''=>?_) hf);have hC2:=(I''.pin (Cc,o) (V1 _ (V1 _ (G2.mpr rfl)))).1;refine ⟨m,hn.at' fun o' e'=>?_,fun h'' hs''=>?_⟩
 .rw [ho] at e';cases e';exact hC2
 .have I3:Inv X pins (Y.set i (some (.ref Da))) H' s'':=I''.unpinned;exact ⟨_,H',I3.turned (t':=s''.toks) (fun b o hb e=>hs''.extBut b o hb e) hC hL (.inr fB) N8 iO,q⟩
end
end L2
end
namespace L2
open PySem PySem.Spec PyProof.Rows
section
variable {X:Cx} {a b:Expr} {ta tb:TE} {pos:Pos} {rest:List Expr}
noncomputable def tTru (K:PySem.W.Frag) (te:TE):TT:=fun Y H Q=>te Y H fun x H1=>∃ k,TruV K x H1 k/\Q k H1
theorem aqW(ha:PE X a ta)(he:∀ whole,isTrue a X.env whole=(do let v <- whole;standAt a.pos;holding [v] (truthy v)):=by intro _;rfl):PT X a (tTru X.K ta):=alW ha he
noncomputable def tNotT (K:PySem.W.Frag) (te:TE):TE:=fun Y H Q=>te Y H fun x H1=>∃ k,TruV K x H1 k/\Q (.bl (!k)) H1
end
mutual
inductive Dn (K:PySem.W.Frag) (H:Hp):V->PyData->Prop
 | non:Dn K H .non .none
 | bl (b):Dn K H (.bl b) (.bool b)
 | int (i):Dn K H (.int i) (.int i)
 | str (x):W9 x=true->Dn K H (.str x) (.str x)
 | lst {a xs ds} : D9 K H a xs->DnAll K H xs ds->Dn K H (.ref a) (.list ds)
 | tup {a xs ds} : C6 K H a xs->DnAll K H xs ds->Dn K H (.ref a) (.tuple ds)
inductive DnAll (K:PySem.W.Frag) (H:Hp):List V->List PyData->Prop
 | nil:DnAll K H [] []
 | cons {x xs d ds} : Dn K H x d->DnAll K H xs ds->DnAll K H (x::xs) (d::ds)
end
section
variable {X:Cx} {pins:List (Addr×Obj)} {Y:St} {H:Hp} {s:Shared}
mutual
theorem Dn.reads{K:PySem.W.Frag}{x:V}{d:PyData}(I:Inv X pins Y H s)(hK:X.K=K):Dn K H x d->∀ {u:Value},RelV x u->d.canLay0=true/\∃ as,Reads s.heap u d as
 | .non,u,r=>by cases r;exact ⟨rfl,_,.none⟩
 | .bl b,u,r=>by cases r;exact ⟨rfl,_,.bool b⟩
 | .int i,u,r=>by obtain ⟨t,rfl⟩:=r;exact ⟨rfl,_,.int i t⟩
 | .str x hx,u,r=>by obtain ⟨t,rfl⟩:=r;exact ⟨hx,_,.str x t⟩
 | .lst (a:=a) q hs,u,r=>by
  cases r
  subst hK;obtain ⟨its,rv,⟨o,n,e,c,_,dd⟩,_⟩:=I.list q;obtain ⟨h1,as,h2⟩:=DnAll.reads I rfl hs rv;exact ⟨h1,_,.list e c dd (by simpa using h2)⟩
 | .tup (a:=a) q hs,u,r=>by
  cases r
  subst hK;obtain ⟨its,rv,⟨o,e,c,n,dd⟩,_⟩:=I.tuple q;obtain ⟨h1,as,h2⟩:=DnAll.reads I rfl hs rv;exact ⟨h1,_,.tuple e c dd (by simpa using h2)⟩
theorem DnAll.reads{K:PySem.W.Frag}{xs:List V}{ds:List PyData}(I:Inv X pins Y H s)(hK:X.K=K):DnAll K H xs ds->∀ {us:List Value},Vals xs us->PyData.canLayAll0 ds=true/\∃ as,ReadsAll s.heap us ds as
 | .nil,us,r=>by cases r;exact ⟨rfl,_,.nil⟩
 | .cons h t,us,r=>by
  cases r with
  | cons r1 r2=>
   obtain ⟨c1,a1,q1⟩:=Dn.reads I hK h r1;obtain ⟨c2,a2,q2⟩:=DnAll.reads I hK t r2;exact ⟨by simp [PyData.canLayAll0,c1,c2],_,.cons q1 q2⟩
end
end
mutual
theorem Dn.same{K:PySem.W.Frag}{H H':Hp}(hs:Same H H'){x:V}{d:PyData} : Dn K H x d->Dn K H' x d
 | .non=>.non
 | .bl b=>.bl b
 | .int i=>.int i
 | .str x h=>.str x h
 | .lst q h=>.lst (hs.seq q) (DnAll.same hs h)
 | .tup (a:=a) (xs:=xs) q h=>.tup (by
   rcases q with (q | ⟨o,q⟩) | q
   .exact .inl (.inl (hs _ _ q))
   .exact .inl (.inr ⟨o,hs _ _ q⟩)
   .exact .inr q) (DnAll.same hs h)
theorem DnAll.same{K:PySem.W.Frag}{H H':Hp}(hs:Same H H'){xs:List V}{ds:List PyData} : DnAll K H xs ds->DnAll K H' xs ds
 | .nil=>.nil
 | .cons h t=>.cons (Dn.same hs h) (DnAll.same hs t)
end
theorem u5{K:PySem.W.Frag}{H:Hp} : ∀ {zs:List Str},(∀ z∈zs,W9 z=true)->DnAll K H (zs.map V.str) (zs.map PyData.str)
 | [],_=>.nil
 | z::zs,h=>.cons (.str z (h z O0)) (u5 fun y hy=>h y (M6 _ hy))
theorem aO{K:PySem.W.Frag}{H:Hp} : ∀ {zs:List Int},DnAll K H (zs.map V.int) (zs.map f9)
 | []=>.nil
 | z::zs=>.cons (.int z) aO
theorem wP:∀ (xs ys:List Str),R6 (xs.map PyData.str) (ys.map PyData.str)=decide (xs=ys)
 | [],[]=>by simp [R6]
 | [],_::_=>by simp [R6]
 | _::_,[]=>by simp [R6]
 | x::xs,y::ys=>by
  rw [G1,G1,R6,wP xs ys];rw [show O9 (.str x) (.str y)=(x==y) by simp [O9]]
  by_cases h1:x=y
  .subst h1;simp
  .simp [h1]
theorem kA:∀ (xs ys:List Int),R6 (xs.map f9) (ys.map f9)=decide (xs=ys)
 | [],[]=>by simp [R6]
 | [],_::_=>by simp [R6]
 | _::_,[]=>by simp [R6]
 | x::xs,y::ys=>by
  rw [G1,G1,R6,kA xs ys];rw [show O9 (.int x) (.int y)=(x==y) by simp [O9]]
  by_cases h1:x=y
  .subst h1;simp
  .simp [h1]
noncomputable def rAddR (K:PySem.W.Frag) (a b:Addr) (H:Hp) (Q:VK):Prop:=rCat (.ref a) (.ref b) H Q\/rCatT K (.ref a) (.ref b) H Q
theorem rAddR.l{K:PySem.W.Frag}{a b:Addr}{H:Hp}{Q:VK}{xs ys:List V}(h1:H a=some (.lst xs))(h2:H b=some (.lst ys))(h3:xs.length+ys.length<=sizeLine)(h:∀ p,H p=none->Q (.ref p) (A0 H p (.lst (xs++ys)))):rAddR K a b H Q:=.inl ⟨a,b,xs,ys,rfl,rfl,h1,h2,h3,h⟩
theorem rAddR.t{K:PySem.W.Frag}{a b:Addr}{H:Hp}{Q:VK}{xs ys:List V}(h1:C6 K H a xs)(h2:C6 K H b ys)(h0:xs≠[])(h3:xs.length+ys.length<=sizeLine)(he:ys=[]->Q (.ref a) H)(h:ys≠[]->∀ p,H p=none->Q (.ref p) (A0 H p (.tup (xs++ys)))):rAddR K a b H Q:=.inr ⟨a,b,xs,ys,rfl,rfl,h1,h2,h0,h3,he,h⟩
noncomputable def rAddU (K:PySem.W.Frag):V->V->Hp->VK->Prop
 | .int i,.int j,H,Q=>Q (.int (i+j)) H
 | .str i,.str j,H,Q=>i.length+j.length<=sizeLine/\Q (.str (i++j)) H
 | .ref a,.ref b,H,Q=>rAddR K a b H Q
 | _,_,_,_=>False
noncomputable def rMulU:V->V->Hp->VK->Prop
 | .int i,.int j,H,Q=>CMul i j/\Q (.int (i*j)) H
 | .ref a,.int j,H,Q=>rRep (.ref a) (.int j) H Q
 | _,_,_,_=>False
noncomputable def rEqU (K:PySem.W.Frag):V->V->Hp->VK->Prop
 | .int i,.int j,H,Q=>Q (.bl (decide (i=j))) H
 | .str i,.str j,H,Q=>Q (.bl (decide (i=j))) H
 | .bl i,.bl j,H,Q=>Q (.bl (decide (i=j))) H
 | x,y,H,Q=>∃ d e,Dn K H x d/\Dn K H y e/\min d.depth e.depth<=60/\Q (.bl (O9 d e)) H
noncomputable def rNeU (K:PySem.W.Frag):V->V->Hp->VK->Prop
 | .int i,.int j,H,Q=>Q (.bl (!decide (i=j))) H
 | .str i,.str j,H,Q=>Q (.bl (!decide (i=j))) H
 | .bl i,.bl j,H,Q=>Q (.bl (!decide (i=j))) H
 | x,y,H,Q=>∃ d e,Dn K H x d/\Dn K H y e/\min d.depth e.depth<=60/\Q (.bl (!PyData.eqv d e)) H
noncomputable def rLtU:V->V->Hp->VK->Prop
 | .int i,.int j,H,Q=>Q (.bl (decide (i<j))) H
 | .str i,.str j,H,Q=>Q (.bl (decide (i.cps.toList<j.cps.toList))) H
 | _,_,_,_=>False
noncomputable def rLeU:V->V->Hp->VK->Prop
 | .int i,.int j,H,Q=>Q (.bl (decide (i<=j))) H
 | .str i,.str j,H,Q=>Q (.bl (!decide (j.cps.toList<i.cps.toList))) H
 | _,_,_,_=>False
noncomputable def rGtU:V->V->Hp->VK->Prop
 | .int i,.int j,H,Q=>Q (.bl (decide (j<i))) H
 | .str i,.str j,H,Q=>Q (.bl (decide (j.cps.toList<i.cps.toList))) H
 | _,_,_,_=>False
noncomputable def rGeU:V->V->Hp->VK->Prop
 | .int i,.int j,H,Q=>Q (.bl (decide (j<=i))) H
 | .str i,.str j,H,Q=>Q (.bl (!decide (i.cps.toList<j.cps.toList))) H
 | _,_,_,_=>False
noncomputable def rInR (K:PySem.W.Frag) (neg:Bool) (x:V) (p:Addr) (H:Hp) (Q:VK):Prop:=wE K neg x (.ref p) H Q\/∃ o,DGet H p x o/\Q (.bl (neg.xor o.isSome)) H
theorem rInR.l{K:PySem.W.Frag}{neg:Bool}{x:V}{p:Addr}{H:Hp}{Q:VK}{xs:List V}(h1:D9 K H p xs\/C6 K H p xs)(h2:flatV x=true)(h3:xs.all flatV=true)(h:Q (.bl (neg.xor (eB x xs))) H):rInR K neg x p H Q:=.inl ⟨p,xs,rfl,h1,h2,h3,by cases neg <;> simpa using h⟩
theorem rInR.d{K:PySem.W.Frag}{neg:Bool}{x:V}{p:Addr}{H:Hp}{Q:VK}{o:Option V}(h1:DGet H p x o)(h:Q (.bl (neg.xor o.isSome)) H):rInR K neg x p H Q:=.inr ⟨o,h1,h⟩
noncomputable def rInU (K:PySem.W.Frag) (neg:Bool) (x:V):V->Hp->VK->Prop
 | .str j,H,Q=>∃ i,x=.str i/\Q (.bl (neg.xor (!(Builtin.Str.occurrences j i 0 j.length 1).isEmpty))) H
 | .ref p,H,Q=>rInR K neg x p H Q
 | _,_,_=>False
section
variable {X:Cx} {pins:List (Addr×Obj)} {Y:St} {H:Hp} {s:Shared}
theorem p_add:L3 X (binaryOp .Add) (rAddU X.K):=by
 sleep 0
 cases x <;> cases y <;> try exact h.elim
 .exact aqx pins s Y H _ _ v u Q I rx ry ⟨_,_,rfl,rfl,h⟩
 .exact aje pins s Y H _ _ v u Q I rx ry ⟨_,_,rfl,rfl,h⟩
 .rcases h with h | h
  .exact aqR pins s Y H _ _ v u Q I rx ry h
  .exact an4 pins s Y H _ _ v u Q I rx ry h
theorem p_sub:L3 X (binaryOp .Sub) (aM fun i j=>.int (i-j)):=aqy
theorem p_mul:L3 X (binaryOp .Mult) rMulU:=by
 sleep 0
 cases x <;> cases y <;> try exact h.elim
 .exact aqz pins s Y H _ _ v u Q I rx ry ⟨_,_,rfl,rfl,h⟩
 .exact aqS pins s Y H _ _ v u Q I rx ry h
theorem aqX:L3 X (binaryOp .FloorDiv) (rI CDiv fun i j=>.int (i / j)):=anR
theorem p_mod:L3 X (binaryOp .Mod) (rI (fun _ j=>0<j) fun i j=>.int (i % j)):=aqA
theorem rS(hu:X.A.units+64<cLine){x y:V}{v u:Value}{Q:VK}(I:Inv X pins Y H s)(rx:RelV x v)(ry:RelV y u)(h:∃ d e,Dn X.K H x d/\Dn X.K H y e/\min d.depth e.depth<=60/\Q (.bl (O9 d e)) H):wpAny 'b' X.A (compareOp .Eq v u) (EP X pins Y Q) X.xe s:=by
 obtain ⟨d,e,h1,h2,hd,q⟩:=h;obtain ⟨c1,as,r1⟩:=h1.reads I rfl rx;obtain ⟨c2,bs,r2⟩:=h2.reads I rfl ry;exact SeqAt.compareEq_reads r1 r2 c1 c2 'a' ⟨.bl _,H,I,rfl,q⟩
theorem rT(hu:X.A.units+64<cLine){x y:V}{v u:Value}{Q:VK}(I:Inv X pins Y H s)(rx:RelV x v)(ry:RelV y u)(h:∃ d e,Dn X.K H x d/\Dn X.K H y e/\min d.depth e.depth<=60/\Q (.bl (!PyData.eqv d e)) H):wpAny 'b' X.A (compareOp .NotEq v u) (EP X pins Y Q) X.xe s:=by
 obtain ⟨d,e,h1,h2,hd,q⟩:=h;obtain ⟨c1,as,r1⟩:=h1.reads I rfl rx;obtain ⟨c2,bs,r2⟩:=h2.reads I rfl ry;exact SeqAt.compareNe_reads r1 r2 c1 c2 'a' ⟨.bl _,H,I,rfl,q⟩
theorem p_eq(hu:X.A.units+64<cLine):L3 X (compareOp .Eq) (rEqU X.K):=by
 sleep 0;have sc:∀ {x y:V},rEq x y H Q->RelV x v->RelV y u->wpAny 'b' X.A (compareOp .Eq v u) (EP X pins Y Q) X.xe s:=fun {x y} h rx ry=>op_eq pins s Y H x y v u Q I rx ry h
 cases x with
 | int i=>cases y with
  | int j=>exact sc (x:=.int i) (y:=.int j) ⟨rfl,by simpa using (show Q (.bl (decide (i=j))) H from h)⟩ rx ry
  | _=>exact rS hu I rx ry h
 | str i=>cases y with
  | str j=>exact sc (x:=.str i) (y:=.str j) ⟨rfl,by simpa using (show Q (.bl (decide (i=j))) H from h)⟩ rx ry
  | _=>exact rS hu I rx ry h
 | bl i=>cases y with
  | bl j=>exact sc (x:=.bl i) (y:=.bl j) ⟨rfl,by simpa using (show Q (.bl (decide (i=j))) H from h)⟩ rx ry
  | _=>exact rS hu I rx ry h
 | _=>cases y <;> exact rS hu I rx ry h
theorem p_ne(hu:X.A.units+64<cLine):L3 X (compareOp .NotEq) (rNeU X.K):=by
 sleep 0;have sc:∀ {x y:V},rNe x y H Q->RelV x v->RelV y u->wpAny 'b' X.A (compareOp .NotEq v u) (EP X pins Y Q) X.xe s:=fun {x y} h rx ry=>op_ne pins s Y H x y v u Q I rx ry h
 cases x with
 | int i=>cases y with
  | int j=>exact sc (x:=.int i) (y:=.int j) ⟨rfl,by simpa using (show Q (.bl (!decide (i=j))) H from h)⟩ rx ry
  | _=>exact rT hu I rx ry h
 | str i=>cases y with
  | str j=>exact sc (x:=.str i) (y:=.str j) ⟨rfl,by simpa using (show Q (.bl (!decide (i=j))) H from h)⟩ rx ry
  | _=>exact rT hu I rx ry h
 | bl i=>cases y with
  | bl j=>exact sc (x:=.bl i) (y:=.bl j) ⟨rfl,by simpa using (show Q (.bl (!decide (i=j))) H from h)⟩ rx ry
  | _=>exact rT hu I rx ry h
 | _=>cases y <;> exact rT hu I rx ry h
theorem p_lt:L3 X (compareOp .Lt) rLtU:=by
 sleep 0
 cases x <;> cases y <;> try exact h.elim
 .exact op_lt pins s Y H _ _ v u Q I rx ry ⟨_,_,rfl,rfl,h⟩
 .exact agl pins s Y H _ _ v u Q I rx ry ⟨_,_,rfl,rfl,h⟩
theorem p_le:L3 X (compareOp .LtE) rLeU:=by
 sleep 0
 cases x <;> cases y <;> try exact h.elim
 .exact op_le pins s Y H _ _ v u Q I rx ry ⟨_,_,rfl,rfl,h⟩
 .obtain ⟨t,rfl⟩:=rx;obtain ⟨t',rfl⟩:=ry;exact PySem.P.le_str ⟨.bl _,H,I,by simp [RelV],h⟩
theorem p_gt:L3 X (compareOp .Gt) rGtU:=by
 sleep 0
 cases x <;> cases y <;> try exact h.elim
 .exact op_gt pins s Y H _ _ v u Q I rx ry ⟨_,_,rfl,rfl,h⟩
 .obtain ⟨t,rfl⟩:=rx;obtain ⟨t',rfl⟩:=ry;exact PySem.P.gt_str ⟨.bl _,H,I,rfl,h⟩
theorem p_in(hu:X.A.units+64<cLine):L3 X (compareOp .In) (rInU X.K false):=by
 sleep 0
 cases y with
 | str j=>
  obtain ⟨i,rfl,q⟩:=h;exact aj6 pins s Y H _ _ v u Q I rx ry ⟨i,j,rfl,rfl,by simpa using q⟩
 | ref p=>
  rcases h with h | ⟨o,g,q⟩
  .exact akh pins s Y H _ _ v u Q I rx ry h
  .obtain rfl:u=Value.ref p:=ry;exact d_in 'a' I g rx fun s3 I3=>⟨.bl o.isSome,H,I3,rfl,by simpa using q⟩
 | _=>exact h.elim
theorem aoe(hu:X.A.units+64<cLine):L3 X (compareOp .NotIn) (rInU X.K true):=by
 sleep 0
 cases y with
 | str j=>
  obtain ⟨i,rfl,q⟩:=h;exact agt pins s Y H _ _ v u Q I rx ry ⟨i,j,rfl,rfl,by simpa using q⟩
 | ref p=>
  rcases h with h | ⟨o,g,q⟩
  .exact ags pins s Y H _ _ v u Q I rx ry h
  .obtain rfl:u=Value.ref p:=ry;exact an8 'a' I g rx fun s3 I3=>⟨.bl (!o.isSome),H,I3,rfl,by simpa using q⟩
 | _=>exact h.elim
noncomputable def cutS (x:Str) (lo hi:Option Int):Str:=⟨((x.cps.toList.drop (HT.sIx x.length 0 lo)).take (HT.sIx x.length x.length hi-HT.sIx x.length 0 lo)).toArray⟩
noncomputable def rSlS:V->Option Int->Option Int->Hp->VK->Prop:=fun x lo hi H Q=>∃ z,x=.str z/\z.length<=sizeLine/\Q (.str (cutS z lo hi)) H
end
end L2
variable {C a b f fa it md r sl:PySem.Addr}{dvs vs xs ys:List L2.V}{Q:L2.VK}{cd ct oc pm u v vl vu:PySem.Value}{at' ck i j k m n s t' x1:Nat}{items items2:Array PySem.Value}{fr ns:List Int}{its us:List PySem.Value}{A:PySem.Around}{name p q qual y z z':PySem.Str}{v' x:L2.V}{pins:List (PySem.Addr×PySem.Obj)}{Y:L2.St}{H H' H0 H1 H2 H3 zt:L2.Hp}{h h':PySem.Heap}{L M N N' acc bad g g' ks line loose ls ms ps qs ts zs:List PySem.Str}{K:PySem.W.Frag}{mg:PySem.Str->Option PySem.Value}{fd:PySem.FuncData}{sp:L2.Sp}{X:L2.Cx}{kvs:List (L2.C5×L2.V)}{prog:PySem.Program}{E:PySem.Value->PySem.Shared->Prop}{ixs pre:List Nat}{e elt iter target tg:PySem.Expr}{elts ifs:List PySem.Expr}{c:L2.TT}{td te tl tx ty:L2.TE}{fp l₁ rs:List PySem.Addr}{apos cpos kpos spos tpos:PySem.Pos}{calm fg neg:Bool}{st:PySem.Stmt}{an od:Option PySem.Addr}{tb:L2.TS}{D:L2.Ends}{lo:Int}{zw:PySem.Shared}{o:PySem.Obj}{ta:L2.TA}{ss:Array (Option PySem.Value)}
namespace L2
open PySem PySem.Spec PyProof.Rows
section
variable {X:Cx}
theorem akr(x:Str)(lo hi:Option Int):Txt.slice x lo hi=cutS x lo hi:=by
 have c1:∀ (o:Option Int) (d:Nat),(match o with | none=>(d:Int) | some i=>if (1:Int) > 0 then max 0 (min (if i<0 then i+(x.length:Int) else i) (x.length:Int)) else max (-1) (min (if i<0 then i+(x.length:Int) else i) ((x.length:Int)-1)))=((HT.sIx x.length d o:Nat):Int):=by
  intro o d
  cases o with
  | none=>rfl
  | some i=>
   rw [<- HT.clip_eq i x.length d];simp only [show ((1:Int) > 0)=True by simp,if_true]
   split <;> lia
 have h2:Builtin.Str.strSliceIndices lo hi 1 x.length=Builtin.Str.strSliceIndices (some ((HT.sIx x.length 0 lo:Nat):Int)) (some ((HT.sIx x.length x.length hi:Nat):Int)) 1 x.length:=by
  have e1:=c1 lo 0;have e2:=c1 hi x.length;have e3:=c1 (some ((HT.sIx x.length 0 lo:Nat):Int)) 0;have e4:=c1 (some ((HT.sIx x.length x.length hi:Nat):Int)) x.length;have l1:=HT.sIx_le x.length 0 (F9 _) lo;have l2:=HT.sIx_le x.length x.length (B3 _) hi;rw [HT.sIx_nat,bX l1] at e3;rw [HT.sIx_nat,bX l2] at e4;unfold Builtin.Str.strSliceIndices
  dsimp only at e3 e4 ⊢
  rw [e3,e4];clear e3 e4 l1 l2;refine congr (congr (congrArg sliceRange ?_) ?_) rfl
  .cases lo with
   | none=>exact e1
   | some i=>exact e1
  .cases hi with
   | none=>exact e2
   | some i=>exact e2
 have l1:=HT.sIx_le x.length 0 (F9 _) lo;have l2:=HT.sIx_le x.length x.length (B3 _) hi;unfold Txt.slice cutS;rw [h2];generalize HT.sIx x.length 0 lo=a at *;generalize HT.sIx x.length x.length hi=b at *;have len:x.length=x.cps.toList.length:=by simp [Str.length]
 by_cases fB:a<=b
 .rw [StrLaws.sliced_plain x fB l2,StrLaws.strSliceIndices_plain fB l2]
  split
  .rename_i hc
   have m4:b-a=x.length:=by simpa using hc
   have ha:a=0:=by lia
   subst ha;rw [List.drop_zero,Z2 'a']
  .rfl
 .have e:Builtin.Str.strSliceIndices (some (a:Int)) (some (b:Int)) 1 x.length=[]:=by
   have h1:¬ ((a:Int)<0):=by lia
   have h2:¬ ((b:Int)<0):=by lia
   have e1:max (0:Int) (min (a:Int) (x.length:Int))=a:=by lia
   have e2:max (0:Int) (min (b:Int) (x.length:Int))=b:=by lia
   simp only [Builtin.Str.strSliceIndices,sliceRange,h1,h2,if_false,e1,e2,show ((1:Int) > 0)=True from by simp,if_true];rw [if_neg 'a'];rfl
  rw [e,show b-a=0 by lia,Z6]
  split
  .rename_i hc
   have m4:0=x.length:=by simpa using hc
   have:x.cps.toList=[]:=List.eq_nil_of_length_eq_zero 'a'
   obtain ⟨⟨l⟩⟩:=x;simp at this;subst this;rfl
  .rfl
theorem aqY:jV X rSlS:=by
 intro pins s Y H x v vl vu lo hi sl Q I rx hs pl pu h;obtain ⟨z,rfl,hz,q⟩:=h;obtain ⟨t,rfl⟩:=rx;refine ⟨"str",_,F.slot_str_getitem.lookup,typeIs_str _ _ _,?_⟩;rw [<- akr] at q;have part:∀ {u:Value} {o:Option Int},IsPart u o->∃ l:Option (Int×Tok),u=partValue l/\l.map (·.1)=o:=fun {u o} p=>by
  cases p with
  | none=>exact ⟨none,rfl,rfl⟩
  | int i t=>exact ⟨some (i,t),rfl,rfl⟩
 obtain ⟨l,rfl,el⟩:=part pl;obtain ⟨u,rfl,eu⟩:=part pu;subst el eu;refine wpAny_getItem_str_slice (l:=l) (u:=u) (st:=none) hs rfl ?_;exact post_val_or_str ⟨F8 (Txt.slice_le z _ _) hz,fun t' k=>⟨.str _,H,I.tok _,⟨t',rfl⟩,q⟩⟩
theorem adX{w:World}{s:Shared}{t:Addr}{lo hi:Option Int}{Q:Value->Shared->Prop}(ht:IsTup s.heap t items)(hs:s.heap.IsSliceOf sl vl vu .none)(pl:IsPart vl lo)(pu:IsPart vu hi)(hw:HT.sIx items.size 0 lo=0/\HT.sIx items.size items.size hi=items.size)(h:Q (.ref t) s):wpAny (model prog w) A (getItem (.ref t) (.ref sl)) Q E s:=by
 obtain ⟨os,bH,uL,oV⟩:=id hs;have hTs:s.TypeIs (.ref sl) "slice":=⟨os,bH,uL⟩
 unfold getItem
 try with_reducible refine wpAny_holding ?_
 first | refine wpAny_bind (wpAny_pure ?_) | skip
 refine wpAny_bind (wpAny_sequenceKey ht.typeIs (by decide) ?_);refine wpAny_bind (wpAny_callSpecial?_slot (name:=Str.ofString "__getitem__") ht.typeIs PyProof.Rows.slot_tuple_getitem
  (wpAny_call_entry PyProof.Rows.slot_tuple_getitem ht.typeIs PyProof.Rows.entry_tuple_getitem ?_ (PyProof.Rows.args_tuple_getitem _ _)))
 show wpAny _ _ (Builtin.Tuple.tupleItemsOf (.ref t) >>= _) _ _ s;refine wpAny_bind (PyProof.Rows.tupleItemsOf_ ht ?_);refine wpAny_bind (wpAny_typeOf hTs ?_);rw [if_pos (by decide)];refine wpAny_bind (HT.sliceApplied_gen hs pl pu ?_);have hyes:((((HT.sIx items.size 0 lo:Nat):Int)==0&&(1:Int)==1&&(HT.sIx items.size items.size hi-HT.sIx items.size 0 lo)==items.size)=true):=by
  rw [hw.1,hw.2]
  simp
 show wpAny _ _ (if (((HT.sIx items.size 0 lo:Nat):Int)==0&&(1:Int)==1&&(HT.sIx items.size items.size hi-HT.sIx items.size 0 lo)==items.size)=true then _ else _) _ _ s;rw [if_pos hyes];refine wpAny_bind ?_;show wpAny _ _ (typeOf (.ref t) >>= fun v=>pure (v == .type "tuple")) _ _ s;refine wpAny_bind (wpAny_typeOf ht.typeIs (wpAny_pure ?_));rw [if_pos (by decide)];refine wpAny_bind (wpAny_rule ?_);exact wpAny_pure ⟨_,rfl,wpAny_pure h⟩
noncomputable def rSlW (K:PySem.W.Frag):V->Option Int->Option Int->Hp->VK->Prop:=fun x lo hi H Q=>∃ a xs,x=.ref a/\C6 K H a xs/\(HT.sIx xs.length 0 lo=0/\HT.sIx xs.length xs.length hi=xs.length)/\Q (.ref a) H
theorem aqZ:jV X (rSlW X.K):=by
 intro pins s Y H x v vl vu lo hi sl Q I rx hs pl pu h;obtain ⟨a,xs,rfl,hx,hw,q⟩:=h
 cases rx
 obtain ⟨its,r,ht,hz⟩:=I.tuple hx;have B1:its.toArray.size=xs.length:=by rw [N5];exact r.length.symm
 refine ⟨"tuple",_,PyProof.Rows.slot_tuple_getitem.lookup,ht.typeIs,?_⟩;exact adX ht hs pl pu (by rw [B1];exact hw) ⟨.ref a,H,I,rfl,q⟩
noncomputable def rSlR (K:PySem.W.Frag) (a:Addr) (lo hi:Option Int) (H:Hp) (Q:VK):Prop:=rSlL K (.ref a) lo hi H Q\/rSlT K (.ref a) lo hi H Q\/rSlW K (.ref a) lo hi H Q
theorem rSlR.l{lo hi:Option Int}(h1:D9 K H a xs)(h:∀ p,H p=none->Q (.ref p) (A0 H p (.lst (cutV xs lo hi)))):rSlR K a lo hi H Q:=.inl ⟨a,xs,rfl,h1,h⟩
theorem rSlR.t{lo hi:Option Int}(h1:C6 K H a xs)(h2:¬ (HT.sIx xs.length 0 lo=0/\HT.sIx xs.length xs.length hi=xs.length))(h:∀ p,H p=none->Q (.ref p) (A0 H p (.tup (cutV xs lo hi)))):rSlR K a lo hi H Q:=.inr (.inl ⟨a,xs,rfl,h1,h2,h⟩)
theorem rSlR.w{lo hi:Option Int}(h1:C6 K H a xs)(h2:HT.sIx xs.length 0 lo=0/\HT.sIx xs.length xs.length hi=xs.length)(h:Q (.ref a) H):rSlR K a lo hi H Q:=.inr (.inr ⟨a,xs,rfl,h1,h2,h⟩)
noncomputable def rSlU (K:PySem.W.Frag):V->Option Int->Option Int->Hp->VK->Prop
 | .str z,lo,hi,H,Q=>z.length<=sizeLine/\Q (.str (cutS z lo hi)) H
 | .ref a,lo,hi,H,Q=>rSlR K a lo hi H Q
 | _,_,_,_,_=>False
theorem p_sl:jV X (rSlU X.K):=by
 intro pins s Y H x v vl vu lo hi sl Q I rx hs pl pu h
 cases x with
 | str z=>exact aqY pins s Y H _ v vl vu lo hi sl Q I rx hs pl pu ⟨z,rfl,h⟩
 | ref a=>
  rcases h with h | h | h
  .exact an6 pins s Y H _ v vl vu lo hi sl Q I rx hs pl pu h
  .exact aqM pins s Y H _ v vl vu lo hi sl Q I rx hs pl pu h
  .exact aqZ pins s Y H _ v vl vu lo hi sl Q I rx hs pl pu h
 | _=>exact h.elim
noncomputable def LenR (K:PySem.W.Frag) (H:Hp) (p:Addr) (n:Nat):Prop:=(∃ xs,D9 K H p xs/\n=xs.length)\/(∃ xs,C6 K H p xs/\n=xs.length)\/∃ kvs,Rd H p (.dK kvs)/\n=kvs.length
noncomputable def rLenU (K:PySem.W.Frag):List V->Hp->VK->Prop
 | [.str z],H,Q=>z.length<=sizeLine/\Q (.int z.length) H
 | [.ref p],H,Q=>∃ n:Nat,LenR K H p n/\Q (.int n) H
 | _,_,_=>False
theorem p_len:CallR X (.builtin "len") (rLenU X.K):=by
 intro pins s Y H xs us Q I r h
 match xs,h with
 | [.str z],h=>exact vX pins s Y H _ us Q I r ⟨.str z,z.length,rfl,⟨h.1,rfl⟩,h.2⟩
 | [.ref p],⟨n,l,q⟩=>
  rcases l with ⟨xs,l,rfl⟩ | ⟨xs,l,rfl⟩ | ⟨kvs,l,rfl⟩
  .exact vX pins s Y H _ us Q I r ⟨.ref p,_,rfl,.inl ⟨xs,l,rfl⟩,q⟩
  .exact vX pins s Y H _ us Q I r ⟨.ref p,_,rfl,.inr ⟨xs,l,rfl⟩,q⟩
  .obtain ⟨u,rfl,ru⟩:=vals1 r
   cases ru
   exact d_len I l fun t s' I'=>⟨.int kvs.length,H,I',⟨t,rfl⟩,q⟩
theorem afc(hc:X.calm=true):CallR X (.type "list") (fun xs H Q=>∃ d kvs,xs=[.ref d]/\Rd H d (.dK kvs)/\∀ l,H l=none->Q (.ref l) (A0 H l (.lst (kvs.map fun kv=>kV kv.1)))):=by
 intro pins s Y H xs us Q I r h;obtain ⟨d,kvs,rfl,e,q⟩:=h;obtain ⟨u,rfl,rx⟩:=vals1 r
 cases rx
 obtain ⟨z,hd,vs,rel,dd⟩:=dk_rd I.hok e;obtain ⟨ep,L4⟩:=dd.dictAt;have hl:=rel.length;refine PySem.W.kdl_call (PySem.W.kdl_dict (knd:=Q3 X.prog X.w) (kvs:=vs) (ep:=ep) hd) (I.ok.hd hc) L4 'a' fun h' tk acc c' kp hD pB=>?_
 have hv:Vals (kvs.map fun kv=>kV kv.1) acc.toList:=by
  have hk:=rel.keys;have B1:acc.toList.length=kvs.length:=by rw [gG,pB.1,hl]
  have key:∀ (ks:List C5) (us:List Value),us.length=ks.length->(∀ (j:Nat) (v:Value),us[j]?=some v->∃ k,ks[j]?=some k/\keyIs k v=true)->Vals (ks.map kV) us:=by
   intro ks
   induction ks with
   | nil=>intro us h1 _;cases us with
    | nil=>exact .nil
    | cons _ _=>simp at h1
   | cons k ks ih=>
    intro us h1 h2
    cases us with
    | nil=>simp at h1
    | cons u us=>
     obtain ⟨k',e1,e2⟩:=h2 0 u rfl;simp at e1;subst e1;refine .cons ?_ (ih us (by simpa using h1) fun j v hj=>by simpa using h2 (j+1) v (by simpa using hj))
     rcases t8 e2 with ⟨i,t,rfl,rfl⟩ | ⟨x,t,rfl,rfl⟩
     .exact ⟨t,rfl⟩
     .exact ⟨t,rfl⟩
  rw [show (kvs.map fun kv=>kV kv.1)=(kvs.map (·.1)).map kV by rw [Z7];rfl];refine key _ _ (by rw [B1,A6]) fun j v hj=>?_
  obtain ⟨k,x,hx,hk'⟩:=pB.2 j v (by rw [<- Array.getElem?_toList];exact hj);refine ⟨k,?_,hk'⟩;rw [hk,O7,hx];rfl
 refine ⟨.ref s.heap.objs.size,_,I.laid (t':=tk) kp (B3 _) (show ObjOk X.prog X.w _ h' _ (.lst (kvs.map fun kv=>kV kv.1)) from ⟨by rw [A6];exact z,acc.toList,c',hv,by simpa using hD⟩),rfl,q _ (I.hok.fresh (B3 _))⟩
noncomputable def rListR (K:PySem.W.Frag) (calm:Bool) (p:Addr) (H:Hp) (Q:VK):Prop:=(∃ ys,(D9 K H p ys\/C6 K H p ys)/\∀ l,H l=none->Q (.ref l) (A0 H l (.lst ys)))\/(calm=true/\∃ kvs,Rd H p (.dK kvs)/\∀ l,H l=none->Q (.ref l) (A0 H l (.lst (kvs.map fun kv=>kV kv.1))))
theorem rListR.l{p:Addr}(h1:D9 K H p ys\/C6 K H p ys)(h:∀ l,H l=none->Q (.ref l) (A0 H l (.lst ys))):rListR K calm p H Q:=.inl ⟨ys,h1,h⟩
theorem rListR.d{p:Addr}(h1:Rd H p (.dK kvs))(h:∀ l,H l=none->Q (.ref l) (A0 H l (.lst (kvs.map fun kv=>kV kv.1)))):rListR K true p H Q:=.inr ⟨rfl,kvs,h1,h⟩
noncomputable def wQ (K:PySem.W.Frag) (calm:Bool):List V->Hp->VK->Prop
 | [.ref p],H,Q=>rListR K calm p H Q
 | _,_,_=>False
theorem aq0:CallR X (.type "list") (wQ X.K X.calm):=by
 intro pins s Y H xs us Q I r h
 match xs,h with
 | [.ref p],h=>
  rcases h with ⟨ys,h1,h2⟩ | ⟨hc,kvs,h1,h2⟩
  .exact agu pins s Y H _ us Q I r ⟨p,ys,rfl,h1,h2⟩
  .exact afc hc pins s Y H _ us Q I r ⟨p,kvs,rfl,h1,h2⟩
noncomputable def rAllB (calm:Bool):List V->Hp->VK->Prop
 | [.ref p],H,Q=>∃ bs:List Bool,calm=true/\H p=some (.lst (bs.map V.bl))/\Q (.bl (bs.all id)) H
 | _,_,_=>False
noncomputable def kC (H:Hp):V->Option String
 | .non=>some "NoneType"
 | .bl _=>some "bool"
 | .int _=>some "int"
 | .str _=>some "str"
 | .ref a=>match H a with
  | some (.lst _)=>some "list"
  | some (.frz _ (.lst _))=>some "list"
  | some (.tup _)=>some "tuple"
  | some (.dK _)=>some "dict"
  | _=>none
 | _=>none
noncomputable def wR (T n:String):Bool:=T==n || (T == "bool" && n == "int")
noncomputable def isTys:List String:=["str", "int", "bool", "list", "tuple", "dict"]
noncomputable def rIsi:List V->Hp->VK->Prop
 | [x,.ty n],H,Q=>∃ T,kC H x=some T/\isTys.contains n=true/\Q (.bl (wR T n)) H
 | _,_,_=>False
theorem aq1{T:String}(h:kC H x=some T):TyOf K H x (.type T)/\["NoneType", "bool", "int", "str", "list", "tuple", "dict"].contains T=true:=by
 cases x with
 | non=>cases h;exact ⟨.non,by decide⟩
 | bl b=>cases h;exact ⟨.bl b,by decide⟩
 | int i=>cases h;exact ⟨.int i,by decide⟩
 | str z=>cases h;exact ⟨.str z,by decide⟩
 | ref a=>
  unfold kC at h
  dsimp only at h
  cases e:H a with
  | none=>rw [e] at h;cases h
  | some o=>
   rw [e] at h
   cases o with
   | lst xs=>cases h;exact ⟨.lst e,by decide⟩
   | tup xs=>cases h;exact ⟨.tup e,by decide⟩
   | dK kvs=>cases h;exact ⟨.dK e,by decide⟩
   | frz ob u=>
    cases u with
    | lst xs=>cases h;exact ⟨.frz e,by decide⟩
    | _=>cases h
   | _=>cases h
 | _=>cases h
theorem aof(K:PySem.W.Frag):∀ T∈["NoneType", "bool", "int", "str", "list", "tuple", "dict"],∀ n∈isTys,PySem.W.kitOne K (.type T) (.type n)=some (wR T n):=by
 intro T hT n hn;simp only [F6,mQ,or_false,isTys] at hT hn
 rcases hT with rfl | rfl | rfl | rfl | rfl | rfl | rfl <;> rcases hn with rfl | rfl | rfl | rfl | rfl | rfl <;> rfl
theorem amc:CallR X (.builtin "isinstance") rIsi:=by
 intro pins s Y H xs us Q I r h
 match xs,h with
 | [x,.ty n],⟨T,h1,h2,q⟩=>
  obtain ⟨u,c,rfl,ru,rc⟩:=vals2 r;obtain rfl:c=Value.type n:=rc;obtain ⟨h3,h4⟩:=aq1 (K:=X.K) h1;exact akc I ru h3 (aof X.K T (by simpa using h4) n (by simpa using h2)) fun tk=>⟨.bl _,H,I.tok tk,rfl,q⟩
noncomputable def rOrd:List V->Hp->VK->Prop
 | [.str z],H,Q=>z.length=1/\Q (.int (z.cps.getD 0 0:Nat)) H
 | _,_,_=>False
noncomputable def kD (x:Str):It:=⟨fun i _=>i<x.cps.size,fun i H v H'=>H'=H/\∃ c,x.cps.toList[i]?=some c/\v=.str ⟨#[c]⟩,fun i _=>x.cps.size<=i⟩
theorem amd{P:Program}{w:World}{ty:String}(X3:ty="str_ascii_iterator"\/ty="str_iterator")(it:Addr)(x:Str)(t:Tok):Turn P w K tg (kD x) [it] it (fun i h=>h.IsStrIter it ty x t i) where
 mem:=by simp
 obj:=fun i h st b hb=>by
  have e:b=it:=by simpa using hb
  subst e;obtain ⟨o,e,c,d⟩:=st;exact ⟨o,e,fun v z=>by rw [d] at z;cases z⟩
 keep:=fun i h h' st k=>let ⟨o,e,r⟩:=st;⟨o,k it (by simp) o e,r⟩
 item:=by
  intro X hP hw hK hc i pins s Y H E I hf st hg;subst hP hw hK;sleep 1;have lR:i<x.cps.size:=hg;have go:∀ h',h'.IsStrIter it ty x t (i+1)->Heap.SameBut it s.heap h'->∃ u,some (Value.str ⟨#[x.cps[i]]⟩ s.toks)=some u/\
    wpAny 'b' X.A (letOwnedTupleGo tg (.ref it) u) (fun _ s2=>∃ y H',Inv X pins Y H' s2/\RelV y u/\(kD x).yld i H y H'/\s2.heap.IsStrIter it ty x t (i+1)/\∀ b∈[it],H' b=none) E { s with heap:=h',toks:=s.toks+1 }:=by
   intro h' st' sb;have I1:Inv X pins Y H { s with heap:=h',toks:=s.toks+1 }:=I.turned (t':=s.toks+1) (fun b o hb e=>(sb.2 b hb).trans e) f0 f1 f3 f4 f5;obtain ⟨o,e,c,d⟩:=id st';refine ⟨_,rfl,go_of (s:={ s with heap:=h',toks:=s.toks+1 }) e c d (by rcases X3 with rfl | rfl <;> decide) ⟨.str ⟨#[x.cps[i]]⟩,H,I1,⟨_,rfl⟩,⟨rfl,x.cps[i],?_,rfl⟩,st',fun b hb=>(hf b hb).1⟩⟩;simp [lR]
  rcases X3 with rfl | rfl
  .exact wpAny_pyNext_ascii_item st (c:=x.cps[i]) (by simp [lR]) go
  .exact wpAny_pyNext_wide_item st (c:=x.cps[i]) (by simp [lR]) go
 done:=by
  intro X hP hw hK hc i pins s Y H E I hf st hg;subst hP hw hK;sleep 1;have lR:x.cps.size<=i:=hg;have fin:∀ h',Heap.ExtBut it s.heap h'->(none:Option Value)=none/\Inv X pins Y H { s with heap:=h' }:=fun h' eb=>⟨rfl,I.turned (t':=s.toks) (fun b o hb e=>eb b o hb e) f0 f1 f3 f4 f5⟩
  rcases X3 with rfl | rfl
  .exact wpAny_pyNext_ascii_end (I.ok.hd hc) st (by simp [lR]) fin
  .exact wpAny_pyNext_wide_end (I.ok.hd hc) st (by simp [lR]) fin
 self:=fun A i s Q E st h=>by
  rcases X3 with rfl | rfl
  .exact wpAny_pyIter_striter_ascii st h
  .exact wpAny_pyIter_striter_wide st h
noncomputable def iStr (tl:TE):TI:=fun Y H R=>tl Y H fun x H1=>∃ z,x=.str z/\R (kD z) H1
variable {tg:Expr}
theorem aq2{l:Expr}(hl:PE X l tl):PI X tg l (iStr tl):=by
 intro pins s Y H R I h;refine C2 (hl pins s Y H _ I h) fun v s1 ⟨x,H1,I1,r1,q1⟩=>?_
 obtain ⟨z,rfl,q⟩:=q1;obtain ⟨t,rfl⟩:=r1;have fin:∀ (ty:String) (X3:ty="str_ascii_iterator"\/ty="str_iterator"),vU X pins Y tg R (.ref s1.heap.objs.size) { s1 with heap:=s1.heap.push { cls:=.type ty,data:=.fields #[.str z t,.int 0 0] } }:=fun ty X3=>by
  refine ⟨s1.heap.objs.size,[s1.heap.objs.size],_,_,H1,rfl,I1.kept (t':=s1.toks) fun b o e=>Heap.get?_push_of_some _ e,amd X3 s1.heap.objs.size z t,⟨_,Heap.get?_push_size _ rfl,rfl,rfl⟩,fun b hb=>?_,q⟩;have e:b=s1.heap.objs.size:=by simpa using hb
  subst e;exact I1.fpOk (B3 _) (I1.hok.fresh (B3 _))
 cases ha:z.cps.all (· < 128)
 .exact wpAny_pyIter_wide ha (fin _ (.inr rfl))
 .exact wpAny_pyIter_ascii ha (fin _ (.inl rfl))
end
noncomputable def M4:Expr->Bool
 | .Starred _ _=>true
 | _=>false
noncomputable def Y6 (es:List Expr):Bool:=es.all fun e=>!M4 e
theorem P1{es:List Expr}{env:Env}(h:M4 e=false):starEach (e::es) env=(false,eval e env)::starEach es env:=by
 cases e <;> first | rfl | cases h
theorem gM{pos:Pos}{env:Env} : ∀ {es:List Expr},Y6 es=true->(backTo pos (starEach es env)).any (·.1)=false
 | [],_=>rfl
 | e::es,h=>by
  have h':(!M4 e&&Y6 es)=true:=h;rw [U4] at h';rw [P1 (by simpa using h'.1)];have ih:=gM (pos:=pos) (env:=env) h'.2;unfold backTo at ih ⊢
  rw [G1,bU,ih];rfl
theorem aiv{pos:Pos}{env:Env} : ∀ {es:List Expr},Y6 es=true->(backTo pos (starEach es env)).all (fun x=>!x.1)=true
 | [],_=>rfl
 | e::es,h=>by
  have h':(!M4 e&&Y6 es)=true:=h;rw [U4] at h';rw [P1 (by simpa using h'.1)];have ih:=aiv (pos:=pos) (env:=env) h'.2;unfold backTo at ih ⊢
  rw [G1,List.all_cons,ih];rfl
section
variable {X:Cx} {e:Expr} {es:List Expr} {te:TE} {t:TA} {x:Str} {p pos:Pos} {id T:String} {r:List V->Hp->VK->Prop}
theorem pa_c(ha:PE X e te)(hr:PA X es t)(h:M4 e=false:=by rfl):PA X (e::es) (tCons te t):=anX ha hr (P1 h)
theorem pe_cB(hc:CallR X (.builtin id) r)(hg:Gl X x)(hm:X.mg x=none)(hv:bootBuiltins x=some (.builtin id))(ha:PA X (e::es) t)(h1:M4 e=false:=by rfl)(h2:Y6 es=true:=by rfl)(hn:x≠"__name__":=by decide)(U8:(x==("__debug__" : Str))=false:=by decide) :
  PE X (.Call (.Name x p) (e::es) [] pos) (gJ r t):=al1 hc hg hm hv ha hn U8 (P1 h1) (gM h2)
theorem pe_cT(hc:CallR X (.type T) r)(hg:Gl X x)(hm:X.mg x=none)(hv:bootBuiltins x=some (.type T))(ha:PA X (e::es) t)(h1:M4 e=false:=by rfl)(h2:Y6 es=true:=by rfl)(hn:x≠"__name__":=by decide)(U8:(x==("__debug__" : Str))=false:=by decide) :
  PE X (.Call (.Name x p) (e::es) [] pos) (gJ r t):=akf hc hg hm hv ha hn U8 (P1 h1) (gM h2)
variable {o:Expr} {to:TE} {name:Str} {apos cpos:Pos} {rm:V->List V->Hp->VK->Prop}
theorem pe_mB(pa:PlainAttrs T)(slot:Slot T name id)(X3:typeOf (.builtin id)=pure (.type "method_descriptor"))(hm:rM X id rm)(ho:PE X o to)(ha:PA X (e::es) t)(h1:M4 e=false:=by rfl)(h2:Y6 es=true:=by rfl)(h3:decide ((e::es).length<30)=true:=by rfl)(J8:attributeBase o name X.env (eval o X.env)=eval o X.env:=by rfl)(K0:(apos.endLine==cpos.line)=true:=by rfl):PE X (.Call (.Attribute o name apos) (e::es) [] cpos) (rN X.K T rm to t):=
 pe_bm pa slot X3 hm ho ha J8 (by
  rw [aiv (show Y6 (e::es)=true by show (!M4 e&&Y6 es)=true;rw [h1,h2];rfl)];have h3':(e::es).length<30:=of_decide_eq_true h3;simp only [List.isEmpty_nil,if_true,Z5,Nat.add_zero,Bool.true_and];rw [decide_eq_true h3'];rfl) K0 (P1 h1) (gM h2)
variable {tg a b:Expr} {ta:TA}
theorem pi_r1(hg:Gl X "range")(hm:X.mg "range"=none)(ha:PA X [a] ta)(h1:M4 a=false:=by rfl):PI X tg (.Call (.Name "range" p) [a] [] pos) (iRng1 ta):=ajZ hg hm ha (by rw [P1 h1];rfl)
theorem pi_r2(hg:Gl X "range")(hm:X.mg "range"=none)(ha:PA X [a,b] ta)(h1:M4 a=false:=by rfl)(h2:M4 b=false:=by rfl):PI X tg (.Call (.Name "range" p) [a,b] [] pos) (iRng2 ta):=aj0 hg hm ha (by rw [P1 h1,P1 h2];rfl) (by rw [P1 h2];rfl)
end
noncomputable def FO (P:Program) (w:World) (K:PySem.W.Frag) (mg:Str->Option Value) (base:Heap) (k:Nat) (x:Str) (ps:List Str) (dvs:List V) (sp:Sp):Prop:=
 ∃ f fd,FnOk P w K mg base E8 k f fd ps sp/\mg x=some (.ref f)/\W8 K (.ref f)=true/\∃ ds,Binds K fd ps ds/\Vals dvs ds
structure FunD(K:PySem.W.Frag)(x qual:Str)(st:Stmt)(f:Addr)(fd:FuncData):Prop where
 ex:∃ (oc:Value) (od:Option Addr) (dV kV doc pm:Value) (an:Option Addr) (cdv ct:Value) (osl:Array (Option Value)),
  fd=V4 x qual (X0 st) (W0 st) (C3 st) dV kV doc pm an cdv ct/\K.lookup f=some ⟨oc,od,.func fd,osl⟩/\Y3 K cdv qual=true
section
variable {P:Program} {w:World} {K:PySem.W.Frag} {mg:Str->Option Value} {base:Heap}
theorem FunD.ok{x:Str}(F:FunD K x qual st f fd)(S:FnScope N ps (C3 st))(len:∀ vs H Q E,sp vs H Q E->vs.length=ps.length)(x6:∀ (cdv:Value) (A:Around) (outer:List Env) (s:Shared) (H:Hp) (vs:List V) (Q:VK) (E:XK),Room k (A.deeper (envOfC qual (C3 st) s.heap.objs.size f cdv))->sp vs H Q E->
   ∃ t,Z9 (cxOf E8 P w K mg base N qual (C3 st) f cdv A outer s H E).nox (W0 st) t/\t { nx:=fun _ H'=>Q .non H',rt:=Q } (start N vs) H):FnOk P w K mg base E8 (k+1) f fd ps sp:=by
 obtain ⟨oc,od,dV,kV,doc,pm,an,cdv,ct,osl,rfl,lk,U7⟩:=F.ex;refine fn_of lk U7 S len fun A outer s H vs Q E hr eZ=>?_
 obtain ⟨t,h,q⟩:=x6 cdv A outer s H vs Q E hr eZ;exact ⟨t,h.nox,q⟩
theorem u6{x:Str}{osl:Array (Option Value)}{dV kV doc cdv:Value}(l:K.lookup f=some ⟨oc,od,.func (V4 x qual (X0 st) (W0 st) (C3 st) dV kV doc pm an cdv ct),osl⟩)(c:Y3 K cdv qual=true):FunD K x qual st f (V4 x qual (X0 st) (W0 st) (C3 st) dV kV doc pm an cdv ct):=⟨oc,od,dV,kV,doc,pm,an,cdv,ct,osl,rfl,l,c⟩
end
section
variable {X:Cx} {k:Nat} {ps:List Str} {sp:Sp} {dvs:List V} {x:Str} {p pos:Pos} {e:Expr} {es:List Expr} {t:TA}
theorem ame(G:FO X.prog X.w X.K X.mg X.base k x ps dvs sp)(hr:Room k X.A)(ha:PA X (e::es) t)(hg:Gl X x:=by rfl)(h1:M4 e=false:=by rfl)(h2:Y6 es=true:=by rfl)(U8:(x==("__debug__" : Str))=false:=by decide):PE X (.Call (.Name x p) (e::es) [] pos) (tCall sp dvs E0 t):=by
 obtain ⟨f,fd,F,hm,hk,ds,hb,hd⟩:=G;exact anY F hr hg hm hk hb hd pass0 ha U8 (P1 h1) (gM h2)
theorem amf{i:Int}(h:∃ t,X.mg x=some (.int i t))(hg:Gl X x:=by rfl)(hd:(x==("__debug__" : Str))=false:=by decide):PE X (.Name x p) (tC (.int i)):=by
 obtain ⟨t,h⟩:=h;exact ajV hg h ⟨t,rfl⟩ hd
theorem amg(h:X.mg x=some (.ref a))(hg:Gl X x:=by rfl)(hd:(x==("__debug__" : Str))=false:=by decide):PE X (.Name x p) (tC (.ref a)):=ajV hg h rfl hd
end
section
variable {Y:St} {H:Hp} {Q:VK} {B:Bool->Hp->Prop} {ta tb tc te:TE} {t u:TS} {tt uu:TT} {D:Ends} {i:Nat} {v:V} {r r':R2} {K:PySem.W.Frag} {taa:TA} {R:List V->Hp->Prop} {g:TG}
theorem anh:tVar i Y H Q=∃ v,(Y[i]?).join=some v/\Q v H:=by
 unfold tVar;refine propext ⟨fun ⟨v,h,q⟩=>⟨v,by rw [h];rfl,q⟩,fun ⟨v,h,q⟩=>⟨v,?_,q⟩⟩;cases e:Y[i]? with
 | none=>rw [e] at h;cases h
 | some o=>rw [e] at h;exact congrArg some h
theorem ap_c:tC v Y H Q=Q v H:=rfl
theorem ap_op:cC r ta tb Y H Q=ta Y H fun x H1=>tb Y H1 fun y H2=>r x y H2 Q:=rfl
theorem ap_un{ru:V->Hp->VK->Prop} : vV ru ta Y H Q=ta Y H fun x H1=>ru x H1 Q:=rfl
theorem ap_rU{f:Int->V} : rU f x H Q=∃ i,x=.int i/\Q (f i) H:=rfl
theorem aog:tTest ta Y H B=ta Y H fun x H'=>∃ k,x=.bl k/\B k H':=rfl
theorem ap_tB:tB ta Y H B=ta Y H fun x H'=>∃ k,x=.bl k/\B k H':=rfl
theorem aoh:tTru K ta Y H B=ta Y H fun x H'=>∃ k,TruV K x H' k/\B k H':=rfl
theorem aoi:tNotT K ta Y H Q=ta Y H fun x H'=>∃ k,TruV K x H' k/\Q (.bl (!k)) H':=rfl
theorem amh:vW r r' ta tb tc Y H Q=ta Y H fun x H1=>tb Y H1 fun y H2=>r x y H2 fun z H3=>∃ k,z=.bl k/\(if k=true then tc Y H3 fun w' H4=>r' y w' H4 Q else Q (.bl false) H3):=rfl
theorem aq3:tAnd tt uu Y H B=tt Y H fun c H1=>if c=true then uu Y H1 B else B false H1:=rfl
theorem ap_or:vO tt uu Y H B=tt Y H fun c H1=>if c=true then B true H1 else uu Y H1 B:=rfl
theorem aq4:tNot tt Y H B=tt Y H fun c H1=>B (!c) H1:=rfl
theorem aoj:tAndV ta tb Y H Q=ta Y H fun x H1=>∃ c,x=.bl c/\if c=true then tb Y H1 Q else Q (.bl false) H1:=rfl
theorem aq5:tOrV ta tb Y H Q=ta Y H fun x H1=>∃ c,x=.bl c/\if c=true then Q (.bl true) H1 else tb Y H1 Q:=rfl
theorem aok:tNotV ta Y H Q=ta Y H fun x H1=>∃ c,x=.bl c/\Q (.bl (!c)) H1:=rfl
theorem ap_if:vP tt ta tb Y H Q=tt Y H fun c H1=>if c=true then ta Y H1 Q else tb Y H1 Q:=rfl
theorem aol:tNext D Y H=D.nx Y H:=rfl
theorem aq6:tSeq t u D Y H=t { D with nx:=u D } Y H:=rfl
theorem ami:vQ D Y H=D.bk Y H:=rfl
theorem aom:tCont D Y H=D.ct Y H:=rfl
theorem aon:tDrop te D Y H=te Y H fun _ H1=>D.nx Y H1:=rfl
theorem aq7:tRet te D Y H=te Y H D.rt:=rfl
theorem aoo:tRetN D Y H=D.rt .non H:=rfl
theorem aq8:tIfS tt t u D Y H=tt Y H fun b H1=>if b=true then t D Y H1 else u D Y H1:=rfl
theorem amj:vR D Y H=False:=rfl
theorem aop{Z:St->Hp->Prop} : gName i v Y H Z=Z (Y.set i (some v)) H:=rfl
theorem aoq{Z:St->Hp->Prop} : gNil vs Y H Z=(vs=[]/\Z Y H):=rfl
theorem amk{us:o5}{Z:St->Hp->Prop} : gCons g us vs Y H Z=∃ v r,vs=v::r/\g v Y H fun σ' H'=>us r σ' H' Z:=rfl
theorem aor{us:o5}{Z:St->Hp->Prop} : gTup K n us v Y H Z=∃ a xs,v=.ref a/\C6 K H a xs/\xs.length=n/\us xs Y H Z:=rfl
theorem aos{ts:TSet}{Z:St->Hp->Prop} : gSub ta tb ts v Y H Z=ta Y H fun o H1=>tb Y H1 fun i H2=>ts o i v H2 fun H3=>Z Y H3:=rfl
theorem aq9:tAsg te g D Y H=te Y H fun x H1=>g x Y H1 D.nx:=rfl
theorem ara{ti:gH} : tAug i te ti D Y H=∃ x,(Y[i]?).join=some x/\te Y H fun y H1=>ti x y H1 fun z H2=>D.nx (Y.set i (some z)) H2:=anh (Q:=fun x H=>te Y H fun y H1=>ti x y H1 fun z H2=>D.nx (Y.set i (some z)) H2)
theorem arb{f:Int->Int->Int}{y:V} : vT f x y H Q=∃ i j,x=.int i/\y=.int j/\Q (.int (f i j)) H:=rfl
theorem aot:tCons te taa Y H R=te Y H fun x H1=>taa Y H1 fun xs H2=>R (x::xs) H2:=rfl
theorem arc:tNil Y H R=R [] H:=rfl
theorem aou{E:XK} : tCall sp dvs E taa Y H Q=taa Y H fun vs H1=>sp (vs++dvs) H1 Q E:=rfl
theorem ap_cb{rc:List V->Hp->VK->Prop} : gJ rc taa Y H Q=taa Y H fun vs H1=>rc vs H1 Q:=rfl
theorem ard:tTup taa Y H Q=taa Y H fun xs H1=>xs.length<=sizeLine/\∀ p,H1 p=none->Q (.ref p) (A0 H1 p (.tup xs)):=rfl
theorem are:tLst taa Y H Q=taa Y H fun xs H1=>xs.length<=sizeLine/\∀ p,H1 p=none->Q (.ref p) (A0 H1 p (.lst xs)):=rfl
theorem ap_sl{rs:V->Option Int->Option Int->Hp->VK->Prop}{tl th:TO} : wC rs te tl th Y H Q=te Y H fun x H1=>tl Y H1 fun l H2=>th Y H2 fun u H3=>rs x l u H3 Q:=rfl
theorem akt{O:Option Int->Hp->Prop} : wB Y H O=O none H:=rfl
theorem aov{O:Option Int->Hp->Prop} : tPart te Y H O=te Y H fun x H1=>∃ i,x=.int i/\O (some i) H1:=rfl
theorem ap_bm{T:String}{rm:V->List V->Hp->VK->Prop} : rN K T rm te taa Y H Q=te Y H fun x H1=>cE K T x H1/\taa Y H1 fun xs H2=>rm x xs H2 Q:=rfl
theorem arf{T:String}{rm:V->List V->Hp->VK->Prop} : tBM0 K T rm te Y H Q=te Y H fun x H1=>cE K T x H1/\rm x [] H1 Q:=rfl
theorem arh:tYes Y H B=B true H:=rfl
theorem aow:wJ Y H Q=∀ p,H p=none->Q (.ref p) (A0 H p (.dK [])):=rfl
theorem aox:tDGet ta tb Y H Q=ta Y H fun x H1=>tb Y H1 fun y H2=>∃ a v,x=.ref a/\DGet H2 a y (some v)/\Q v H2:=rfl
theorem aoy:sDPut ta tb tc D Y H=tc Y H fun v H1=>ta Y H1 fun x H2=>tb Y H2 fun y H3=>∃ a H4,x=.ref a/\DPut H3 a y v H4/\D.nx Y H4:=rfl
theorem aoz{rd:V->V->Hp->VK->Prop} : sDAug ta tb tc rd D Y H=ta Y H fun x H1=>tb Y H1 fun y H2=>∃ a v,x=.ref a/\DGet H2 a y (some v)/\tc Y H2 fun y2 H3=>rd v y2 H3 fun z H4=>∃ H5,DPut H4 a y z H5/\D.nx Y H5:=rfl
theorem aoA{y:V} : aM (fun i j=>V.int (i-j)) x y H Q=∃ i j,x=.int i/\y=.int j/\Q (.int (i-j)) H:=rfl
theorem aml{y:V} : rI CDiv (fun i j=>V.int (i / j)) x y H Q=∃ i j,x=.int i/\y=.int j/\(0<j/\j<1073741824)/\Q (.int (i / j)) H:=rfl
theorem aoB{y:V} : rI (fun _ j=>0<j) (fun i j=>V.int (i % j)) x y H Q=∃ i j,x=.int i/\y=.int j/\0<j/\Q (.int (i % j)) H:=rfl
theorem aoC : cE K "str" (.str z) H=True:=by simp [cE]
noncomputable def ForIt (J:It) (g:TG) (tb:TS) (D:Ends) (Y:St) (H1:Hp):Prop:=∃ W:Nat->Nat->St->Hp->Prop,(∃ m,W 0 m Y H1)/\∀ i m Y H,W i m Y H->
 (J.stop i H/\D.nx Y H)\/(J.go i H/\∃ N:St->Hp->Prop,(∀ σ' H',N σ' H'->∃ m',m'<m/\W (i+1) m' σ' H')/\∀ x H',J.yld i H x H'->g x Y H' fun σ2 H2=>tb { D with nx:=N,ct:=N,bk:=D.nx } σ2 H2)
theorem ari{wi:TI}{tbs:TS} : tFor wi g tbs D Y H=wi Y H fun J H1=>ForIt J g tbs D Y H1:=rfl
theorem amm{Z:It->Hp->Prop} : iList K te Y H Z=te Y H fun x H1=>∃ a,x=.ref a/\(∃ xs,D9 K H1 a xs)/\Z (aL K a) H1:=rfl
theorem aoD{Z:It->Hp->Prop} : iTup K te Y H Z=te Y H fun x H1=>∃ a,x=.ref a/\(∃ xs,C6 K H1 a xs)/\Z (dZ K a) H1:=rfl
theorem aoE{Z:It->Hp->Prop} : iStr te Y H Z=te Y H fun x H1=>∃ z,x=.str z/\Z (kD z) H1:=rfl
theorem amn{Z:It->Hp->Prop} : iRng1 taa Y H Z=taa Y H fun vs H1=>∃ j:Int,vs=[.int j]/\-(2 ^ 62)<=j/\j<2 ^ 62/\Z (o6 0 j.toNat) H1:=rfl
theorem amo{Z:It->Hp->Prop} : iRng2 taa Y H Z=taa Y H fun vs H1=>∃ i j:Int,vs=[.int i,.int j]/\(-(2 ^ 62)<=i/\i<2 ^ 62/\-(2 ^ 62)<=j/\j<2 ^ 62)/\Z (o6 i (j-i).toNat) H1:=rfl
noncomputable def cH (J:It) (k:Nat) (ixs:List Nat) (g:TG) (c:TT) (te:TE) (Y:St) (Q:VK) (H1:Hp):Prop:=∀ D,H1 D=none->
 ∃ (n:Nat) (W:Nat->List V->St->Hp->Prop),W 0 [] (compStart k ixs Y) (A0 H1 D (.lst []))/\∀ i ys σ2 H2,W i ys σ2 H2->H2 D=some (.lst ys)->
  (J.stop i H2/\Q (.ref D) H2)\/
  (i<n/\J.go i H2/\∀ x H',J.yld i H2 x H'->g x σ2 H' fun σ3 H3=>c σ3 H3 fun b H4=>
   if b=true then te σ3 H4 fun y H5=>H5 D=some (.lst ys)/\ys.length<sizeLine/\W (i+1) (ys++[y]) σ3 (A0 H5 D (.lst (ys++[y])))
   else H4 D=some (.lst ys)/\W (i+1) ys σ3 H4)
theorem aoF{wi:TI} : tComp wi k ixs g tt te Y H Q=wi Y H fun J H1=>cH J k ixs g tt te Y Q H1:=rfl
end
theorem aoG{b k:Bool} : TruV K (.bl b) H k=(k=b):=rfl
theorem amp{i:Int}{k:Bool} : TruV K (.int i) H k=(k=(i != 0)):=rfl
theorem amq{k:Bool} : TruV K (.str z) H k=(z.length<=sizeLine/\k=((z.length:Int) != 0)):=rfl
theorem amr{k:Bool} : TruV K .non H k=(k=false):=rfl
theorem ams : start N vs=vs.map some++Y2 (N.length-vs.length) none:=rfl
theorem agC : compStart k ixs Y=Y2 k none++ixs.map fun i=>(Y[i]?).join:=rfl
theorem aoH{i:Int} : jW K (.str z) (.int i) H Q=∃ c,z.length<=sizeLine/\K5 z.cps.toList i=some c/\Q (.str ⟨#[c]⟩) H:=by
 simp only [jW,rIxL,rIxT,rIxS];refine propext ⟨fun h=>?_,fun ⟨c,h⟩=>.inr (.inr ⟨z,i,c,rfl,rfl,h⟩)⟩
 rcases h with ⟨p,xs,j,v,e,_⟩ | ⟨p,xs,j,v,e,_⟩ | ⟨z',i',c,e1,e2,h⟩
 .cases e
 .cases e
 .cases e1;cases e2;exact ⟨c,h⟩
theorem aoI{p:Addr}{i:Int} : jW K (.ref p) (.int i) H Q=∃ xs v,(D9 K H p xs\/C6 K H p xs)/\K5 xs i=some v/\Q v H:=by
 simp only [jW,rIxL,rIxT,rIxS];refine propext ⟨fun h=>?_,fun ⟨xs,v,h,r⟩=>?_⟩
 .rcases h with ⟨p',xs,j,v,e1,e2,h1,h2⟩ | ⟨p',xs,j,v,e1,e2,h1,h2⟩ | ⟨z',i',c,e1,e2,h⟩
  .cases e1;cases e2;exact ⟨xs,v,.inl h1,h2⟩
  .cases e1;cases e2;exact ⟨xs,v,.inr h1,h2⟩
  .cases e1
 .rcases h with h | h
  .exact .inl ⟨p,xs,i,v,rfl,rfl,h,r⟩
  .exact .inr (.inl ⟨p,xs,i,v,rfl,rfl,h,r⟩)
theorem kE{α:Type}{xs:List α}{i:Int}(h0:0<=i)(h1:i<xs.length):∃ v,K5 xs i=some v/\v∈xs:=by
 have C9:i.toNat<xs.length:=by lia
 refine ⟨xs[i.toNat],?_,List.getElem_mem C9⟩;unfold K5 k7;rw [if_pos h0,if_pos h1];simp [C9]
theorem O1:bootBuiltins "len"=some (.builtin "len"):=by decide +kernel
theorem afV:bootBuiltins "isinstance"=some (.builtin "isinstance"):=by decide +kernel
theorem ani:bootBuiltins "any"=some (.builtin "any"):=by decide +kernel
theorem anj:bootBuiltins "min"=some (.builtin "min"):=by decide +kernel
theorem u7:bootBuiltins "list"=some (.type "list"):=by decide +kernel
theorem kF:bootBuiltins "tuple"=some (.type "tuple"):=by decide +kernel
theorem aku:bootBuiltins "dict"=some (.type "dict"):=by decide +kernel
theorem arj:bootBuiltins "str"=some (.type "str"):=by decide +kernel
theorem ark:bootBuiltins "int"=some (.type "int"):=by decide +kernel
section
variable {K:PySem.W.Frag} {H:Hp} {Q:VK} {i j:Int} {x y:Str} {u v:V} {b c:Bool} {p q:Addr} {lo hi:Option Int} {cm:Bool}
theorem ad_ii:rAddU K (.int i) (.int j) H Q=Q (.int (i+j)) H:=rfl
theorem ad_ss:rAddU K (.str x) (.str y) H Q=(x.length+y.length<=sizeLine/\Q (.str (x++y)) H):=rfl
theorem ad_rr:rAddU K (.ref p) (.ref q) H Q=rAddR K p q H Q:=rfl
theorem mu_ii:rMulU (.int i) (.int j) H Q=(CMul i j/\Q (.int (i*j)) H):=rfl
theorem mu_ri:rMulU (.ref p) (.int j) H Q=rRep (.ref p) (.int j) H Q:=rfl
theorem eq_ii:rEqU K (.int i) (.int j) H Q=Q (.bl (decide (i=j))) H:=rfl
theorem eq_ss:rEqU K (.str x) (.str y) H Q=Q (.bl (decide (x=y))) H:=rfl
theorem eq_bb:rEqU K (.bl b) (.bl c) H Q=Q (.bl (decide (b=c))) H:=rfl
theorem eq_rx:rEqU K (.ref p) v H Q=∃ d e,Dn K H (.ref p) d/\Dn K H v e/\min d.depth e.depth<=60/\Q (.bl (O9 d e)) H:=by cases v <;> rfl
theorem eq_xr:rEqU K v (.ref p) H Q=∃ d e,Dn K H v d/\Dn K H (.ref p) e/\min d.depth e.depth<=60/\Q (.bl (O9 d e)) H:=by cases v <;> rfl
theorem ne_ii:rNeU K (.int i) (.int j) H Q=Q (.bl (!decide (i=j))) H:=rfl
theorem ne_ss:rNeU K (.str x) (.str y) H Q=Q (.bl (!decide (x=y))) H:=rfl
theorem ne_bb:rNeU K (.bl b) (.bl c) H Q=Q (.bl (!decide (b=c))) H:=rfl
theorem ne_rx:rNeU K (.ref p) v H Q=∃ d e,Dn K H (.ref p) d/\Dn K H v e/\min d.depth e.depth<=60/\Q (.bl (!PyData.eqv d e)) H:=by cases v <;> rfl
theorem ne_xr:rNeU K v (.ref p) H Q=∃ d e,Dn K H v d/\Dn K H (.ref p) e/\min d.depth e.depth<=60/\Q (.bl (!PyData.eqv d e)) H:=by cases v <;> rfl
theorem lt_ii:rLtU (.int i) (.int j) H Q=Q (.bl (decide (i<j))) H:=rfl
theorem lt_ss:rLtU (.str x) (.str y) H Q=Q (.bl (decide (x.cps.toList<y.cps.toList))) H:=rfl
theorem le_ii:rLeU (.int i) (.int j) H Q=Q (.bl (decide (i<=j))) H:=rfl
theorem le_ss:rLeU (.str x) (.str y) H Q=Q (.bl (!decide (y.cps.toList<x.cps.toList))) H:=rfl
theorem gt_ii:rGtU (.int i) (.int j) H Q=Q (.bl (decide (j<i))) H:=rfl
theorem gt_ss:rGtU (.str x) (.str y) H Q=Q (.bl (decide (y.cps.toList<x.cps.toList))) H:=rfl
theorem ge_ii:rGeU (.int i) (.int j) H Q=Q (.bl (decide (j<=i))) H:=rfl
theorem ge_ss:rGeU (.str x) (.str y) H Q=Q (.bl (!decide (x.cps.toList<y.cps.toList))) H:=rfl
theorem in_xs:rInU K b u (.str x) H Q=∃ i,u=.str i/\Q (.bl (b.xor (!(Builtin.Str.occurrences x i 0 x.length 1).isEmpty))) H:=rfl
theorem in_xr:rInU K b u (.ref p) H Q=rInR K b u p H Q:=rfl
theorem sl_s:rSlU K (.str x) lo hi H Q=(x.length<=sizeLine/\Q (.str (cutS x lo hi)) H):=rfl
theorem sl_r:rSlU K (.ref p) lo hi H Q=rSlR K p lo hi H Q:=rfl
theorem len_s:rLenU K [.str x] H Q=(x.length<=sizeLine/\Q (.int x.length) H):=rfl
theorem len_r:rLenU K [.ref p] H Q=∃ n:Nat,LenR K H p n/\Q (.int n) H:=rfl
theorem arl:wQ K cm [.ref p] H Q=rListR K cm p H Q:=rfl
theorem all_r:rAllB cm [.ref p] H Q=∃ bs:List Bool,cm=true/\H p=some (.lst (bs.map V.bl))/\Q (.bl (bs.all id)) H:=rfl
theorem isi_t{n:String} : rIsi [u,.ty n] H Q=∃ T,kC H u=some T/\isTys.contains n=true/\Q (.bl (wR T n)) H:=rfl
theorem ord_s:rOrd [.str x] H Q=(x.length=1/\Q (.int (x.cps.getD 0 0:Nat)) H):=rfl
end
theorem forL{g:TG}(Pv:Nat->St->Hp->Prop)(h0:Pv 0 Y H)(hl:∀ i Y H,i<=xs.length->Pv i Y H->D9 K H a xs)(hs:∀ i x Y H,xs[i]?=some x->Pv i Y H->g x Y H fun σ2 H2=>tb { D with nx:=Pv (i+1),ct:=Pv (i+1),bk:=D.nx } σ2 H2)(hd:∀ Y H,Pv xs.length Y H->D.nx Y H):ForIt (aL K a) g tb D Y H:=alU Pv h0 hl hs hd
theorem forT{g:TG}(Pv:Nat->St->Hp->Prop)(h0:Pv 0 Y H)(hl:∀ i Y H,i<=xs.length->Pv i Y H->C6 K H a xs)(hs:∀ i x Y H,xs[i]?=some x->Pv i Y H->g x Y H fun σ2 H2=>tb { D with nx:=Pv (i+1),ct:=Pv (i+1),bk:=D.nx } σ2 H2)(hd:∀ Y H,Pv xs.length Y H->D.nx Y H):ForIt (dZ K a) g tb D Y H:=anQ Pv h0 hl hs hd
theorem forR{g:TG}(Pv:Nat->St->Hp->Prop)(h0:Pv 0 Y H)(hs:∀ i Y H,i<n->Pv i Y H->g (.int (lo+i)) Y H fun σ2 H2=>tb { D with nx:=Pv (i+1),ct:=Pv (i+1),bk:=D.nx } σ2 H2)(hd:∀ Y H,Pv n Y H->D.nx Y H):ForIt (o6 lo n) g tb D Y H:=aj2 Pv h0 hs hd
noncomputable def CW (n:Nat) (fr:St) (Pv:Nat->List V->Hp->Prop) (i:Nat) (ys:List V) (σ2:St) (H2:Hp):Prop:=i<=n/\ys.length<=i/\(∃ v,σ2=v::fr)/\Pv i ys H2
theorem CW.put{fr:St}{Pv:Nat->List V->Hp->Prop}{y:V}{o:Option V}(hi:i<n)(hy:ys.length<=i)(p:Pv (i+1) (ys++[y]) H):CW n fr Pv (i+1) (ys++[y]) (o::fr) H:=
 ⟨hi,by rw [C1,O4];lia,⟨_,rfl⟩,p⟩
theorem kG{fr:St}{Pv:Nat->List V->Hp->Prop}{o:Option V}(hi:i<n)(hy:ys.length<=i)(p:Pv (i+1) ys H):CW n fr Pv (i+1) ys (o::fr) H:=⟨hi,Nat.le_succ_of_le hy,⟨_,rfl⟩,p⟩
theorem compL(fr:St)(X6:compStart 1 ixs Y=none::fr)(Pv:Addr->Nat->List V->Hp->Prop)(h0:∀ D,H1 D=none->Pv D 0 [] (A0 H1 D (.lst [])))(hl:∀ D i ys H,H1 D=none->i<=xs.length->Pv D i ys H->D9 K H a xs)(hs:∀ D i x ys H,H1 D=none->i<xs.length->xs[i]?=some x->Pv D i ys H->H D=some (.lst ys)->ys.length<=i->c (some x::fr) H fun b H4=>
   if b=true then te (some x::fr) H4 fun y H5=>H5 D=some (.lst ys)/\ys.length<sizeLine/\CW xs.length fr (Pv D) (i+1) (ys++[y]) (some x::fr) (A0 H5 D (.lst (ys++[y])))
   else H4 D=some (.lst ys)/\CW xs.length fr (Pv D) (i+1) ys (some x::fr) H4)(hd:∀ D ys H,H1 D=none->Pv D xs.length ys H->H D=some (.lst ys)->ys.length<=xs.length->Q (.ref D) H):cH (aL K a) 1 ixs (gName 0) c te Y Q H1:=by
 intro D hD;refine ⟨xs.length,CW xs.length fr (Pv D),⟨F9 _,F9 _,⟨none,X6⟩,h0 D hD⟩,?_⟩;rintro i ys σ2 H2 ⟨hi,hy,⟨v,rfl⟩,p⟩ hDy;have q:=hl D i ys H2 hD hi p
 by_cases C9:i<xs.length
 .refine .inr ⟨C9,⟨xs,xs[i],q,by simp [C9]⟩,fun x H' y=>?_⟩;obtain ⟨e,y⟩:=y;subst e;exact hs D i x ys _ hD C9 (y xs q) p hDy hy
 .have e:i=xs.length:=by lia
  subst e;exact .inl ⟨⟨xs,q,B3 _⟩,hd D ys H2 hD p hDy hy⟩
theorem compT(fr:St)(X6:compStart 1 ixs Y=none::fr)(Pv:Addr->Nat->List V->Hp->Prop)(h0:∀ D,H1 D=none->Pv D 0 [] (A0 H1 D (.lst [])))(hl:∀ D i ys H,H1 D=none->i<=xs.length->Pv D i ys H->C6 K H a xs)(hs:∀ D i x ys H,H1 D=none->i<xs.length->xs[i]?=some x->Pv D i ys H->H D=some (.lst ys)->ys.length<=i->c (some x::fr) H fun b H4=>
   if b=true then te (some x::fr) H4 fun y H5=>H5 D=some (.lst ys)/\ys.length<sizeLine/\CW xs.length fr (Pv D) (i+1) (ys++[y]) (some x::fr) (A0 H5 D (.lst (ys++[y])))
   else H4 D=some (.lst ys)/\CW xs.length fr (Pv D) (i+1) ys (some x::fr) H4)(hd:∀ D ys H,H1 D=none->Pv D xs.length ys H->H D=some (.lst ys)->ys.length<=xs.length->Q (.ref D) H):cH (dZ K a) 1 ixs (gName 0) c te Y Q H1:=by
 intro D hD;refine ⟨xs.length,CW xs.length fr (Pv D),⟨F9 _,F9 _,⟨none,X6⟩,h0 D hD⟩,?_⟩;rintro i ys σ2 H2 ⟨hi,hy,⟨v,rfl⟩,p⟩ hDy;have q:=hl D i ys H2 hD hi p
 by_cases C9:i<xs.length
 .refine .inr ⟨C9,⟨xs,xs[i],q,by simp [C9]⟩,fun x H' y=>?_⟩;obtain ⟨e,y⟩:=y;subst e;exact hs D i x ys _ hD C9 (y xs q) p hDy hy
 .have e:i=xs.length:=by lia
  subst e;exact .inl ⟨⟨xs,q,B3 _⟩,hd D ys H2 hD p hDy hy⟩
theorem compS(fr:St)(X6:compStart 1 ixs Y=none::fr)(Pv:Addr->Nat->List V->Hp->Prop)(h0:∀ D,H1 D=none->Pv D 0 [] (A0 H1 D (.lst [])))(hs:∀ D i x ys H,H1 D=none->i<z.cps.size->z.cps.toList[i]?=some x->Pv D i ys H->H D=some (.lst ys)->ys.length<=i->c (some (.str ⟨#[x]⟩)::fr) H fun b H4=>
   if b=true then te (some (.str ⟨#[x]⟩)::fr) H4 fun y H5=>H5 D=some (.lst ys)/\ys.length<sizeLine/\CW z.cps.size fr (Pv D) (i+1) (ys++[y]) (some (.str ⟨#[x]⟩)::fr) (A0 H5 D (.lst (ys++[y])))
   else H4 D=some (.lst ys)/\CW z.cps.size fr (Pv D) (i+1) ys (some (.str ⟨#[x]⟩)::fr) H4)(hd:∀ D ys H,H1 D=none->Pv D z.cps.size ys H->H D=some (.lst ys)->ys.length<=z.cps.size->Q (.ref D) H):cH (kD z) 1 ixs (gName 0) c te Y Q H1:=by
 intro D hD;refine ⟨z.cps.size,CW z.cps.size fr (Pv D),⟨F9 _,F9 _,⟨none,X6⟩,h0 D hD⟩,?_⟩;rintro i ys σ2 H2 ⟨hi,hy,⟨v,rfl⟩,p⟩ hDy
 by_cases C9:i<z.cps.size
 .refine .inr ⟨C9,C9,fun x H' y=>?_⟩;obtain ⟨e,c,hc,rfl⟩:=y;subst e;exact hs D i c ys _ hD C9 hc p hDy hy
 .have e:i=z.cps.size:=by lia
  subst e;exact .inl ⟨B3 _,hd D ys H2 hD p hDy hy⟩
theorem compR(fr:St)(X6:compStart 1 ixs Y=none::fr)(Pv:Addr->Nat->List V->Hp->Prop)(h0:∀ D,H1 D=none->Pv D 0 [] (A0 H1 D (.lst [])))(hs:∀ D i ys H,H1 D=none->i<n->Pv D i ys H->H D=some (.lst ys)->ys.length<=i->c (some (.int (lo+i))::fr) H fun b H4=>
   if b=true then te (some (.int (lo+i))::fr) H4 fun y H5=>H5 D=some (.lst ys)/\ys.length<sizeLine/\CW n fr (Pv D) (i+1) (ys++[y]) (some (.int (lo+i))::fr) (A0 H5 D (.lst (ys++[y])))
   else H4 D=some (.lst ys)/\CW n fr (Pv D) (i+1) ys (some (.int (lo+i))::fr) H4)(hd:∀ D ys H,H1 D=none->Pv D n ys H->H D=some (.lst ys)->ys.length<=n->Q (.ref D) H):cH (o6 lo n) 1 ixs (gName 0) c te Y Q H1:=by
 intro D hD;refine ⟨n,CW n fr (Pv D),⟨F9 _,F9 _,⟨none,X6⟩,h0 D hD⟩,?_⟩;rintro i ys σ2 H2 ⟨hi,hy,⟨v,rfl⟩,p⟩ hDy
 by_cases C9:i<n
 .refine .inr ⟨C9,C9,fun x H' y=>?_⟩;obtain ⟨e,y⟩:=y;subst e y;exact hs D i ys _ hD C9 p hDy hy
 .have e:i=n:=by lia
  subst e;exact .inl ⟨B3 _,hd D ys H2 hD p hDy hy⟩
theorem D3{p q:Addr}{o u:HO}(h:H p=some o)(n:H q=none):A0 H q u p=some o:=by rw [A9 (cA h n)];exact h
theorem Same.new{q:Addr}{u:HO}(n:H q=none):Same H (A0 H q u):=fun _ _ h=>D3 h n
theorem Same.put{q:Addr}{u:HO}(s:Same H0 H)(n:H0 q=none):Same H0 (A0 H q u):=fun b o h=>by rw [A9 (cA h n)];exact s b o h
theorem cxK{CX:k6}{P:Program}{w:World}{base:Heap}{sc:Scope}{o:List Env}{s:Shared}{E:XK} : (cxOf CX P w K mg base N q sc f cd A o s H E).K=K:=rfl
theorem cxKn : X.nox.K=X.K:=rfl
theorem cxKb{sc:Scope} : (N3 X sc N' C zw zt fp pins).K=X.K:=rfl
theorem cxC{CX:k6}{P:Program}{w:World}{base:Heap}{sc:Scope}{o:List Env}{s:Shared}{E:XK} : (cxOf CX P w K mg base N q sc f cd A o s H E).calm=true:=rfl
theorem cxCn : X.nox.calm=X.calm:=rfl
theorem cxCb{sc:Scope} : (N3 X sc N' C zw zt fp pins).calm=X.calm:=rfl
theorem iteD{c A B:Prop}[Decidable c](h1:c->A)(h2:¬ c->B):if decide c=true then A else B:=by
 by_cases h:c
 .rw [decide_eq_true h,if_pos rfl];exact h1 h
 .rw [decide_eq_false h,if_neg N6];exact h2 h
theorem iteN{c A B:Prop}[Decidable c](h1:¬ c->A)(h2:c->B):if (!decide c)=true then A else B:=by
 by_cases h:c
 .rw [decide_eq_true h];exact iteF (h2 h)
 .rw [decide_eq_false h];exact iteT (h1 h)
theorem R7{p:Addr}(h:H p=some (.lst xs)):cE K "list" (.ref p) H:=.inl ⟨rfl,_,D9.of h⟩
theorem appOk{l:Addr}{y:V}(h:H l=some (.lst xs))(hz:xs.length<sizeLine)(q:Q .non (A0 H l (.lst (xs++[y])))):nF (.ref l) [y] H Q:=⟨l,xs,y,rfl,rfl,h,hz,q⟩
theorem K1(h:n<=1000000):n<sizeLine:=jO h (by decide)
theorem P7(h:n<=1000000):n<=sizeLine:=gE (K1 h)
noncomputable def signB (c:Nat):Bool:=decide (33<=c)&&decide (c<=126)&&decide (c≠37)
noncomputable def nG (z:Str):Bool:=decide (1<=z.length)&&decide (z.length<=2)&&z.cps.toList.all signB
theorem kH(h:nG z=true):W9 z=true/\1<=z.length/\z.length<=2:=by
 unfold nG at h;simp only [U4,decide_eq_true_eq] at h;refine ⟨?_,h.1.1,h.1.2⟩;unfold W9;rw [Array.all_eq_true_iff_forall_mem];intro c hc
 have:=List.all_eq_true.mp h.2 c (Array.mem_toList_iff.mpr hc)
 unfold signB at this;simp only [U4,decide_eq_true_eq] at this;simp only [decide_eq_true_eq];lia
noncomputable def SG:List Nat:=[33,34,35,36]++(aI 89).map (· + 38)
structure IsRows(H:Hp)(a:Addr)(rs:List Addr)(zss:List (List Str)):Prop where
 top:H a=some (.lst (rs.map V.ref))
 row:Paired (fun r (zs:List Str)=>H r=some (.lst (zs.map V.str))) rs zss
theorem IsRows.same{zss:List (List Str)}(R:IsRows H a rs zss)(s:Same H H'):IsRows H' a rs zss:=⟨s _ _ R.top,L0 R.row fun _ _ h=>s _ _ h⟩
theorem Paired.at{α β:Type}{F:α->β->Prop} : ∀ {l₁:List α} {l₂:List β} {i:Nat} {a:α},Paired F l₁ l₂->l₁[i]?=some a->∃ b,l₂[i]?=some b/\F a b
 | _,_,_,_,.nil,h=>by simp at h
 | _,_,0,_,.cons h t,e=>by simp at e;subst e;exact ⟨_,rfl,h⟩
 | _,_,i+1,_,.cons h t,e=>by
  obtain ⟨b,h1,h2⟩:=Paired.at (i:=i) t (by simpa using e);exact ⟨b,by simpa using h1,h2⟩
theorem nH:∀ zs:List Str,V9 (zs.map PyData.str)=0
 | []=>rfl
 | z::zs=>by rw [G1,V9,nH zs,U5];rfl
theorem cI:∀ zs:List Int,V9 (zs.map f9)=0
 | []=>rfl
 | z::zs=>by rw [G1,V9,cI zs,U5];rfl
theorem aiw(xs ys:List Str):O9 (.list (xs.map .str)) (.list (ys.map .str))=decide (xs=ys):=by rw [O9,wP]
noncomputable def dd (acc:List Str) (z:Str):List Str:=if z∈acc then acc else acc++[z]
noncomputable def G6 (acc zs:List Str):List Str:=zs.foldl dd acc
noncomputable def toldL (zss:List (List Str)):List Str:=zss.foldl G6 []
theorem eC(zs:List Str):∀ acc:List Str,(G6 acc zs).length<=acc.length+zs.length:=by
 induction zs with
 | nil=>intro acc;exact B3 _
 | cons z zs ih=>
  intro acc;have h1:=ih (dd acc z);have h2:(dd acc z).length<=acc.length+1:=by
   unfold dd
   split
   .lia
   .simp
  show (G6 (dd acc z) zs).length<=_;rw [L1];lia
theorem amt(h:zs[j]?=some z):G6 acc (zs.take (j+1))=dd (G6 acc (zs.take j)) z:=by
 rw [r0,h];simp [G6,aF]
theorem akv{zss:List (List Str)}(h:zss[i]?=some zs):toldL (zss.take (i+1))=G6 (toldL (zss.take i)) zs:=by
 rw [r0,h];simp [toldL,aF]
theorem rV(zss:List (List Str)):∀ acc,zss.foldl G6 acc=G6 acc zss.flatten:=by
 induction zss with
 | nil=>intro acc;rfl
 | cons zs zss ih=>
  intro acc;rw [List.foldl_cons,ih,gC];unfold G6;rw [aF]
theorem nI(zss:List (List Str)):(toldL zss).length<=zss.flatten.length:=by
 unfold toldL;rw [rV]
 have:=eC zss.flatten []
 simpa using this
noncomputable def kvOf (zs:List Str):List (C5×V):=zs.map fun z=>(Sum.inr z,V.bl true)
theorem wS(z:Str):∀ acc:List Str,((kvOf acc).any fun kv=>decide (kv.1=(Sum.inr z:C5)))=decide (z∈acc)
 | []=>by simp [kvOf]
 | y::acc=>by
  have ih:=wS z acc;unfold kvOf at ih ⊢
  rw [G1,bU,ih]
  by_cases e:y=z
  .subst e
   simp
  .have e1:decide ((Sum.inr y:C5)=Sum.inr z)=false:=decide_eq_false fun q=>e (Sum.inr.inj q)
   have e2:decide (z∈y::acc)=decide (z∈acc):=by
    by_cases h:z∈acc
    .rw [decide_eq_true h,decide_eq_true (M6 _ h)]
    .rw [decide_eq_false h,decide_eq_false];intro q
     rcases F6.mp q with q | q
     .exact e q.symm
     .exact h q
   rw [e2];simp only [e1,Bool.false_or]
theorem agE(acc:List Str)(z:Str):putK (kvOf acc) (Sum.inr z:C5) (.bl true)=kvOf (dd acc z):=by
 unfold putK dd;rw [wS]
 by_cases h:z∈acc
 .rw [decide_eq_true h,if_pos rfl,if_pos h];unfold kvOf;rw [Z7];refine jL fun y _=>?_
  show (if (Sum.inr y:C5)=Sum.inr z then ((Sum.inr y:C5),V.bl true) else (Sum.inr y,V.bl true))=_
  split <;> rfl
 .rw [decide_eq_false h,if_neg N6,if_neg h];unfold kvOf;rw [D8];rfl
theorem akw(acc:List Str):((kvOf acc).map fun kv=>kV kv.1)=acc.map V.str:=by
 unfold kvOf;rw [Z7];rfl
theorem wT(z:Str):∀ acc:List Str,eB (.str z) (acc.map V.str)=decide (z∈acc)
 | []=>by simp [eB]
 | y::acc=>by
  have ih:=wT z acc;unfold eB at ih ⊢
  rw [G1,bU,ih];show ((y==z) || decide (z∈acc))=_
  by_cases e:y=z
  .subst e
   simp
  .have e1:(y==z)=false:=by simpa using e
   rw [e1,Bool.false_or]
   by_cases h:z∈acc
   .rw [decide_eq_true h,decide_eq_true (M6 _ h)]
   .rw [decide_eq_false h,decide_eq_false];intro q
    rcases F6.mp q with q | q
    .exact e q.symm
    .exact h q
theorem agF:∀ acc:List Str,(acc.map V.str).all flatV=true
 | []=>rfl
 | _::acc=>by rw [G1,List.all_cons,agF acc];rfl
theorem G4{α β:Type}{f:α->β}{l:List α}{y:β}(h:(l.map f)[i]?=some y):∃ x,l[i]?=some x/\y=f x:=by
 rw [O7] at h;cases e:l[i]? with
 | none=>rw [e] at h;cases h
 | some x=>rw [e] at h;exact ⟨x,rfl,(Option.some.inj h).symm⟩
noncomputable def SS:Str:=Str.ofString "!\"#$&'()*+,-./0123456789:;<=>?@ABCDEFGHIJKLMNOPQRSTUVWXYZ[\\]^_`"++Str.ofString "abcdefghijklmnopqrstuvwxyz{|}~"
theorem drawn{i:Int}(hx:∀ x∈xs,∃ n,x=V.int n)(h0:0<=i)(h1:i<xs.length):∃ n,K5 xs i=some (V.int n):=by
 obtain ⟨v,h2,h3⟩:=kE h0 h1;obtain ⟨n,rfl⟩:=hx v h3;exact ⟨n,h2⟩
theorem wU{α β:Type}{F:α->β->Prop}{a:α}{b:β} : ∀ {l₁:List α} {l₂:List β},Paired F (l₁++[a]) (l₂++[b])->Paired F l₁ l₂/\F a b
 | [],[],.cons h _=>⟨.nil,h⟩
 | [],y::l₂,h=>by
  have:=Paired.length h
  simp at this
 | x::l₁,[],h=>by
  have:=Paired.length h
  simp at this
 | x::l₁,y::l₂,.cons h t=>by
  obtain ⟨h1,h2⟩:=wU (l₁:=l₁) (l₂:=l₂) t;exact ⟨.cons h h1,h2⟩
theorem kI{α β:Type}{F G:α->β->Prop} : ∀ {l₁:List α} {l₂:List β},Paired F l₁ l₂->(∀ a∈l₁,∀ b,F a b->G a b)->Paired G l₁ l₂
 | _,_,.nil,_=>.nil
 | _,_,.cons h t,k=>.cons (k _ O0 _ h) (kI t fun a ha b hb=>k a (M6 _ ha) b hb)
structure RowsAt(H0 H:Hp)(a:Addr)(rs:List Addr)(zss:List (List Str)):Prop where
 rows:IsRows H a rs zss
 nd:(a::rs).Nodup
 new:∀ r∈a::rs,H0 r=none
 same:Same H0 H
theorem RowsAt.live{zss:List (List Str)}(R:RowsAt H0 H a rs zss)(h:r∈a::rs):∃ o,H r=some o:=by
 rcases F6.mp h with h | h
 .subst h;exact ⟨_,R.rows.top⟩
 .obtain ⟨i,hi,rfl⟩:=Z3.mp h;obtain ⟨zs,_,h2⟩:=Paired.at R.rows.row (i:=i) (a:=rs[i]) (by simp [hi]);exact ⟨_,h2⟩
theorem wV(x:Str)(lo hi:Option Int):(cutS x lo hi).cps.toList=(x.cps.toList.drop (HT.sIx x.length 0 lo)).take (HT.sIx x.length x.length hi-HT.sIx x.length 0 lo):=by
 unfold cutS
 simp
theorem aoJ{p:Addr}(h:H p=some (.lst xs)):kC H (.ref p)=some "list":=by unfold kC;simp only [h]
structure QE(X:Cx)(e:Expr)(t:TE):Prop where
 out:PE X e t
structure QT(X:Cx)(e:Expr)(t:TT):Prop where
 out:PT X e t
structure QW(X:Cx)(e:Expr)(t:TT):Prop where
 out:PW X e t
structure QA(X:Cx)(es:List Expr)(t:TA):Prop where
 out:PA X es t
structure QS(X:Cx)(st:Stmt)(t:TS):Prop where
 out:PS X st t
structure QSs(X:Cx)(st:List Stmt)(t:TS):Prop where
 out:Z9 X st t
structure QG(X:Cx)(tg:Expr)(t:TG):Prop where
 out:PG X tg t
structure QGs(X:Cx)(tg:List Expr)(t:o5):Prop where
 out:mZ X tg t
structure QI(X:Cx)(tg iter:Expr)(wi:TI):Prop where
 out:PI X tg iter wi
structure QO(X:Cx)(e:Option Expr)(t:TO):Prop where
 out:PO X e t
structure QIfs(X:Cx)(ifs:List Expr)(t:TT):Prop where
 out:PIfs X ifs t
structure QOp(X:Cx)(f:Value->Value->Sem Value)(r:R2):Prop where
 out:L3 X f r
structure QUn(X:Cx)(f:Value->Sem Value)(r:V->Hp->VK->Prop):Prop where
 out:rG X f r
structure QCall(X:Cx)(f:Value)(r:List V->Hp->VK->Prop):Prop where
 out:CallR X f r
structure QMt(X:Cx)(id:String)(r:V->List V->Hp->VK->Prop):Prop where
 out:rM X id r
structure QIp(X:Cx)(op:Operator)(t:gH):Prop where
 out:vS X op t
structure QIn(X:Cx)(op:Operator)(t:V->V->Hp->VK->Prop):Prop where
 out:InOp X op t
section
variable {X:Cx} {a b c e o i value:Expr} {es:List Expr} {ta tb tc te to ti tv:TE} {tA tB':TT} {t u:TS} {tl:TA} {pos p pos' tpos:Pos} {rest:List Expr} {r r':R2} {x:Str}
theorem A4{i j} : QE X (.Constant (.int i) j pos) (tC (.int i)):=⟨anb⟩
theorem qe_bl{b j} : QE X (.Constant (.bool b) j pos) (tC (.bl b)):=⟨pe_bl⟩
theorem K6{x j} : QE X (.Constant (.str x) j pos) (tC (.str x)):=⟨aqk⟩
theorem qe_v(hN:X.N[n]?=some x)(hv:mY X.env.scope x)(hd:(x==("__debug__" : Str))=false)(U7:(x==("__classdict__" : Str))=false):QE X (.Name x pos) (tVar n):=⟨ana hN hv hd U7⟩
theorem qv(n:Nat)(hN:X.N[n]?=some x:=by rfl)(hv:mY X.env.scope x:=by first | exact Or.inl rfl | exact Or.inr (Or.inl rfl) | exact Or.inr (Or.inr rfl))(hd:(x==("__debug__" : Str))=false:=by decide)(U7:(x==("__classdict__" : Str))=false:=by decide):QE X (.Name x pos) (tVar n):=⟨ana hN hv hd U7⟩
theorem kJ{i:Int}(h:∃ t,X.mg x=some (.int i t))(hg:Gl X x:=by rfl)(hd:(x==("__debug__" : Str))=false:=by decide):QE X (.Name x p) (tC (.int i)):=⟨amf h hg hd⟩
theorem rW{a:Addr}(h:X.mg x=some (.ref a))(hg:Gl X x:=by rfl)(hd:(x==("__debug__" : Str))=false:=by decide):QE X (.Name x p) (tC (.ref a)):=⟨amg h hg hd⟩
theorem qe_ty{n:String}(hm:X.mg x=none)(hv:bootBuiltins x=some (.type n))(hg:Gl X x:=by rfl)(hn:x≠"__name__":=by decide)(hd:(x==("__debug__" : Str))=false:=by decide):QE X (.Name x p) (tC (.ty n)):=⟨anI hg hm hv rfl hn hd⟩
theorem qe_op{op:Operator}(ho:QOp X (binaryOp op) r)(ha:QE X a ta)(hb:QE X b tb):QE X (.BinOp a op b pos) (cC r ta tb):=⟨pe_op ho.out ha.out hb.out⟩
theorem qe_un{op:UnaryOp}{r:V->Hp->VK->Prop}(ho:QUn X (unaryOp op) r)(ha:QE X a ta):QE X (.UnaryOp op a pos) (vV r ta):=⟨pe_un ho.out ha.out⟩
theorem wW{op}(ha:QE X a ta):QE X (.BoolOp op [a] pos) ta:=⟨aqo ha.out⟩
theorem ank(ha:QE X a ta)(hb:QE X (.BoolOp .And (b::rest) pos) tb):QE X (.BoolOp .And (a::b::rest) pos) (tAndV ta tb):=⟨aqp ha.out hb.out⟩
theorem qe_or(ha:QE X a ta)(hb:QE X (.BoolOp .Or (b::rest) pos) tb):QE X (.BoolOp .Or (a::b::rest) pos) (tOrV ta tb):=⟨pe_or ha.out hb.out⟩
theorem gN{op:CmpOp}(ho:QOp X (compareOp op) r)(ha:QE X a ta)(hb:QE X b tb)(hm:behindInMarks op b=false:=by first | exact ane _ | rfl):QE X (.Compare a [op] [b] pos) (cC r ta tb):=⟨anS ho.out ha.out hb.out hm⟩
theorem amu{op op':CmpOp}(ho:QOp X (compareOp op) r)(w8:QOp X (compareOp op') r')(ha:QE X a ta)(hb:QE X b tb)(hc:QE X c tc)(hm:lastMarks [op,op'] [b,c]=false:=by with_unfolding_all rfl):QE X (.Compare a [op,op'] [b,c] pos) (vW r r' ta tb tc):=⟨alV ho.out w8.out ha.out hb.out hc.out hm⟩
theorem aix(hc:QT X c tA)(ha:QE X a ta)(hb:QE X b tb):QE X (.IfExp c a b pos) (vP tA ta tb):=⟨alO hc.out ha.out hb.out⟩
theorem A3:QA X [] tNil:=⟨aqI⟩
theorem qa_c(ha:QE X e te)(hr:QA X es tl)(h:M4 e=false:=by rfl):QA X (e::es) (tCons te tl):=⟨pa_c ha.out hr.out h⟩
theorem M7(h:QA X es tl):QE X (.List es pos) (tLst tl):=⟨aqK h.out⟩
theorem M9{x1}(h:QA X es tl):QE X (.Tuple es x1 pos) (tTup tl):=⟨aqJ h.out⟩
theorem gO:QE X (.Dict [] [] pos) wJ:=⟨al7⟩
theorem P9:QO X none wB:=⟨an2⟩
theorem K2(h:QE X e te):QO X (some e) (tPart te):=⟨an3 h.out⟩
theorem M5{lo hi:Option Expr}{tlo thi:TO}{p2:Pos}(he:QE X e te)(hl:QO X lo tlo)(hu:QO X hi thi)(hK:X.K=K:=by rfl):QE X (.Subscript e (.Slice lo hi none p2) pos) (wC (rSlU K) te tlo thi):=by subst hK;exact ⟨al3 p_sl he.out hl.out hu.out⟩
theorem g0(hu:X.A.units+1<cLine)(ho:QE X o to)(hi:QE X i ti)(hs:NoSl i:=by exact fun _ _=>rfl):QE X (.Subscript o i pos) (tDGet to ti):=⟨an9 hu ho.out hi.out hs⟩
theorem qe_ix(ha:QE X a ta)(hb:QE X b tb)(hs:akg b:=by exact fun _ _=>rfl)(hK:X.K=K:=by rfl):QE X (.Subscript a b pos) (cC (jW K) ta tb):=by subst hK;exact ⟨pe_ix aqO ha.out hb.out hs⟩
theorem qe_cB{id:String}{rc:List V->Hp->VK->Prop}(hc:QCall X (.builtin id) rc)(hm:X.mg x=none)(hv:bootBuiltins x=some (.builtin id))(ha:QA X (e::es) tl)(hg:Gl X x:=by rfl)(h1:M4 e=false:=by rfl)(h2:Y6 es=true:=by rfl)(hn:x≠"__name__":=by decide)(U8:(x==("__debug__" : Str))=false:=by decide) :
  QE X (.Call (.Name x p) (e::es) [] pos) (gJ rc tl):=⟨pe_cB hc.out hg hm hv ha.out h1 h2 hn U8⟩
theorem qe_cT{T:String}{rc:List V->Hp->VK->Prop}(hc:QCall X (.type T) rc)(hm:X.mg x=none)(hv:bootBuiltins x=some (.type T))(ha:QA X (e::es) tl)(hg:Gl X x:=by rfl)(h1:M4 e=false:=by rfl)(h2:Y6 es=true:=by rfl)(hn:x≠"__name__":=by decide)(U8:(x==("__debug__" : Str))=false:=by decide) :
  QE X (.Call (.Name x p) (e::es) [] pos) (gJ rc tl):=⟨pe_cT hc.out hg hm hv ha.out h1 h2 hn U8⟩
theorem qe_mB{T id:String}{rm:V->List V->Hp->VK->Prop}(pa:PlainAttrs T)(slot:Slot T name id)(X3:typeOf (.builtin id)=pure (.type "method_descriptor"))(hm:QMt X id rm)(ho:QE X o to)(ha:QA X (e::es) tl)(h1:M4 e=false:=by rfl)(h2:Y6 es=true:=by rfl)(h3:decide ((e::es).length<30)=true:=by rfl)(J8:attributeBase o name X.env (eval o X.env)=eval o X.env:=by rfl)(K0:(apos.endLine==cpos.line)=true:=by rfl)(hK:X.K=K:=by rfl):QE X (.Call (.Attribute o name apos) (e::es) [] cpos) (rN K T rm to tl):=by subst hK;exact ⟨pe_mB pa slot X3 hm.out ho.out ha.out h1 h2 h3 J8 K0⟩
theorem qe_m0{T id:String}{rm:V->List V->Hp->VK->Prop}(pa:PlainAttrs T)(slot:Slot T name id)(X3:typeOf (.builtin id)=pure (.type "method_descriptor"))(hm:QMt X id rm)(ho:QE X o to)(J8:attributeBase o name X.env (eval o X.env)=eval o X.env:=by rfl)(K0:(apos.endLine==cpos.line)=true:=by rfl)(hK:X.K=K:=by rfl):QE X (.Call (.Attribute o name apos) [] [] cpos) (tBM0 K T rm to):=by subst hK;exact ⟨aqQ pa slot X3 hm.out ho.out J8 K0⟩
theorem D1(G:FO X.prog X.w X.K X.mg X.base k x ps dvs sp)(hr:Room k X.A)(ha:QA X (e::es) tl)(hg:Gl X x:=by rfl)(h1:M4 e=false:=by rfl)(h2:Y6 es=true:=by rfl)(U8:(x==("__debug__" : Str))=false:=by decide) :
  QE X (.Call (.Name x p) (e::es) [] pos) (tCall sp dvs E0 tl):=⟨ame G hr ha.out hg h1 h2 U8⟩
theorem E5{op:CmpOp}(ho:QOp X (compareOp op) r)(ha:QE X a ta)(hb:QE X b tb)(hm:behindInMarks op b=false:=by first | exact ane _ | rfl):QT X (.Compare a [op] [b] pos) (tTest (cC r ta tb)):=⟨anT ho.out ha.out hb.out hm⟩
theorem arm(ha:QT X a tA):QT X (.UnaryOp .Not a pos) (tNot tA):=⟨aqn ha.out⟩
theorem eD(ha:QT X a tA):QW X (.BoolOp .And [a] pos) tA:=⟨anJ ha.out⟩
theorem wX(ha:QT X a tA):QW X (.BoolOp .Or [a] pos) tA:=⟨aql ha.out⟩
theorem aP(ha:QT X a tA)(hb:QW X (.BoolOp .And (b::rest) pos) tB'):QW X (.BoolOp .And (a::b::rest) pos) (tAnd tA tB'):=⟨aqm ha.out hb.out⟩
theorem qw_or(ha:QT X a tA)(hb:QW X (.BoolOp .Or (b::rest) pos) tB'):QW X (.BoolOp .Or (a::b::rest) pos) (vO tA tB'):=⟨pw_or ha.out hb.out⟩
theorem QW.pt(h:QW X a tA):QT X a tA:=⟨h.out.pt⟩
theorem Y7(ha:QE X a ta)(he:∀ whole,isTrue a X.env whole=(do let v <- whole;standAt a.pos;holding [v] (truthy v)):=by intro _;rfl)(hK:X.K=K:=by rfl):QT X a (tTru K ta):=by subst hK;exact ⟨aqW ha.out he⟩
variable {st:Stmt} {sts:List Stmt}
theorem G8:QSs X [] tNext:=⟨anK⟩
theorem A8(h:QS X st t):QSs X [st] t:=⟨anL h.out⟩
theorem A7(h:QS X st t)(h2:QSs X sts u):QSs X (st::sts) (tSeq t u):=⟨alP h.out h2.out⟩
theorem E7(he:QE X e te):QS X (.Return (some e) pos) (tRet te):=⟨aqq he.out⟩
theorem amv:QS X (.Break pos) vQ:=⟨alQ⟩
theorem rX:QS X st vR:=⟨alR⟩
theorem D0(hN:X.N.Nodup)(hi:X.N[n]?=some x)(hx:o4 X.env.scope x)(he:QE X e te)(hs:swapsWith e (some (.Name x pos')) pos.line X.env=pure false:=by rfl)(hf:X.fn x=true:=by rfl):QS X (.Assign [.Name x pos'] e pos) (tAsg te (gName n)):=⟨aqs hN hi hx he.out hs (.inl hf)⟩
theorem kK{f:Str}(ho:QE X o to)(hv:QE X value tv)(hs:swapsWith value (some (.Attribute o f pos')) pos.line X.env=pure false:=by rfl)(hK:X.K=K:=by rfl):QS X (.Assign [.Attribute o f pos'] value pos) (sFld K to tv f):=by subst hK;exact ⟨aqF ho.out hv.out hs⟩
theorem u8{f:Str}(ho:QE X o to)(hb:attributeBase o f X.env (eval o X.env)=eval o X.env:=by rfl)(hK:X.K=K:=by rfl):QE X (.Attribute o f pos) (tFld K to f):=by subst hK;exact ⟨aqE ho.out hb⟩
theorem b0(hu:X.A.units+1<cLine)(ho:QE X o to)(hi:QE X i ti)(hv:QE X value tv)(hs:swapsWith value (some (.Subscript o i pos')) pos.line X.env=pure false:=by rfl):QS X (.Assign [.Subscript o i pos'] value pos) (sDPut to ti tv):=⟨aoa hu ho.out hi.out hv.out hs⟩
theorem akz{op:Operator}{rd:V->V->Hp->VK->Prop}(hu:X.A.units+1<cLine)(ho:QE X o to)(hi:QE X i ti)(hv:QE X value tv)(hop:QIn X op rd)(ha:∀ ov iv new,augStore i ov iv new=(do holding [new,ov,iv] (setItem ov iv new);release [new,ov,iv] [];pure .next):=by exact fun _ _ _=>rfl) :
  QS X (.AugAssign (.Subscript o i tpos) op value pos) (sDAug to ti tv rd):=⟨aob hu ho.out hi.out hv.out hop.out ha⟩
theorem wY{op:Operator}{tip:gH}(hN:X.N.Nodup)(hi:X.N[n]?=some x)(hx:o4 X.env.scope x)(he:QE X e te)(ho:QIp X op tip)(hf:X.fn x=true:=by rfl):QS X (.AugAssign (.Name x pos') op e pos) (tAug n te tip):=⟨aqt hN hi hx he.out ho.out (.inl hf)⟩
theorem P3(he:QE X e te)(hs:swapsWith e none pos.line X.env=pure false:=by rfl):QS X (.Expr e pos) (tDrop te):=⟨anM he.out hs⟩
theorem qs_if{sa sb:List Stmt}(hc:QT X c tA)(ha:QSs X sa t)(hb:QSs X sb u):QS X (.If c sa sb pos) (tIfS tA t u):=⟨ps_if hc.out ha.out hb.out⟩
theorem rY{body:List Stmt}(hp:PassesOwn 'b' X.A X.env X.xe)(hc:QT X c tA)(hb:QSs X body t):QS X (.While c body [] pos) (rF tA t):=⟨alT hp hc.out hb.out⟩
theorem M0{body:List Stmt}{wi:TI}{g:TG}(hp:PassesOwn 'b' X.A X.env X.xe)(hi:QI X tg iter wi)(hg:QG X tg g)(hb:QSs X body t)(hc:X.calm=true:=by rfl)(hs:∀ x,foldedSetIterable iter X.env x=pure x:=by intro _;rfl):QS X (.For tg iter body [] pos) (tFor wi g t):=⟨aqw hp hc hi.out hg.out hb.out hs⟩
theorem D6(hN:X.N.Nodup)(hi:X.N[n]?=some x)(hx:o4 X.env.scope x)(hf:X.fn x=true\/X.env.scope.names.lookup x=some .local:=by first | exact .inl rfl | exact .inr rfl | assumption):QG X (.Name x pos) (gName n):=⟨anN hN hi hx hf⟩
theorem aQ:QGs X [] gNil:=⟨anO⟩
theorem R8{g:TG}{gs:o5}(h1:QG X e g)(h2:QGs X es gs)(hs:(assignEach (e::es) X.env).map (·.2)=assign e X.env::(assignEach es X.env).map (·.2):=by rfl):QGs X (e::es) (gCons g gs):=⟨alS h1.out h2.out hs⟩
theorem aR{gs:o5}(h:QGs X es gs)(hc:X.calm=true:=by rfl)(hn:(assignEach es X.env).length=n:=by rfl)(P6:(assignEach es X.env).findIdx? (·.1)=none:=by rfl)(hK:X.K=K:=by rfl):QG X (.Tuple es k pos) (gTup K n gs):=by subst hK;exact ⟨aqr hc h.out hn P6⟩
variable {tg:Expr}
theorem O2(h:QE X e te)(hK:X.K=K:=by rfl):QI X tg e (iList K te):=by subst hK;exact ⟨anP h.out⟩
theorem gP(h:QE X e te)(hK:X.K=K:=by rfl):QI X tg e (iTup K te):=by subst hK;exact ⟨aqv h.out⟩
theorem arn(h:QE X e te):QI X tg e (iStr te):=⟨aq2 h.out⟩
theorem qi_r1(hm:X.mg "range"=none)(ha:QA X [a] tl)(hg:Gl X "range":=by rfl)(h1:M4 a=false:=by rfl):QI X tg (.Call (.Name "range" p) [a] [] pos) (iRng1 tl):=⟨pi_r1 hg hm ha.out h1⟩
theorem qi_r2(hm:X.mg "range"=none)(ha:QA X [a,b] tl)(hg:Gl X "range":=by rfl)(h1:M4 a=false:=by rfl)(h2:M4 b=false:=by rfl):QI X tg (.Call (.Name "range" p) [a,b] [] pos) (iRng2 tl):=⟨pi_r2 hg hm ha.out h1 h2⟩
theorem b8:QIfs X [] tYes:=⟨ama⟩
theorem aS(h:QT X c tA):QIfs X [c] tA:=⟨amb h.out⟩
variable {sc:Scope} {N':List Str} {k:Nat} {ixs:List Nat} {ifs:List Expr} {wi:TI} {g:TG} {elt:Expr}
theorem b9(C:CompOk X.N X.env.scope.names sc N' k ixs)(hi:QI X tg e wi)(hg:∀ C zw zt fp pins,QG (N3 X sc N' C zw zt fp pins) tg g)(hc:∀ C zw zt fp pins,QIfs (N3 X sc N' C zw zt fp pins) ifs tA)(he:∀ C zw zt fp pins,QE (N3 X sc N' C zw zt fp pins) elt te)(L9:X.calm=true:=by rfl)(hs:∀ x,foldedSetIterable e X.env x=pure x:=by intro _;rfl):QE X (.ListComp elt [⟨tg,e,ifs,0⟩] sc pos) (tComp wi k ixs g tA te):=
 ⟨aod C L9 hi.out (fun _ _ _ _ _=>(hg _ _ _ _ _).out) (fun _ _ _ _ _=>(hc _ _ _ _ _).out) (fun _ _ _ _ _=>(he _ _ _ _ _).out) hs⟩
theorem cJ(hN:X.N.Nodup)(hiN:X.N[n]?=some x)(hx:o4 X.env.scope x)(C:CompOk X.N X.env.scope.names sc N' k ixs)(hi:QI X tg e wi)(hg:∀ C zw zt fp pins,QG (N3 X sc N' C zw zt fp pins) tg g)(hc:∀ C zw zt fp pins,QIfs (N3 X sc N' C zw zt fp pins) ifs tA)(he:∀ C zw zt fp pins,QE (N3 X sc N' C zw zt fp pins) elt te)(pA:swapsWith (.ListComp elt [⟨tg,e,ifs,0⟩] sc pos) (some (.Name x pos')) spos.line X.env=pure true:=by rfl)(L9:X.calm=true:=by rfl)(hf:X.fn x=true:=by rfl)(hs:∀ x,foldedSetIterable e X.env x=pure x:=by intro _;rfl) :
  QS X (.Assign [.Name x pos'] (.ListComp elt [⟨tg,e,ifs,0⟩] sc pos) spos) (tAsg (tComp wi k ixs g tA te) (gName n)):=
 ⟨ajm hN hiN hx C L9 hi.out (fun _ _ _ _ _=>(hg _ _ _ _ _).out) (fun _ _ _ _ _=>(hc _ _ _ _ _).out) (fun _ _ _ _ _=>(he _ _ _ _ _).out) pA (.inl hf) hs⟩
theorem q_add(hK:X.K=K:=by rfl):QOp X (binaryOp .Add) (rAddU K):=by subst hK;exact ⟨p_add⟩
theorem q_sub:QOp X (binaryOp .Sub) (aM fun i j=>.int (i-j)):=⟨p_sub⟩
theorem q_mul:QOp X (binaryOp .Mult) rMulU:=⟨p_mul⟩
theorem L7:QOp X (binaryOp .FloorDiv) (rI CDiv fun i j=>.int (i / j)):=⟨aqX⟩
theorem q_mod:QOp X (binaryOp .Mod) (rI (fun _ j=>0<j) fun i j=>.int (i % j)):=⟨p_mod⟩
theorem q_eq(hu:X.A.units+64<cLine)(hK:X.K=K:=by rfl):QOp X (compareOp .Eq) (rEqU K):=by subst hK;exact ⟨p_eq hu⟩
theorem q_ne(hu:X.A.units+64<cLine)(hK:X.K=K:=by rfl):QOp X (compareOp .NotEq) (rNeU K):=by subst hK;exact ⟨p_ne hu⟩
theorem q_lt:QOp X (compareOp .Lt) rLtU:=⟨p_lt⟩
theorem q_le:QOp X (compareOp .LtE) rLeU:=⟨p_le⟩
theorem q_gt:QOp X (compareOp .Gt) rGtU:=⟨p_gt⟩
theorem q_in(hu:X.A.units+64<cLine)(hK:X.K=K:=by rfl):QOp X (compareOp .In) (rInU K false):=by subst hK;exact ⟨p_in hu⟩
theorem wZ(hu:X.A.units+64<cLine)(hK:X.K=K:=by rfl):QOp X (compareOp .NotIn) (rInU K true):=by subst hK;exact ⟨aoe hu⟩
theorem q_neg:QUn X (unaryOp .USub) (rU fun i=>.int (-i)):=⟨aqC⟩
theorem q_len(hK:X.K=K:=by rfl):QCall X (.builtin "len") (rLenU K):=by subst hK;exact ⟨p_len⟩
theorem q_isi:QCall X (.builtin "isinstance") rIsi:=⟨amc⟩
theorem aT(hK:X.K=K:=by rfl)(pC:X.calm=calm:=by rfl):QCall X (.type "list") (wQ K calm):=by subst hK;subst pC;exact ⟨aq0⟩
theorem V5:QMt X "list.append" nF:=⟨fun pins s Y H x xs v us Q I rx rv h=>agw pins s Y H x xs v us Q I rx rv h⟩
theorem akB:QMt X "list.reverse" ais:=⟨fun pins s Y H x xs v us Q I rx rv h=>ajl pins s Y H x xs v us Q I rx rv h⟩
theorem xA:QIp X .Add (vT fun i j=>i+j):=⟨aqu⟩
theorem aro:QIn X .Add rAdd:=⟨aqG⟩
theorem arp:QIn X .Sub rSub:=⟨aqH⟩
end
noncomputable def ModD (P:Program) (w:World) (K:PySem.W.Frag) (a:Addr) (kvs:List (C5×V)):Prop:=(a==sysModules)=false/\∀ h:Heap,K.In h->∃ vs,KV kvs vs/\h.DictOf (Q3 P w) a vs
noncomputable abbrev ModE (w:World):List DictEntry->List (C5×V)->Prop:=Paired fun e kv=>keyIs kv.1 e.key=true/\e.hash=keyH w kv.1/\RelV kv.2 e.val
theorem ModE.pairs{P:Program}{w:World} : ∀ {es:List DictEntry} {kvs:List (C5×V)},ModE w es kvs->∃ vs:List (C5×Value),KV kvs vs/\Pairs (Q3 P w) es vs/\(∀ e∈es,∃ k,(Q3 P w).is k e.key=true/\e.hash=(Q3 P w).hash k)/\vs.map (·.1)=kvs.map (·.1)
 | _,_,.nil=>⟨[],.nil,.nil,fun e h=>(nomatch h),rfl⟩
 | e::es,kv::kvs,.cons ⟨h1,h2,h3⟩ t=>by
  obtain ⟨vs,a1,a2,a3,a4⟩:=ModE.pairs (P:=P) t;refine ⟨(kv.1,e.val)::vs,.cons ⟨rfl,h3⟩ a1,.cons h1 rfl a2,fun e' he=>?_,by rw [G1,G1,a4]⟩
  rcases F6.mp he with z | z
  .rw [z];exact ⟨kv.1,h1,h2⟩
  .exact a3 e' z
theorem aoK{P:Program}{w:World}{es:Array DictEntry}{ep:Nat}(l:K.lookup a=some { cls:=.type "dict",dict:=none,data:=.dict es ep,slots:=#[] })(hs:(a==sysModules)=false)(he:ModE w es.toList kvs)(hn:(kvs.map (·.1)).Nodup):ModD P w K a kvs:=by
 refine ⟨hs,fun h X=>?_⟩;obtain ⟨vs,a1,a2,a3,a4⟩:=he.pairs (P:=P);exact ⟨vs,a1,_,es,ep,X a _ l,⟨rfl,rfl,rfl⟩,rfl,fun e h=>a3 e (Array.mem_toList_iff.mpr h),a2,by rw [a4];exact hn⟩
noncomputable def rInM (neg:Bool) (a:Addr) (kvs:List (C5×V)):R2:=fun x y H Q=>y=.ref a/\∃ k,x=kV k/\Q (.bl (neg.xor (valV kvs k).isSome)) H
noncomputable def anl (a:Addr) (kvs:List (C5×V)) (to ti:TE):TE:=fun Y H Q=>to Y H fun x H1=>ti Y H1 fun y H2=>x=.ref a/\∃ k v,y=kV k/\valV kvs k=some v/\Q v H2
section
variable {X:Cx} {a:Addr} {kvs:List (C5×V)} {o i:Expr} {to ti:TE} {pos:Pos}
theorem q_inM(M:ModD X.prog X.w X.K a kvs):QOp X (compareOp .In) (rInM false a kvs):=⟨by
 sleep 0;obtain ⟨rfl,k,rfl,q⟩:=h;obtain rfl:u=Value.ref a:=ry;obtain ⟨hd,M⟩:=M;obtain ⟨vs,rel,dd⟩:=M s.heap I.kIn;refine wpAny_in_of (kV_is rx) hd dd.mapOf ?_;rw [<- (rel.val k).isSome_eq];exact ⟨.bl _,H,I.tok _,rfl,by simpa using q⟩⟩
theorem aiy(M:ModD X.prog X.w X.K a kvs)(ho:QE X o to)(hi:QE X i ti)(hs:NoSl i:=by exact fun _ _=>rfl):QE X (.Subscript o i pos) (anl a kvs to ti):=⟨by
 intro pins s Y H Q I h;refine akl PySem.F.slot_dict_getitem.lookup hs (C2 (ho.out pins s Y H _ I h) fun u s1 ⟨x,H1,I1,rx,q1⟩=>C2 (hi.out pins s1 Y H1 _ I1 q1) fun iv s2 ⟨y,H2,I2,ry,ex,k,v,ey,l,q2⟩=>?_);subst ex ey;obtain rfl:u=Value.ref a:=rx;obtain ⟨hd,M⟩:=M;obtain ⟨vs,rel,dd⟩:=M s2.heap I2.kIn;obtain ⟨w',hw,rw'⟩:=rJ (v:=v) (o:=valueAt vs k) (by rw [<- l];exact rel.val k);exact ⟨dd.typeIs,wpAny_getItem_of (kV_is ry) dd.mapOf hw ⟨v,H2,I2.tok _,rw',q2⟩⟩⟩
end
theorem anm{k:C5} : (V.str z=kV k)=(k=Sum.inr z):=by
 cases k with
 | inl i=>exact propext ⟨fun h=>(by cases h),fun h=>(by cases h)⟩
 | inr x=>exact propext ⟨fun h=>(by cases h;rfl),fun h=>(by cases h;rfl)⟩
theorem arq : rInM neg a kvs (.str z) (.ref b) H Q=(V.ref b=V.ref a/\Q (.bl (neg.xor (valV kvs (Sum.inr z)).isSome)) H):=by
 unfold rInM;simp only [anm,exists_eq_left]
theorem amw{to ti:TE} : anl a kvs to ti Y H Q=to Y H fun x H1=>ti Y H1 fun y H2=>x=.ref a/\∃ k v,y=kV k/\valV kvs k=some v/\Q v H2:=rfl
noncomputable def akD (c:TT) (tb:TS) (D:Ends) (Y:St) (H:Hp):Prop:=rF c tb D Y H
theorem amx : rF c tb D Y H=akD c tb D Y H:=rfl
theorem rZ(Pv:Nat->St->Hp->Prop)(m:Nat)(h0:Pv m Y H)(hs:∀ m Y H,Pv m Y H->c Y H fun b H1=>if b=true then ∃ N:St->Hp->Prop,(∀ σ' H',N σ' H'->∃ m',m'<m/\Pv m' σ' H')/\tb { D with nx:=N,ct:=N,bk:=D.nx } Y H1 else D.nx Y H1):akD c tb D Y H:=⟨Pv,⟨m,h0⟩,hs⟩
noncomputable def rTupR (K:PySem.W.Frag) (p:Addr) (H:Hp) (Q:VK):Prop:=∃ ys,(D9 K H p ys/\∀ l,H l=none->Q (.ref l) (A0 H l (.tup ys)))\/(C6 K H p ys/\Q (.ref p) H)
theorem rTupR.l{p:Addr}(h1:D9 K H p ys)(h:∀ l,H l=none->Q (.ref l) (A0 H l (.tup ys))):rTupR K p H Q:=⟨ys,.inl ⟨h1,h⟩⟩
theorem rTupR.t{p:Addr}(h1:C6 K H p ys)(h:Q (.ref p) H):rTupR K p H Q:=⟨ys,.inr ⟨h1,h⟩⟩
noncomputable def rTupU (K:PySem.W.Frag):List V->Hp->VK->Prop
 | [.ref p],H,Q=>rTupR K p H Q
 | _,_,_=>False
theorem tup_r{p:Addr} : rTupU K [.ref p] H Q=rTupR K p H Q:=rfl
theorem kL(hK:X.K=K:=by rfl):QCall X (.type "tuple") (rTupU K):=by
 subst hK;refine ⟨fun pins s Y H xs us Q I r h=>?_⟩
 match xs,h with
 | [.ref p],⟨ys,h⟩=>exact afR pins s Y H _ us Q I r ⟨p,ys,rfl,h⟩
noncomputable def rMin:List V->Hp->VK->Prop:=fun xs H Q=>∃ i j,xs=[.int i,.int j]/\Q (.int (if j<i then j else i)) H
noncomputable def rMax:List V->Hp->VK->Prop:=fun xs H Q=>∃ i j,xs=[.int i,.int j]/\Q (.int (if j > i then j else i)) H
theorem arr{i j:Int} : rMin [.int i,.int j] H Q=Q (.int (if j<i then j else i)) H:=propext ⟨fun ⟨_,_,e,q⟩=>(by cases e;exact q),fun q=>⟨_,_,rfl,q⟩⟩
theorem ars{i j:Int} : rMax [.int i,.int j] H Q=Q (.int (if j > i then j else i)) H:=propext ⟨fun ⟨_,_,e,q⟩=>(by cases e;exact q),fun q=>⟨_,_,rfl,q⟩⟩
noncomputable def rCalm (calm:Bool) (r:List V->Hp->VK->Prop):List V->Hp->VK->Prop:=fun xs H Q=>calm=true/\r xs H Q
theorem q_min(hc:X.calm=calm:=by rfl):QCall X (.builtin "min") (rCalm calm rMin):=⟨fun pins s Y H xs us Q I r h=>aj8 (hc.trans h.1) pins s Y H xs us Q I r h.2⟩
theorem aoL{r:List V->Hp->VK->Prop} : rCalm true r xs H Q=r xs H Q:=propext ⟨fun h=>h.2,fun h=>⟨rfl,h⟩⟩
end L2
namespace L2
open PySem PySem.Spec PyProof.Rows
open PySem.Builtin PySem.Builtin.Str PySem.StrLaws
noncomputable def tSeqM (t u:TS):TS:=fun D Y H=>∃ M:St->Hp->Prop,t { D with nx:=M } Y H/\∀ σ' H',M σ' H'->u D σ' H'
theorem g4{rest:List Stmt}{t u:TS}(h1:QS X st t)(h2:QSs X rest u):QSs X (st::rest) (tSeqM t u):=⟨by
 intro pins s Y H D I h;obtain ⟨M,h,hm⟩:=h;refine wpAny_execs_cons (C2 (h1.out pins s Y H { D with nx:=M } I h) fun f s1 q=>?_)
 cases f with
 | next=>
  obtain ⟨σ',H',I',q⟩:=q;exact h2.out pins s1 σ' H' D I' (hm _ _ q)
 | ret v=>exact q
 | brk=>exact q
 | cont=>exact q⟩
theorem cK{t u:TS}(M:St->Hp->Prop)(h:t { D with nx:=M } Y H)(h2:∀ σ' H',M σ' H'->u D σ' H'):tSeqM t u D Y H:=⟨M,h,h2⟩
theorem xB{p:Addr}(h:H p=some (.lst xs)):TruV K (.ref p) H (!xs.isEmpty):=.inl ⟨xs,.of h,rfl⟩
theorem o7(xs:List V)(k:Nat):cutV xs (some (k:Int)) none=xs.drop k:=by
 unfold cutV;have e1:HT.sIx xs.length 0 (some (k:Int))=min k xs.length:=by unfold HT.sIx;simp;lia
 have e2:HT.sIx xs.length xs.length none=xs.length:=rfl;rw [e1,e2,Z2 (by rw [U3];exact B3 _)]
 by_cases h:k<=xs.length
 .rw [bX h]
 .rw [Nat.min_eq_right 'a',mJ (B3 _),mJ 'a']
theorem eE(xs:List V)(k:Nat):cutV xs none (some (k:Int))=xs.take k:=by
 unfold cutV;have e1:HT.sIx xs.length xs.length (some (k:Int))=min k xs.length:=by unfold HT.sIx;simp;lia
 have e2:HT.sIx xs.length 0 none=0:=rfl;rw [e1,e2,List.drop_zero,Nat.sub_zero]
 by_cases h:k<=xs.length
 .rw [bX h]
 .rw [Nat.min_eq_right 'a',Z2 (B3 _),Z2 'a']
theorem xC(x:V)(xs:List V):cutV (x::xs) (some 1) none=xs:=o7 (x::xs) 1
theorem T9{α:Type}(x:α)(xs:List α):K5 (x::xs) 0=some x:=by
 have e:k7 (x::xs).length 0=some 0:=by unfold k7;rw [if_pos (Int.le_refl 0),if_pos (by rw [L1];lia)];rfl
 unfold K5;rw [e];rfl
theorem amy{o f:Expr}(hu:X.A.units+1<cLine)(ho:QE X o td)(he:QE X e ty)(hf:QE X f tx)(h1:M4 e=false:=by rfl)(h2:M4 f=false:=by rfl)(J8:attributeBase o "get" X.env (eval o X.env)=eval o X.env:=by rfl)(K0:(apos.endLine==cpos.line)=true:=by rfl):QE X (.Call (.Attribute o "get" apos) [e,f] [] cpos) (wM td ty tx):=
 ⟨al9 hu ho.out he.out hf.out ⟨J8,by rw [P1 h1,P1 h2];rfl,K0,by rw [P1 h1,P1 h2];rfl⟩⟩
theorem aoM{trs:List (TE×TE)} : tDisp trs Y H Q=∀ p,H p=none->jY trs Y (A0 H p (.dK [])) fun ps H2=>H2 p=some (.dK [])/\∃ kvs:List (C5×V),ps=kvs.map (fun kv=>(kV kv.1,kv.2))/\kvs.length<=15/\Q (.ref p) (A0 H2 p (.dK (Y5 [] kvs))):=rfl
theorem aoN{Q:List (V×V)->Hp->Prop} : jY [] Y H Q=Q [] H:=rfl
theorem amz{tk tv:TE}{r:List (TE×TE)}{Q:List (V×V)->Hp->Prop} : jY ((tk,tv)::r) Y H Q=tk Y H fun x H1=>tv Y H1 fun y H2=>jY r Y H2 fun ps H3=>Q ((x,y)::ps) H3:=rfl
theorem amA : wM td ty tx Y H Q=td Y H fun x H1=>∃ a,x=.ref a/\gL H1 a/\ty Y H1 fun y H2=>tx Y H2 fun z H3=>∃ o,DGet H3 a y o/\Q (o.getD z) H3:=rfl
theorem xD:∀ {zs:List Str} {us:List Value},Vals (zs.map V.str) us->StrsAre us zs
 | [],_,.nil=>.nil
 | z::zs,_::_,.cons ⟨t,h⟩ r=>by subst h;exact .cons _ _ (xD r)
noncomputable def rJoin (K:PySem.W.Frag):V->List V->Hp->VK->Prop:=fun x vs H Q=>∃ (z:Str) (b:Addr) (zs:List Str),x=.str z/\vs=[.ref b]/\(D9 K H b (zs.map V.str)\/C6 K H b (zs.map V.str))/\z.length<=16/\(zs.map (·.length)).sum+zs.length<=1048576/\Q (.str (Str.join z zs)) H
theorem ann(hK:X.K=K:=by rfl):QMt X "str.join" (rJoin K):=⟨by
 subst hK;intro pins s Y H x vs v us Q I rx rv h;obtain ⟨z,b,zs,rfl,rfl,hb,h1,h2,q⟩:=h;obtain ⟨t,rfl⟩:=rx;obtain ⟨u,rfl,ru⟩:=vals1 rv
 cases ru
 have e:Txt.join z zs=Str.join z zs:=glued_eq_join z zs
 rcases hb with hb | hb
 .obtain ⟨its,r',pl,hz⟩:=I.list hb;exact join_listW pl.isList (by simpa using xD r') h1 h2 fun t' k=>⟨.str (Str.join z zs),H,I.tok k,⟨t',by rw [e]⟩,q⟩
 .obtain ⟨its,r',pl,hz⟩:=I.tuple hb;exact join_tupleW pl (by simpa using xD r') h1 h2 fun t' k=>⟨.str (Str.join z zs),H,I.tok k,⟨t',by rw [e]⟩,q⟩⟩
end L2
namespace L2
open PySem PySem.Spec PyProof.Rows
theorem ac2:entryFor table "dict.update.loop"=some Builtin.«dict.update.loop»:=entryFor_of_tree (by kernel_rfl)
theorem sA:plainId "dict.update.loop"=true:=by decide +kernel
section
variable {prog:Program} {w:World} {A:Around} {R:Result->Shared->Prop} {I:Addr} {fp wr:List Addr} {G:Array GenState->Array GenState->Prop} {n:Nat} {P:Nat->Value->Prop} {St:Nat->Shared->Prop}
variable {K:Type} [DecidableEq K] {knd:KeyKind prog w K}
noncomputable def u9 (ks:Nat->K) (vl:Nat->Value):Nat->List (K×Value)
 | 0=>[]
 | i+1=>stored (u9 ks vl i) (ks i) (vl i)
theorem aeJ(ks:Nat->K)(vl:Nat->Value):∀ i,(u9 ks vl i).length<=i
 | 0=>B3 _
 | i+1=>by
  have h1:=aeJ ks vl i;have h2:(stored (u9 ks vl i) (ks i) (vl i)).length<=(u9 ks vl i).length+1:=by
   unfold stored
   split
   .rw [A6];lia
   .rw [C1];exact B3 _
  show (stored (u9 ks vl i) (ks i) (vl i)).length<=i+1;lia
theorem akE(W:WalksS prog w A.in1 I fp wr G n P St)(d:Addr)(bI:d∉fp)(tp:Nat->Addr)(ky vl:Nat->Value)(ks:Nat->K)(hP:∀ i v,P i v->v=.ref (tp i))(hk:∀ i,i<n->knd.is (ks i) (ky i)=true)(ht:∀ i,i<n->tp i≠d/\tp i∉wr)(hn:n<=sizeLine) :
  ∀ (k i:Nat) (s:Shared) (j:Int) (t:Tok),n-i=k->i<=n->St i s->(∀ i,i<n->IsTup s.heap (tp i) #[ky i,vl i])->s.heap.DictOf knd d (u9 ks vl i)->
   (∀ s',Moved (d::wr) G s s'->s'.heap.DictOf knd d (u9 ks vl n)->R (.ok (.ret .none)) s')->
   codeAny (model prog w) A (.builtin "dict.update.loop" ⟨[.ref d,.ref I,.int j t,.none],[]⟩) R s:=by
 have hdw:d∉wr:=fun h=>bI (W.sub _ h)
 have m8:∀ b∈wr,b∈d::wr:=fun b hb=>M6 _ hb
 intro k
 induction k with
 | zero=>
  intro i s j t hk' hi P6 hT hD hR;have K4:i=n:=by lia
  subst K4;refine codeAny_builtin ac2 ?_;rw [Around.under_plainId sA _];show wpAny _ A.in1 (pyNext (.ref I) >>= _) _ _ s;refine wpAny_bind (W.done s _ _ P6 fun s' hm=>?_);have e0:Builtin.Dict.addKeywords d []=pure ():=rfl;show wpAny _ A.in1 (Builtin.Dict.addKeywords d [] >>= fun _=>ret Value.none) _ _ s';rw [e0];refine wpAny_bind (wpAny_pure (wpAny_pure (hR s' (hm.mono m8) ?_)));obtain ⟨o,es,ep,ho,rest⟩:=hD;exact ⟨o,es,ep,hm.heap d _ hdw ho,rest⟩
 | succ k ih=>
  intro i s j t hk' hi P6 hT hD hR;have C9:i<n:=by lia
  refine codeAny_builtin ac2 ?_;rw [Around.under_plainId sA _];show wpAny _ A.in1 (pyNext (.ref I) >>= _) _ _ s;refine wpAny_bind (W.item i s _ _ C9 P6 fun v s' hv hst' hm=>?_);obtain rfl:=hP i v hv;have hD':s'.heap.DictOf knd d (u9 ks vl i):=by
   obtain ⟨o,es,ep,ho,rest⟩:=hD;exact ⟨o,es,ep,hm.heap d _ hdw ho,rest⟩
  have hT':∀ i,i<n->IsTup s'.heap (tp i) #[ky i,vl i]:=fun i hi=>by
   obtain ⟨o,ho,rest⟩:=hT i hi;exact ⟨o,hm.heap _ _ (ht i hi).2 ho,rest⟩
  have hTi:=hT' i C9;obtain ⟨o,ho,hoc,n0,uN⟩:=id hTi;refine wpAny_bind (wpAny_holding (wpAny_bind (wpAny_tryCatch ?_)));unfold Builtin.Dict.pairItems;refine wpAny_bind (wpAny_typeOf hTi.typeIs ?_);rw [if_pos (by decide)];refine wpAny_bind (wpAny_seqItems ho uN ?_);refine wpAny_pure ?_;show wpAny _ _ (holding [ky i,vl i] (dictSet d (ky i) (vl i))) _ _ s';have hl:=aeJ ks vl i;refine wpAny_holding (wpAny_dictSet_pairs (hk i C9) hD' (fun h' hD2 hsb=>?_) 'a');refine wpAny_pure ⟨plainId_quiet sA _,ih (i+1) _ (j+1) 0 'a' C9 (W.frame _ s' _ _ hst' (Nat.le_succ _) fun b hb o e=>?_) (fun i hi=>?_) hD2 fun s'' hm'' hD''=>?_⟩
  .rw [hsb.2 b (fun h:b=d=>bI (by rw [<- h];exact hb))];exact e
  .obtain ⟨o,ho,rest⟩:=hT' i hi;exact ⟨o,(hsb.2 _ (ht i hi).1).trans ho,rest⟩
  .refine hR s'' (Moved.trans W.gtrans ((hm.mono m8).then_heap (Nat.le_succ _) fun b o hb e=>?_) hm'') hD'';rw [hsb.2 b (fun h:b=d=>hb (by rw [h];exact O0))];exact e
end
theorem ajn:typeLookup (.type "list") "__getattribute__"=pure (some (.builtin "list.__getattribute__")):=by rw [typeLookup_type,builtinLookup_eq_fast];kernel_rfl
theorem agG:typeLookup (.type "list") "keys"=pure none:=by rw [typeLookup_type,builtinLookup_eq_fast];kernel_rfl
theorem agH:typeLookup (.type "list") "__getattr__"=pure none:=by rw [typeLookup_type,builtinLookup_eq_fast];kernel_rfl
theorem agI{w:World}{s:Shared}{l:Addr}{xs:Array Value}{Q:Option Value->Shared->Prop}(hx:s.heap.get? l=some o)(hc:o.cls=.type "list")(pD:o.data=.seq xs k)(hd:o.dict=none)(hA:A.handled=none)(h:∀ h' tk,(∀ b o,s.heap.get? b=some o->h'.get? b=some o)->Q none { s with heap:=h',toks:=tk }):wpAny (model prog w) A (getAttr? (.ref l) "keys") Q E s:=by
 obtain ⟨c,dct,dat,sl⟩:=o;simp only at hc pD hd;subst hc pD hd;obtain ⟨hp,g,d,tk,os⟩:=s;have hT:∀ tk',(⟨hp,g,d,tk',os⟩:Shared).TypeIs (.ref l) "list":=fun _=>⟨_,hx,rfl⟩
 have f4:=F.slot_list_getattribute.bind (.ref l);unfold getAttr? getAttrBy? getAttrBy;refine wpAny_bind (wpAny_mkText (wpAny_bind (wpAny_attempt (wpAny_holding (wpAny_bind (wpAny_typeOf (hT _) ?_))))));rw [ajn];refine wpAny_bind (wpAny_pure ?_);show wpAny _ _ (getAttrByItsOwn _ _ _ _ _ _) _ _ _;unfold getAttrByItsOwn;refine wpAny_bind (wpAny_pure ?_);refine wpAny_bind (wpAny_attempt (wpAny_holding ?_));show wpAny _ _ (boundAndCalled _ _ _) _ _ _;unfold boundAndCalled;rw [f4];refine wpAny_bind (wpAny_pure ?_);refine call_meets F.slot_list_getattribute (hT _) am_entry_list_getattribute (F.args_list_getattribute_2 _ _) (meets_getattribute_miss_list l xs k sl "keys" _ agG 'c' 'c') ⟨hx,hA,fun h' tk' e new=>?_⟩;obtain ⟨t',u',he⟩:=new.there;have hTe:∀ tk',(⟨h',g,d,tk',os⟩:Shared).TypeIs (.ref e) "AttributeError":=fun _=>⟨_,he,rfl⟩
 show wpAny _ _ (getattributeRaised _ _ _ _ _ _ _) _ _ _;unfold getattributeRaised;refine wpAny_bind (wpAny_isInstance (hTe _) sub_AttributeError ?_);rw [if_pos rfl];show wpAny _ _ (hookBehind _ _ >>= _) _ _ _;unfold hookBehind;rw [if_neg (by decide),agH];refine wpAny_bind (wpAny_pure ?_);unfold hookOrError attributeErrorLeaves;show wpAny _ _ (if (!false)=true then _ else _) _ _ _;rw [if_pos (by decide)];refine wpAny_bind (wpAny_throw ?_);show wpAny _ _ (isInstance _ _ >>= _) _ _ _;refine wpAny_bind (wpAny_isInstance (hTe _) sub_AttributeError ?_);rw [if_pos rfl];exact wpAny_pure (h h' tk' new.keeps)
section
variable {prog:Program} {w:World} {A:Around} {E:Value->Shared->Prop} {s:Shared} {K:Type} [DecidableEq K] {knd:KeyKind prog w K}
theorem aeK{l:Addr}{Q:Value->Shared->Prop}(hl:PlainL s.heap l items)(hA:A.handled=none)(tp:Nat->Addr)(ky vl:Nat->Value)(ks:Nat->K)(hP:∀ (i:Nat) (v:Value),items[i]?=some v->v=Value.ref (tp i))(hk:∀ i,i<items.size->knd.is (ks i) (ky i)=true)(hT:∀ i,i<items.size->IsTup s.heap (tp i) #[ky i,vl i])(hn:items.size<=sizeLine)(h:∀ h' tk,(∀ b o,s.heap.get? b=some o->h'.get? b=some o)->h'.DictOf knd s.heap.objs.size (u9 ks vl items.size)->Q (.ref s.heap.objs.size) { s with heap:=h',toks:=tk }) :
  wpAny (model prog w) A (call (.type "dict") [.ref l]) Q E s:=by
 refine callType_codes (Q₁:=fun obj zu=>obj=.ref s.heap.objs.size/\zu={ s with heap:=s.heap.push { cls:=.type "dict",data:=.dict #[] } }) F.kt_called_dict (F.kt_typeCall_dict_1 _) F.entry_dict_init (kt_code_dict_new _ ⟨rfl,rfl⟩) ?_;rintro obj zu ⟨rfl,rfl⟩;have Q8:(s.heap.push { cls:=.type "dict",data:=.dict #[] }).DictOf knd s.heap.objs.size []:=Heap.DictOf.new s.heap;obtain ⟨ol,nl,hol,hlc,hld,fC⟩:=hl;have iP:(s.heap.push { cls:=.type "dict",data:=.dict #[] }).get? l=some ol:=Heap.get?_push_of_some _ hol;have C9:l<s.heap.objs.size:=Heap.lt_size hol;refine ⟨Q8.typeIs,F.args_dict_init_2 _ _,?_⟩;unfold Builtin.«dict.__init__»;refine wpAny_bind ?_;unfold Builtin.Dict.selfAndRest;refine wpAny_bind (wpAny_notOrdered_dict Q8.typeIs ?_);show wpAny _ _ (pure (s.heap.objs.size,[Value.ref l])) _ _ _;refine wpAny_pure ?_;show wpAny _ _ (Builtin.Dict.updateFrom "dict.__init__" s.heap.objs.size (.ref l) [] .none) _ _ _;unfold Builtin.Dict.updateFrom;refine wpAny_bind (wpAny_typeOf (T:="list") ⟨_,iP,hlc⟩ ?_);rw [if_pos (by decide)];refine wpAny_bind (agI iP hlc fC hld (by simp [hA]) fun h2 tk2 keep2=>?_);rw [if_pos (show (none:Option Value).isNone=true from rfl)];refine wpAny_bind (wpAny_rule ?_);have U9:h2.IsList l items:=⟨ol,keep2 _ _ iP,hlc,nl,fC⟩
 refine wpAny_bind (wpAny_pyIter_list U9 ?_);obtain ⟨od,es,ep,uN,restd⟩:=Q8;have cW:s.heap.objs.size<h2.objs.size:=Heap.lt_size (keep2 _ _ uN);have N0:l≠h2.objs.size:=O8 (Nat.lt_trans C9 cW);have hh:A.in1.in1.handled=none:=by simp [hA]
 have bI:s.heap.objs.size∉[h2.objs.size,l]:=by
  simp only [F6,mQ,or_false,not_or];exact ⟨O8 cW,Nat.ne_of_gt C9⟩
 have lS:∀ i,i<items.size->tp i<s.heap.objs.size:=fun i hi=>by
  obtain ⟨o,ho,_⟩:=hT i hi;exact Heap.lt_size ho
 refine wpAny_pure ⟨plainId_quiet sA _,akE ((Walks.list hh _ l N0 items).toS) s.heap.objs.size bI tp ky vl ks hP hk (fun i hi=>⟨O8 (lS i hi),?_⟩) hn (items.size-0) 0 _ 0 0 'a' (F9 _) ⟨⟨_,Heap.get?_push_size _ rfl,rfl,rfl⟩,U9.push _⟩ (fun i hi=>?_) ?_ fun s' hm hD'=>?_⟩
 .simp only [F6,mQ,or_false];exact O8 (Nat.lt_trans (lS i hi) cW)
 .obtain ⟨o,ho,rest⟩:=hT i hi;exact ⟨o,Heap.get?_push_of_some _ (keep2 _ _ (Heap.get?_push_of_some _ ho)),rest⟩
 .exact ⟨od,es,ep,Heap.get?_push_of_some _ (keep2 _ _ uN),restd⟩
 .obtain ⟨h',g',d',tk',os'⟩:=s';have eg:g'=s.gens:=hm.gens;have ed:d'=s.drawn:=hm.drawn;have eo:os'=s.os:=hm.os;subst eg ed eo;refine ⟨rfl,h h' tk' (fun b o hb=>hm.heap b o ?_ (Heap.get?_push_of_some _ (keep2 _ _ (Heap.get?_push_of_some _ hb)))) hD'⟩;have pE:b<s.heap.objs.size:=Heap.lt_size hb;simp only [F6,mQ,or_false,not_or];exact ⟨O8 pE,O8 (Nat.lt_trans pE cW)⟩
end
noncomputable def art (K:PySem.W.Frag) (calm:Bool):List V->Hp->VK->Prop:=fun xs H Q=>calm=true/\∃ (p:Addr) (ts:List Addr) (kxs:List (C5×V)),xs=[.ref p]/\D9 K H p (ts.map V.ref)/\Paired (fun t kx=>C6 K H t [kV kx.1,kx.2]) ts kxs/\∀ d,H d=none->Q (.ref d) (A0 H d (.dK (Y5 [] kxs)))
theorem aiA{s:Shared}(I:Inv X pins Y H s):∀ {ts:List Addr} {kxs:List (C5×V)},Paired (fun t kx=>C6 X.K H t [kV kx.1,kx.2]) ts kxs->
  ∃ ws:List (Value×Value),Paired (fun t w=>IsTup s.heap t #[w.1,w.2]) ts ws/\Paired (fun (kx:C5×V) (w:Value×Value)=>keyIs kx.1 w.1=true/\RelV kx.2 w.2) kxs ws
 | _,_,.nil=>⟨[],.nil,.nil⟩
 | _,_,.cons h t=>by
  obtain ⟨ws,h1,h2⟩:=aiA I t;obtain ⟨its,r,ht,_⟩:=I.tuple h;obtain ⟨u1,u2,rfl,r1,r2⟩:=vals2 r;exact ⟨(u1,u2)::ws,.cons ht h1,.cons ⟨kV_is (P:=X.prog) (w:=X.w) r1,r2⟩ h2⟩
theorem akF:∀ {ts:List Addr} {us:List Value},Vals (ts.map V.ref) us->us=ts.map Value.ref
 | [],_,.nil=>rfl
 | t::ts,_::_,.cons h r=>by
  rw [G1,<- akF r];cases h;rfl
theorem akG(hK:X.K=K:=by rfl)(hc:X.calm=calm:=by rfl):QCall X (.type "dict") (art K calm):=⟨by
 subst hK;intro pins s Y H xs us Q I r h;obtain ⟨pC,p,ts,kxs,rfl,hp,hP,q⟩:=h;obtain ⟨u,rfl,rx⟩:=vals1 r
 cases rx
 obtain ⟨its,r',pl,hz⟩:=I.list hp;have pG:=akF r';obtain ⟨ws,h1,h2⟩:=aiA I hP;have pH:ts.length=ws.length:=Paired.length h1;have U9:kxs.length=ws.length:=Paired.length h2;rw [A6] at hz;have hsz:its.toArray.size=ts.length:=by rw [N5,pG,A6]
 have hrel:∀ i,i<=ts.length->KV (Y5 [] (kxs.take i)) (u9 (fun i=>(kxs.getD i (Sum.inl 0,.non)).1) (fun i=>(ws.getD i (.none,.none)).2) i):=by
  intro i
  induction i with
  | zero=>intro _;exact .nil
  | succ i ih=>
   intro hi;have cX:i<kxs.length:=by lia
   obtain ⟨w',hw,hr⟩:=Paired.at h2 (G5 cX);have e1:Y5 [] (kxs.take (i+1))=putK (Y5 [] (kxs.take i)) kxs[i].1 kxs[i].2:=by
    unfold Y5;rw [r0,G5 cX,Option.toList_some,aF];rfl
   rw [e1];show KV _ (stored _ (kxs.getD i (Sum.inl 0,.non)).1 (ws.getD i (.none,.none)).2);have e2:(kxs.getD i (Sum.inl 0,.non))=kxs[i]:=by rw [dO,G5 cX];rfl
   have e3:(ws.getD i (.none,.none))=w':=by rw [dO,hw];rfl
   rw [e2,e3];exact (ih 'a').put _ hr.2
 refine aeK (knd:=Q3 X.prog X.w) pl (I.ok.hd (hc.trans pC)) (fun i=>ts.getD i 0) (fun i=>(ws.getD i (.none,.none)).1) (fun i=>(ws.getD i (.none,.none)).2) (fun i=>(kxs.getD i (Sum.inl 0,.non)).1) (fun i v hv=>?_) (fun i hi=>?_) (fun i hi=>?_) 'a' fun h' tk keep hD=>?_
 .rw [<- Array.getElem?_toList,pG,O7] at hv;rw [dO];cases e:ts[i]? with
  | none=>rw [e] at hv;cases hv
  | some t=>rw [e] at hv;cases hv;rfl
 .obtain ⟨w',hw,hr⟩:=Paired.at h2 (G5 (show i<kxs.length by lia));have e2:(kxs.getD i (Sum.inl 0,.non))=kxs[i]'(by lia):=by rw [dO,G5 (show i<kxs.length by lia)];rfl
  have e3:(ws.getD i (.none,.none))=w':=by rw [dO,hw];rfl
  rw [e2,e3];exact hr.1
 .have hi':i<ts.length:=by lia
  obtain ⟨w',hw,hr⟩:=Paired.at h1 (G5 hi');have e3:(ws.getD i (.none,.none))=w':=by rw [dO,hw];rfl
  have e4:ts.getD i 0=ts[i]:=by rw [dO,G5 hi'];rfl
  rw [e3,e4];exact hr
 .have hD2:KV (Y5 [] kxs) (u9 (fun i=>(kxs.getD i (Sum.inl 0,.non)).1) (fun i=>(ws.getD i (.none,.none)).2) its.toArray.size):=by
   have:=hrel ts.length (B3 _)
   rw [Z2 'a'] at this;rw [hsz];exact this
  have B1:=adI kxs [];rw [Z5] at B1;exact ⟨.ref s.heap.objs.size,_,I.laid (t':=tk) keep (B3 _) (wI 'a' (beq_eq_false_iff_ne.mpr (Ne.symm (O8 I.big))) hD2 hD),rfl,q _ (I.hok.fresh (B3 _))⟩⟩
section
variable {X:Cx} {pins:List (Addr×Obj)} {Y:St} {H:Hp} {s:Shared} {h':Heap}
theorem Inv.turnNew{ch:List Addr}{T:Addr}{o:HO}(I:Inv X pins Y H s)(hf:∀ b∈ch,FpOk X pins H b)(k:∀ b u,b∉ch->s.heap.get? b=some u->h'.get? b=some u)(hT:s.heap.objs.size<=T)(new:ObjOk X.prog X.w (A0 H T o) h' T o):Inv X pins Y (A0 H T o) { s with heap:=h',toks:=t' }:=by
 have hn:H T=none:=I.hok.fresh hT;have nch:∀ b u,H b=some u->b∉ch:=fun b u e z=>by rw [(hf b z).1] at e;cases e
 have neT:∀ b u,s.heap.get? b=some u->b≠T:=fun b u e=>O8 (Q9 (Heap.lt_size e) hT)
 refine I.step (g':=s.gens) (d':=s.drawn) (ch:=ch) (fun b hb=>?_) (fun b u _ _ hc e _=>k b u hc e) (fun b u _ _ hc e _=>⟨u.slots,k b u hc e⟩) (fun b u _ e n=>by rw [A9 (neT b u e)];exact n)
  (fun b u hc e=>⟨u,k b u hc e⟩) (fun b xs e=>D3 e hn) (fun b ob u e=>D3 e hn) (fun b ps e=>⟨#[],by rw [D3 e hn];simp⟩) (fun m hm=>?_) (fun b u e=>?_) I.bare
 .obtain ⟨f0,f1,f2,f3,f4,f5⟩:=hf b hb;exact ⟨f3,f1,f4,f5⟩
 .obtain ⟨ob,es,ep,ho,r⟩:=hm;exact ⟨ob,es,ep,k _ ob (fun z=>(hf _ z).2.1 rfl) ho,r⟩
 .by_cases hb:b=T
  .subst hb;rw [A5] at e;cases e;exact new
  .rw [A9 hb] at e;refine (I.hok b u e).stay (fun c v hc q=>k c v ?_ q) (fun c q=>D3 q hn) fun c xs q=>D3 q hn
   rcases hc with z | z
   .rw [z];exact nch b u e
   .exact nch c _ z
end
theorem o8{a b:Nat}(h:a<b\/b<a):(show Addr from a)≠(show Addr from b):=fun e=>by
 have e:a=b:=e;lia
noncomputable def sB (l1 l2 : Addr) : It :=
  ⟨fun i H => ∃ xs ys x y, H l1 = some (.lst xs) /\ H l2 = some (.lst ys) /\ xs[i]? = some x /\ ys[i]? = some y,
   fun i H v H' => ∃ t xs ys x y, H l1 = some (.lst xs) /\ H l2 = some (.lst ys) /\ xs[i]? = some x /\ ys[i]? = some y /\ H t = none /\ v = .ref t /\ H' = A0 H t (.tup [x, y]),
   fun i H => ∃ xs ys, H l1 = some (.lst xs) /\ H l2 = some (.lst ys) /\ (xs.length <= i \/ ys.length <= i)⟩
theorem amB{P:Program}{w:World}{pos:Pos}(z TI TO i1 i2 l1 l2:Addr)(a1:TI≠z)(a2:TO≠z)(a3:i1≠z)(a4:i2≠z)(a5:TI≠TO)(a6:TI≠i1)(a7:TI≠i2)(a8:TO≠i1)(a9:TO≠i2)(a10:i1≠i2) :
  Turn P w K (.Tuple elts x1 pos) (sB l1 l2) [z,TO,i1,i2,TI] z (fun i h=>IsZip h z TI TO .none/\IsPair h TI (.ref i1) (.ref i2)/\(∃ a b,IsPair h TO a b)/\h.IsListIter i1 l1 i/\h.IsListIter i2 l2 i) where
 mem:=by simp
 obj:=fun i h ⟨hz,hTI,⟨a,b,hTO⟩,h1,h2⟩ c hc=>by
  have e:c=z\/c=TO\/c=i1\/c=i2\/c=TI:=by simpa using hc
  rcases e with rfl | rfl | rfl | rfl | rfl
  .exact ⟨_,hz,fun v q=>by cases q⟩
  .exact ⟨_,hTO,fun v q=>by cases q⟩
  .obtain ⟨o,e,c,d⟩:=h1;exact ⟨o,e,fun v z=>by rw [d] at z;cases z⟩
  .obtain ⟨o,e,c,d⟩:=h2;exact ⟨o,e,fun v z=>by rw [d] at z;cases z⟩
  .exact ⟨_,hTI,fun v q=>by cases q⟩
 keep:=fun i h h' ⟨hz,hTI,⟨a,b,hTO⟩,h1,h2⟩ k=>⟨k z (by simp) _ hz,k TI (by simp) _ hTI,⟨a,b,k TO (by simp) _ hTO⟩,h1.at fun o e=>k i1 (by simp) o e,h2.at fun o e=>k i2 (by simp) o e⟩
 item:=by
  intro X hP hw hK hc i pins s Y H E I hf ⟨hz,hTI,⟨a,b,hTO⟩,h1,h2⟩ hg;subst hP hw hK;obtain ⟨xs,ys,x,y,e1,e2,hx,hy⟩:=hg;obtain ⟨its1,i5,p1,_⟩:=I.list (D9.of (K:=X.K) e1);obtain ⟨its2,uO,p2,_⟩:=I.list (D9.of (K:=X.K) e2);obtain ⟨u1,C4,r1⟩:=i5.get hx;obtain ⟨u2,fD,r2⟩:=uO.get hy;have nl:∀ c∈[z,TO,i1,i2,TI],l1≠c/\l2≠c:=fun c hc=>⟨fun q=>(by rw [q,(hf c hc).1] at e1;cases e1),fun q=>(by rw [q,(hf c hc).1] at e2;cases e2)⟩
  have D:ZipApart z TI TO i1 i2 l1 l2:=⟨a1,a2,a3,a4,a5,a6,a7,a8,a9,a10,(nl z (by simp)).1,(nl TO (by simp)).1,(nl i1 (by simp)).1,(nl i2 (by simp)).1,(nl z (by simp)).2,(nl TO (by simp)).2,(nl i1 (by simp)).2,(nl i2 (by simp)).2⟩
  refine wpAny_pyNext_zip_item D hz hTI hTO h1 h2 p1.isList p2.isList (x:=u1) (y:=u2) (by simpa using C4) (by simpa using fD) fun h' b1 b2 b3 b4 b5 b6 b7=>⟨_,rfl,wpAny_letOwnedTupleGo_zip b1 fun h2' c1 c2=>?_⟩
  have O3:z<s.heap.objs.size:=Heap.lt_size hz;have up:∀ c o,c≠z->h'.get? c=some o->h2'.get? c=some o:=fun c o hc e=>(c2.2 c hc).trans e
  have nT:∀ c∈[z,TO,i1,i2,TI],c≠s.heap.objs.size:=fun c hc=>by
   have e:c=z\/c=TO\/c=i1\/c=i2\/c=TI:=by simpa using hc
   refine O8 ?_
   rcases e with rfl | rfl | rfl | rfl | rfl
   .exact Heap.lt_size hz
   .exact Heap.lt_size hTO
   .obtain ⟨o,e,_⟩:=h1;exact Heap.lt_size e
   .obtain ⟨o,e,_⟩:=h2;exact Heap.lt_size e
   .exact Heap.lt_size hTI
  have hT:=up _ _ (Nat.ne_of_gt O3) b5;refine ⟨.ref s.heap.objs.size,A0 H s.heap.objs.size (.tup [x,y]),I.turnNew (t':=s.toks) (ch:=[z,TO,i1,i2,TI]) hf (fun c u hc e=>?_) (B3 _) ⟨by show 2<=sizeLine;decide,[u1,u2],.cons r1 (.cons r2 .nil),?_⟩,rfl,⟨_,xs,ys,x,y,e1,e2,hx,hy,I.fresh,rfl,rfl⟩,
   ⟨c1,up _ _ a1 (b7 _ _ a1 a5 a6 a7 hTI),⟨_,_,up _ _ a2 b2⟩,b3.at fun o e=>up _ o a3 e,b4.at fun o e=>up _ o a4 e⟩,fun c hc=>by rw [A9 (nT c hc)];exact (hf c hc).1⟩
  .have q:c≠z/\c≠TO/\c≠i1/\c≠i2:=by
    refine ⟨fun q=>hc (by simp [q]),fun q=>hc (by simp [q]),fun q=>hc (by simp [q]),fun q=>hc (by simp [q])⟩
   exact up c u q.1 (b7 c u q.1 q.2.1 q.2.2.1 q.2.2.2 e)
  .exact ⟨_,hT,rfl,_,rfl⟩
 done:=by
  intro X hP hw hK hc i pins s Y H E I hf ⟨hz,hTI,⟨a,b,hTO⟩,h1,h2⟩ hg;subst hP hw hK;obtain ⟨xs,ys,e1,e2,e9⟩:=hg;obtain ⟨its1,i5,p1,_⟩:=I.list (D9.of (K:=X.K) e1);obtain ⟨its2,uO,p2,_⟩:=I.list (D9.of (K:=X.K) e2);have q1:=i5.length;have q2:=uO.length;have nl:∀ c∈[z,TO,i1,i2,TI],l1≠c/\l2≠c:=fun c hc=>⟨fun q=>(by rw [q,(hf c hc).1] at e1;cases e1),fun q=>(by rw [q,(hf c hc).1] at e2;cases e2)⟩
  have D:ZipApart z TI TO i1 i2 l1 l2:=⟨a1,a2,a3,a4,a5,a6,a7,a8,a9,a10,(nl z (by simp)).1,(nl TO (by simp)).1,(nl i1 (by simp)).1,(nl i2 (by simp)).1,(nl z (by simp)).2,(nl TO (by simp)).2,(nl i1 (by simp)).2,(nl i2 (by simp)).2⟩
  refine wpAny_pyNext_zip_end (I.ok.hd hc) D hz hTI hTO h1 h2 p1.isList p2.isList (by rcases e9 with q | q <;> simp <;> lia) fun h' k=>⟨rfl,?_⟩
  refine I.step (h':=h') (t':=s.toks) (g':=s.gens) (d':=s.drawn) (ch:=[z,TO,i1,i2,TI]) (fun b hb=>?_) (fun b u _ _ hc e _=>?_) (fun b u _ _ hc e _=>⟨u.slots,?_⟩) (fun b u _ e n=>n)
   (fun b u hc e=>⟨u,?_⟩) (fun b xs e=>e) (fun b ob u e=>e) (fun b ps e=>⟨#[],by rw [e];simp⟩) (fun m hm=>?_) (fun b u e=>?_) I.bare
  .obtain ⟨f0,f1,f2,f3,f4,f5⟩:=hf b hb;exact ⟨f3,f1,f4,f5⟩
  .exact k b u (fun q=>hc (by simp [q])) (fun q=>hc (by simp [q])) (fun q=>hc (by simp [q])) (fun q=>hc (by simp [q])) e
  .exact k b u (fun q=>hc (by simp [q])) (fun q=>hc (by simp [q])) (fun q=>hc (by simp [q])) (fun q=>hc (by simp [q])) e
  .exact k b u (fun q=>hc (by simp [q])) (fun q=>hc (by simp [q])) (fun q=>hc (by simp [q])) (fun q=>hc (by simp [q])) e
  .obtain ⟨ob,es,ep,ho,r⟩:=hm;have nL:∀ c∈[z,TO,i1,i2,TI],X.env.locals≠c:=fun c hc q=>(hf c hc).2.1 q.symm
   exact ⟨ob,es,ep,k _ ob (nL z (by simp)) (nL TO (by simp)) (nL i1 (by simp)) (nL i2 (by simp)) ho,r⟩
  .have nch:∀ b u,H b=some u->∀ c∈[z,TO,i1,i2,TI],b≠c:=fun b u e c hc q=>by rw [q,(hf c hc).1] at e;cases e
   refine (I.hok b u e).stay (fun c v hc q=>?_) (fun c q=>q) fun c xs q=>q
   have:∀ d∈[z,TO,i1,i2,TI],c≠d:=by
    rcases hc with z | z
    .rw [z];exact nch b u e
    .exact nch c _ z
   exact k c v (this z (by simp)) (this TO (by simp)) (this i1 (by simp)) (this i2 (by simp)) q
 self:=fun _ _ _ _ _ st h=>wpAny_pyIter_zip st.1 h
section
variable {X:Cx}
noncomputable def iZip (ta:TA):TI:=fun Y H R=>ta Y H fun vs H1=>∃ (l1 l2:Addr) (xs ys:List V),vs=[.ref l1,.ref l2]/\H1 l1=some (.lst xs)/\H1 l2=some (.lst ys)/\R (sB l1 l2) H1
theorem aru{a b:Expr}{p pos:Pos}(hg:Gl X "zip")(hm:X.mg "zip"=none)(ha:PA X [a,b] ta)(h1:M4 a=false:=by rfl)(h2:M4 b=false:=by rfl) :
  PI X (.Tuple elts x1 tpos) (.Call (.Name "zip" p) [a,b] [] pos) (iZip ta):=by
 intro pins s Y H R I h;refine Call_ (dY I hg hm boot_zip (PyProof.Rows.callWith_type1 (C2 (ha pos pins s Y H _ I h) fun us s1 ⟨vs,H1,I1,r1,q1⟩=>?_) (P1 h1) (by rw [P1 h2];rfl)));obtain ⟨l1,l2,xs,ys,rfl,e1,e2,q⟩:=q1;obtain ⟨u1,u2,rfl,pI,ru2⟩:=vals2 r1
 cases pI
 cases ru2
 obtain ⟨its1,i5,p1,_⟩:=I1.list (D9.of (K:=X.K) e1);obtain ⟨its2,uO,p2,_⟩:=I1.list (D9.of (K:=X.K) e2);refine call_zip_2 p1.isList p2.isList fun h' z1 z2 z3 z4 z5 z6 z7=>wpAny_pyIter_zip z1 ?_
 refine ⟨s1.heap.objs.size+4,[s1.heap.objs.size+4,s1.heap.objs.size+3,s1.heap.objs.size,s1.heap.objs.size+1,s1.heap.objs.size+2],_,_,H1,rfl,I1.kept (t':=s1.toks) z7,
  amB _ (s1.heap.objs.size+2) (s1.heap.objs.size+3) s1.heap.objs.size (s1.heap.objs.size+1) l1 l2 (o8 'a') (o8 'a') (o8 'a') (o8 'a') (o8 'a') (o8 'a') (o8 'a') (o8 'a') (o8 'a') (o8 'a'),⟨z1,z2,⟨_,_,z3⟩,z4,z5⟩,fun b hb=>?_,q⟩
 have f6:s1.heap.objs.size<=b:=by
  have e:b=s1.heap.objs.size+4\/b=s1.heap.objs.size+3\/b=s1.heap.objs.size\/b=s1.heap.objs.size+1\/b=s1.heap.objs.size+2:=by simpa using hb
  rcases e with rfl | rfl | rfl | rfl | rfl
  .exact bW _ _
  .exact bW _ _
  .exact B3 _
  .exact bW _ _
  .exact bW _ _
 exact I1.fpOk f6 (I1.hok.fresh f6)
theorem arv{a b:Expr}{p pos:Pos}(hm:X.mg "zip"=none)(ha:QA X [a,b] ta)(hg:Gl X "zip":=by rfl)(h1:M4 a=false:=by rfl)(h2:M4 b=false:=by rfl) :
  QI X (.Tuple elts x1 tpos) (.Call (.Name "zip" p) [a,b] [] pos) (iZip ta):=⟨aru hg hm ha.out h1 h2⟩
end
theorem aoO{R:It->Hp->Prop} : iZip ta Y H R=ta Y H fun vs H1=>∃ (l1 l2:Addr) (xs ys:List V),vs=[.ref l1,.ref l2]/\H1 l1=some (.lst xs)/\H1 l2=some (.lst ys)/\R (sB l1 l2) H1:=rfl
theorem forZ{l1 l2:Addr}{g:TG}(Pv:Nat->St->Hp->Prop)(h0:Pv 0 Y H)(hl:∀ i Y H,Pv i Y H->H l1=some (.lst xs)/\H l2=some (.lst ys))(hs:∀ i x y t Y H,xs[i]?=some x->ys[i]?=some y->Pv i Y H->H t=none->g (.ref t) Y (A0 H t (.tup [x,y])) fun σ2 H2=>tb { D with nx:=Pv (i+1),ct:=Pv (i+1),bk:=D.nx } σ2 H2)(hd:∀ Y H,Pv (min xs.length ys.length) Y H->D.nx Y H):ForIt (sB l1 l2) g tb D Y H:=by
 refine ⟨fun i m Y H=>m=min xs.length ys.length-i/\i<=min xs.length ys.length/\Pv i Y H,⟨min xs.length ys.length,by simp,F9 _,h0⟩,?_⟩;rintro i m Y H ⟨rfl,hi,p⟩;obtain ⟨e1,e2⟩:=hl i Y H p
 by_cases C9:i<min xs.length ys.length
 .refine .inr ⟨⟨xs,ys,xs[i]'(by lia),ys[i]'(by lia),e1,e2,by simp,by simp⟩,Pv (i+1),fun σ' H' p'=>⟨_,by lia,rfl,C9,p'⟩,fun v H' y=>?_⟩;obtain ⟨t,xs',ys',x,y',f1,f2,hx,hy,ht,rfl,rfl⟩:=y;rw [e1] at f1;cases f1;rw [e2] at f2;cases f2;exact hs i x y' t Y H hx hy p ht
 .have e:i=min xs.length ys.length:=by lia
  subst e;exact .inl ⟨⟨xs,ys,e1,e2,by lia⟩,hd Y H p⟩
noncomputable def Itr3 (lo st:Int) (n:Nat):It:=⟨fun i _=>i<n,fun i H x H'=>H'=H/\x=.int (lo+i*st),fun i _=>n<=i⟩
theorem agJ{α β:Type}(f:α->β):∀ (l:List α) (i:Nat),(l.eraseIdx i).map f=(l.map f).eraseIdx i
 | [],_=>rfl
 | _::_,0=>rfl
 | x::l,i+1=>by
  show f x::(l.eraseIdx i).map f=f x::(l.map f).eraseIdx i;rw [agJ f l i]
noncomputable def xE (td ty tx:TE):TE:=fun Y H Q=>td Y H fun x H1=>∃ a,x=.ref a/\gL H1 a/\ty Y H1 fun y H2=>tx Y H2 fun z H3=>∃ kvs k,H3 a=some (.dK kvs)/\kvs.length<sizeLine/\y=kV k/\
 (∀ v,valV kvs k=some v->Q v H3)/\(valV kvs k=none->Q z (A0 H3 a (.dK (putK kvs k z))))
section
variable {X:Cx} {o e f:Expr} {apos cpos:Pos} {td ty tx:TE} {pins:List (Addr×Obj)} {Y:St} {H:Hp} {s:Shared} {a:Addr} {A:Around} {E:Value->Shared->Prop}
theorem arw{k:C5}{z:V}{r:Value}{Q:Value->Shared->Prop}(I:Inv X pins Y H s)(e:H a=some (.dK kvs))(hl:kvs.length<sizeLine)(ry:RelV (kV k) u)(rz:RelV z r)(h1:∀ v w' s',valV kvs k=some v->Inv X pins Y H s'->RelV v w'->Q w' s')(h2:∀ s',valV kvs k=none->Inv X pins Y (A0 H a (.dK (putK kvs k z))) s'->Q r s') :
  wpAny 'b' A (call (.builtin "dict.setdefault") [.ref a,u,r]) Q E s:=by
 obtain ⟨hz,hd,vs,rel,dd⟩:=dk_of I.hok e;have B1:=rel.length;refine call_meetsIn PySem.F.slot_dict_setdefault dd.typeIs PySem.F.entry_dict_setdefault (PySem.F.args_dict_setdefault_3 _ _ _) (kt_meets_setdefault (Q3 X.prog X.w) a (kV_is ry) hd r) ⟨vs,dd,by lia,fun v hv=>?_,fun hn h' hm hs=>?_⟩
 .have:=rel.val k
  rw [hv] at this;cases iQ:valV kvs k with
  | none=>rw [iQ] at this;exact this.elim
  | some x=>rw [iQ] at this;exact h1 x v _ iQ (I.tok _) this
 .have:=rel.val k
  rw [hn] at this;cases iQ:valV kvs k with
  | some x=>rw [iQ] at this;exact this.elim
  | none=>
   have L5:(putK kvs k z).length<=sizeLine:=by rw [al5 z iQ,C1,O4];lia
   obtain ⟨ob,_,_,ho,_⟩:=id hm;exact h2 _ iQ (wH (t':=s.toks+1) I (by rw [e];exact trivial) hs ⟨ob,ho⟩ (wI L5 hd (rel.put k rz) hm))
theorem amC(ho:PE X o td)(he:PE X e ty)(hf:PE X f tx)(m:M2 X o "setdefault" apos e f cpos):PE X (.Call (.Attribute o "setdefault" apos) [e,f] [] cpos) (xE td ty tx):=by
 intro pins s Y H Q I h;refine wpAny_Call_method m.base m.few m.line PySem.F.plainAttrs_dict PySem.F.slot_dict_setdefault PySem.F.type_dict_setdefault (C2 (ho pins s Y H _ I h) fun u s1 ⟨x,H1,I1,rx,a,ex,d,q1⟩=>?_);subst ex;obtain rfl:u=Value.ref a:=rx;obtain ⟨t1,t2,_⟩:=wK I1 d;refine ⟨t1,t2,?_⟩;rw [m.trees];refine Calls.callWith_builtin rfl (Calls.evalArgs_plain (Calls.spliced_cons (C2 (he pins s1 Y H1 _ I1 q1) fun iv s2 ⟨y,H2,I2,ry,q2⟩=>
  Calls.spliced_cons (C2 (hf pins s2 Y H2 _ I2 q2) fun fv s3 ⟨z,H3,I3,rz,kvs,k,e3,hl,ey,q3,q4⟩=>Calls.spliced_nil ?_))))
 subst ey;exact arw I3 e3 hl ry rz (fun v w' s4 hv I4 rw'=>⟨v,H3,I4,rw',q3 v hv⟩) fun s4 hn I4=>⟨z,_,I4,rz,q4 hn⟩
theorem amD(ho:QE X o td)(he:QE X e ty)(hf:QE X f tx)(h1:M4 e=false:=by rfl)(h2:M4 f=false:=by rfl)(J8:attributeBase o "setdefault" X.env (eval o X.env)=eval o X.env:=by rfl)(K0:(apos.endLine==cpos.line)=true:=by rfl):QE X (.Call (.Attribute o "setdefault" apos) [e,f] [] cpos) (xE td ty tx):=
 ⟨amC ho.out he.out hf.out ⟨J8,by rw [P1 h1,P1 h2];rfl,K0,by rw [P1 h1,P1 h2];rfl⟩⟩
theorem amE:xE td ty tx Y H Q=td Y H fun x H1=>∃ a,x=.ref a/\gL H1 a/\ty Y H1 fun y H2=>tx Y H2 fun z H3=>∃ kvs k,H3 a=some (.dK kvs)/\kvs.length<sizeLine/\y=kV k/\
 (∀ v,valV kvs k=some v->Q v H3)/\(valV kvs k=none->Q z (A0 H3 a (.dK (putK kvs k z)))):=rfl
end
section
variable {X:Cx} {tg:Expr}
noncomputable def rsz (i j k:Int):Nat:=(if i<j then (j-i-1) / k+1 else 0).toNat
noncomputable def iRng3 (ta:TA):TI:=fun Y H R=>ta Y H fun vs H1=>∃ i j k:Int,vs=[.int i,.int j,.int k]/\(-(2 ^ 60)<=i/\i<2 ^ 60/\-(2 ^ 60)<=j/\j<2 ^ 60/\0<k/\k<1000000)/\R (Itr3 i k (rsz i j k)) H1
end
theorem amF{R:It->Hp->Prop} : iRng3 ta Y H R=ta Y H fun vs H1=>∃ i j k:Int,vs=[.int i,.int j,.int k]/\(-(2 ^ 60)<=i/\i<2 ^ 60/\-(2 ^ 60)<=j/\j<2 ^ 60/\0<k/\k<1000000)/\R (Itr3 i k (rsz i j k)) H1:=rfl
section
variable {X:Cx} {pins:List (Addr×Obj)} {Y:St} {H:Hp} {s:Shared} {a:Addr}
theorem Inv.swap{u u':HO}(I:Inv X pins Y H s)(e:H a=some u)(n1:∀ xs,u≠.tup xs)(n2:∀ x,u≠.own x)(n3:∀ ps,u≠.tbl ps)(n4:∀ o v,X.H₀ a≠some (.frz o v))(new:ObjOk X.prog X.w H s.heap a u'):Inv X pins Y (A0 H a u') s:=by
 have ne:∀ b,H b=none->b≠a:=fun b h q=>by rw [q,e] at h;cases h
 have own:∀ c x,H c=some (.own x)->A0 H a u' c=some (.own x):=fun c x q=>by
  rw [A9 (fun z=>by rw [z,e] at q;exact n2 x (Option.some.inj q))];exact q
 have tup:∀ c xs,H c=some (.tup xs)->A0 H a u' c=some (.tup xs):=fun c x q=>by
  rw [A9 (fun z=>by rw [z,e] at q;exact n1 x (Option.some.inj q))];exact q
 refine ⟨I.ok,I.os,I.bare,⟨I.base.keep,I.base.slot,fun b o h1 h2 h3=>?_,I.base.there,fun b xs h=>tup b xs (I.base.tups b xs h),fun b o v h=>?_,fun b ps h=>?_⟩,I.loc,I.cell,?_,fun x c h=>?_,fun p hp=>?_,fun b v h=>?_,I.len⟩
 .have:=I.base.free b o h1 h2 h3
  rw [A9 (ne b this)];exact this
 .rw [A9 (fun z=>n4 o v (by rw [<- z];exact h))];exact I.base.frzs b o v h
 .obtain ⟨m,q⟩:=I.base.tbls b ps h;exact ⟨m,by rw [A9 (fun z=>by rw [z,e] at q;exact n3 _ (Option.some.inj q))];exact q⟩
 .rw [A9 (ne _ I.free)];exact I.free
 .rw [A9 (ne _ (I.freeC x c h))];exact I.freeC x c h
 .obtain ⟨h1,h2,h3⟩:=I.pin p hp;exact ⟨h1,by rw [A9 (ne _ h2)];exact h2,h3⟩
 .by_cases hb:b=a
  .subst hb;rw [A5] at h;cases h;exact new.stay (fun _ _ _ q=>q) (fun c q=>own c _ q) fun c xs q=>tup c xs q
  .rw [A9 hb] at h;exact (I.hok b v h).stay (fun _ _ _ q=>q) (fun c q=>own c _ q) fun c xs q=>tup c xs q
end
noncomputable def cL (a:Addr) (o:Obj) (kvs:List (C5×V)):It:=
 ⟨fun i H=>H a=some (.frz o (.dK kvs))/\i<kvs.length,fun i H x H'=>H'=H/\∃ k v,kvs[i]?=some (k,v)/\x=kV k,fun i H=>H a=some (.frz o (.dK kvs))/\kvs.length<=i⟩
theorem agK{P:Program}{w:World}(a it:Addr)(o:Obj)(kvs:List (C5×V))(vs:List (C5×Value))(ep:Nat)(L4:∀ h:Heap,h.get? a=some o->h.DictAt (Q3 P w) a vs ep)(rel:KV kvs vs):Turn P w K tg (cL a o kvs) [it] it (fun i h=>h.IsKeyIter it a i vs.length ep) where
 mem:=by simp
 obj:=fun i h st b hb=>by
  have e:b=it:=by simpa using hb
  subst e;obtain ⟨o,e,c,d⟩:=st;exact ⟨o,e,fun v z=>by rw [d] at z;cases z⟩
 keep:=fun i h h' st k=>st.at fun o e=>k it (by simp) o e
 item:=by
  intro X hP hw hK hc i pins s Y H E I hf st hg;subst hP hw hK;sleep 1;obtain ⟨hga,pJ⟩:=hg;have hd:=L4 s.heap (I.hok a _ hga).1;have lT:i<vs.length:=by rw [<- rel.length];exact pJ
  refine wpAny_pyNext_dict_item st hd (k:=vs[i].1) (v:=vs[i].2) (by rw [G5 lT]) fun key h' m5 pK uP=>?_
  have I1:Inv X pins Y H { s with heap:=h' }:=I.turned (t':=s.toks) (fun b o hb e=>(uP.2 b hb).trans e) f0 f1 f3 f4 f5;obtain ⟨oi,e,c,d⟩:=id pK;have hk:kvs[i].1=vs[i].1:=by
   have:=congrArg (·[i]?) rel.keys
   simpa [pJ,lT] using this
  have rk:RelV (kV kvs[i].1) key:=by
   rw [hk];have m5:keyIs vs[i].1 key=true:=m5;generalize vs[i].1=kk at m5
   rcases t8 m5 with ⟨j,t,rfl,rfl⟩ | ⟨x,t,rfl,rfl⟩
   .exact ⟨t,rfl⟩
   .exact ⟨t,rfl⟩
  exact ⟨key,rfl,go_of (s:={ s with heap:=h' }) e c d (by decide) ⟨kV kvs[i].1,H,I1,rk,⟨rfl,kvs[i].1,kvs[i].2,by rw [G5 pJ],rfl⟩,pK,fun b hb=>(hf b hb).1⟩⟩
 done:=by
  intro X hP hw hK hc i pins s Y H E I hf st hg;subst hP hw hK;sleep 1;obtain ⟨hga,pJ⟩:=hg;have hd:=L4 s.heap (I.hok a _ hga).1;exact wpAny_pyNext_dict_end (I.ok.hd hc) st hd (by rw [List.getElem?_eq_none_iff,<- rel.length];exact pJ) fun h' eb=>⟨rfl,I.turned (t':=s.toks) (fun b o hb e=>eb b o hb e) f0 f1 f3 f4 f5⟩
 self:=fun _ _ _ _ _ st h=>wpAny_pyIter_keyiter st h
noncomputable def Ends.thaw (D:Ends) (a:Addr) (kvs:List (C5×V)):Ends where
 nx:=fun Y H=>(∃ o,H a=some (.frz o (.dK kvs)))/\D.nx Y (A0 H a (.dK kvs))
 rt:=fun v H=>(∃ o,H a=some (.frz o (.dK kvs)))/\D.rt v (A0 H a (.dK kvs))
noncomputable def tForD (tl:TE) (g:TG) (tb:TS):TS:=fun D Y H=>tl Y H fun x H1=>∃ a kvs,x=.ref a/\H1 a=some (.dK kvs)/\∀ o,ForIt (cL a o kvs) g tb (D.thaw a kvs) Y (A0 H1 a (.frz o (.dK kvs)))
theorem aoP{l:Expr}{body:List Stmt}{g:TG}{pos:Pos}(hp:PassesOwn 'b' X.A X.env X.xe)(hc:X.calm=true)(hl:PE X l tl)(hg:PG X tg g)(hb:Z9 X body tb)(hs:∀ x,foldedSetIterable l X.env x=pure x):PS X (.For tg l body [] pos) (tForD tl g tb):=by
 intro pins s Y H D I h;refine wpAny_For (C2 (hl pins s Y H _ I h) fun v s1 ⟨x,H1,I1,r1,q1⟩=>?_) hs;obtain ⟨a,kvs,rfl,e,q⟩:=q1
 cases r1
 obtain ⟨z,hd,vs,rel,dd⟩:=dk_of I1.hok e;obtain ⟨ep,L4⟩:=dd.dictAt;obtain ⟨o,es,ho,V7⟩:=id L4;refine wpAny_pyIter_dict hd L4 ?_;have NF:∀ o' v',X.H₀ a≠some (.frz o' v'):=fun o' v' z=>by
  have:=I1.base.frzs _ _ _ z
  rw [e] at this;cases this
 have I1':Inv X pins Y H1 { s1 with heap:=s1.heap.push { cls:=.type "dict_keyiterator",data:=.fields #[.ref a,.int 0 0,.int vs.length 0,.int ep 0] } }:=I1.kept (t':=s1.toks) fun b u e=>Heap.get?_push_of_some _ e
 have I2:=I1'.swap (u':=.frz o (.dK kvs)) e (fun _ q=>by cases q) (fun _ q=>by cases q) (fun _ q=>by cases q) NF ⟨Heap.get?_push_of_some _ ho,I1'.hok a _ e⟩;have thaw:∀ {σ':St} {H':Hp} {s':Shared},Inv X pins σ' H' s'->(∃ o,H' a=some (.frz o (.dK kvs)))->Inv X pins σ' (A0 H' a (.dK kvs)) s':=fun {σ' H' s'} I' ⟨o',e'⟩=>
  I'.swap e' (fun _ q=>by cases q) (fun _ q=>by cases q) (fun _ q=>by cases q) NF (I'.hok a _ e').2
 have T:Turn X.prog X.w X.K tg (cL a o kvs) [s1.heap.objs.size] s1.heap.objs.size (fun i h=>h.IsKeyIter s1.heap.objs.size a i vs.length ep):=agK a _ o kvs vs ep (fun h e=>⟨o,es,e,V7⟩) rel;have X6:A0 H1 a (.frz o (.dK kvs)) s1.heap.objs.size=none:=by rw [A9 (fun q=>by rw [<- q,I1.fresh] at e;cases e)];exact I1.fresh
 have f2:∀ b∈[s1.heap.objs.size],FpOk X pins (A0 H1 a (.frz o (.dK kvs))) b:=fun b hb=>by
  have e:b=s1.heap.objs.size:=by simpa using hb
  subst e;exact I1.fpOk (B3 _) X6
 obtain ⟨W,⟨m0,w0⟩,turn⟩:=q o;have stat:∀ {H':Hp},(∀ b∈[s1.heap.objs.size],H' b=none)->∀ b∈[s1.heap.objs.size],FpOk X pins H' b:=fun hn b hb=>⟨hn b hb,(f2 b hb).2⟩
 refine codeAny_forLoop_any (fun n s'=>∃ i σ' H',Inv X pins σ' H' s'/\s'.heap.IsKeyIter s1.heap.objs.size a i vs.length ep/\(∀ b∈[s1.heap.objs.size],H' b=none)/\W i n σ' H') ?_ m0 ⟨0,Y,_,I2,⟨_,Heap.get?_push_size _ rfl,rfl,rfl⟩,fun b hb=>(f2 b hb).1,w0⟩;rintro n s3 ⟨i,σ3,H3,I3,eY,oT,w3⟩
 rcases turn i n σ3 H3 w3 with ⟨stop,qn⟩ | ⟨go,N,hN,step⟩
 .refine wpAny_passesOwn hp (C2 (T.done X rfl rfl rfl hc i pins s3 σ3 H3 X.xe I3 (stat oT) eY stop) fun r s4 ⟨hr,I4⟩=>?_);subst hr;exact wpAny_execs_nil ⟨σ3,_,thaw I4 qn.1,qn.2⟩
 .refine wpAny_passesOwn hp (C2 (T.item X rfl rfl rfl hc i pins s3 σ3 H3 X.xe I3 (stat oT) eY go) fun r s4 ⟨u,hr,h4⟩=>?_);subst hr;refine wpAny_passesOwn hp (C2 h4 fun _ s5 ⟨x,H5,I5,r5,y5,iM,fr5⟩=>?_);have I5':=I5.pinned (stat fr5) (T.obj _ _ iM);refine wpAny_passesOwn hp (C2 (hg _ s5 σ3 H5 x u _ I5' r5 (step x H5 y5)) fun _ s6 ⟨σ6,H6,I6,q6⟩=>?_);refine wpAny_passesOwn hp (C2 (hb _ s6 σ6 H6 _ I6 q6) fun f s7 q7=>?_);have again:∀ {σ7:St} {H7:Hp},Inv X (pins++jT [s1.heap.objs.size] s5.heap) σ7 H7 s7->N σ7 H7->∃ m,m<n/\∃ i σ' H',Inv X pins σ' H' s7/\s7.heap.IsKeyIter s1.heap.objs.size a i vs.length ep/\(∀ b∈[s1.heap.objs.size],H' b=none)/\W i m σ' H':=fun {σ7 H7} I7 n7=>by
   obtain ⟨m',hm,w7⟩:=hN σ7 H7 n7;refine ⟨m',hm,i+1,σ7,H7,I7.unpinned,T.keep _ _ _ iM fun b hb o e=>(I7.pin (b,o) (V1 _ (V1 _ (jU hb e)))).1,fun b hb=>?_,w7⟩;obtain ⟨o,e,d⟩:=T.obj _ _ iM b hb;exact (I7.pin (b,o) (V1 _ (V1 _ (jU hb e)))).2.1
  cases f with
  | next=>obtain ⟨σ7,H7,I7,n7⟩:=q7;exact again I7 n7
  | cont=>obtain ⟨σ7,H7,I7,n7⟩:=q7;exact again I7 n7
  | brk=>obtain ⟨σ7,H7,I7,q7⟩:=q7;exact ⟨σ7,_,thaw I7.unpinned q7.1,q7.2⟩
  | ret v=>obtain ⟨x7,σ7,H7,I7,r7,q7⟩:=q7;exact ⟨x7,σ7,_,thaw I7.unpinned q7.1,r7,q7.2⟩
theorem xF{l:Expr}{body:List Stmt}{g:TG}{pos:Pos}(hp:PassesOwn 'b' X.A X.env X.xe)(hl:QE X l tl)(hg:QG X tg g)(hb:QSs X body tb)(hc:X.calm=true:=by rfl)(hs:∀ x,foldedSetIterable l X.env x=pure x:=by intro _;rfl):QS X (.For tg l body [] pos) (tForD tl g tb):=⟨aoP hp hc hl.out hg.out hb.out hs⟩
theorem aoQ{g:TG} : tForD tl g tb D Y H=tl Y H fun x H1=>∃ a kvs,x=.ref a/\H1 a=some (.dK kvs)/\∀ o,ForIt (cL a o kvs) g tb (D.thaw a kvs) Y (A0 H1 a (.frz o (.dK kvs))):=rfl
theorem forD{g:TG}(Pv:Nat->St->Hp->Prop)(h0:Pv 0 Y H)(hl:∀ i Y H,Pv i Y H->H a=some (.frz o (.dK kvs)))(hs:∀ i k v Y H,kvs[i]?=some (k,v)->Pv i Y H->g (kV k) Y H fun σ2 H2=>tb { D.thaw a kvs with nx:=Pv (i+1),ct:=Pv (i+1),bk:=(D.thaw a kvs).nx } σ2 H2)(hd:∀ Y H,Pv kvs.length Y H->D.nx Y (A0 H a (.dK kvs))):ForIt (cL a o kvs) g tb (D.thaw a kvs) Y H:=by
 refine ⟨fun i m Y H=>m=kvs.length-i/\i<=kvs.length/\Pv i Y H,⟨kvs.length,by simp,F9 _,h0⟩,?_⟩;rintro i m Y H ⟨rfl,hi,p⟩;have e:=hl i Y H p
 by_cases C9:i<kvs.length
 .refine .inr ⟨⟨e,C9⟩,Pv (i+1),fun σ' H' p'=>⟨_,by lia,rfl,C9,p'⟩,fun v H' y=>?_⟩;obtain ⟨rfl,k,v',hk,rfl⟩:=y;exact hs i k v' Y _ hk p
 .have e2:i=kvs.length:=by lia
  subst e2;exact .inl ⟨⟨e,B3 _⟩,⟨o,e⟩,hd Y H p⟩
noncomputable def V6 (row:List Str):List (Str×Str):=row.zip row.tail
noncomputable def edges (rows:List (List Str)):List (Str×Str):=rows.flatMap V6
noncomputable def G9 (E:List (Str×Str)) (p:Str):List Str:=(E.filter fun e=>decide (e.1=p)).map (·.2)
noncomputable def K3 (E:List (Str×Str)) (line:List Str) (q:Str):Nat:=E.countP fun e=>decide (e.2=q) && !decide (e.1∈line)
noncomputable def cntIn (E:List (Str×Str)) (S:List Str) (q:Str):Nat:=E.countP fun e=>decide (e.2=q)&&decide (e.1∈S)
theorem amG(E:List (Str×Str))(a b p:Str):G9 (E++[(a,b)]) p=if a=p then G9 E p++[b] else G9 E p:=by
 unfold G9;rw [Y1,D8]
 by_cases h:a=p
 .rw [if_pos h,aE (by simpa using h)];rfl
 .rw [if_neg h,bR (by simpa using h)];simp
theorem agL(E:List (Str×Str))(p q:Str):(G9 E p).count q=E.countP fun e=>decide (e.2=q)&&decide (e.1=p):=by
 induction E with
 | nil=>rfl
 | cons e E ih=>
  unfold G9 at ih ⊢
  by_cases h:e.1=p
  .rw [aE (by simpa using h),G1,List.count_cons,ih,dR]
   by_cases h2:e.2=q
   .simp [h,h2]
   .simp [h,h2]
  .rw [bR (by simpa using h),ih,dR];simp [h]
theorem ajo{E:List (Str×Str)}{S:List Str}(h:p∉S):cntIn E (S++[p]) q=cntIn E S q+(G9 E p).count q:=by
 rw [agL];unfold cntIn
 induction E with
 | nil=>rfl
 | cons e E ih=>
  rw [dR,dR,dR,ih]
  by_cases h2:e.2=q
  .by_cases h1:e.1=p
   .have:e.1∉S:=by rw [h1];exact h
    simp [h2,h1,h];lia
   .by_cases h3:e.1∈S
    .simp [h2,h1,h3];lia
    .simp [h2,h1,h3]
  .simp [h2]
theorem aiB{E:List (Str×Str)}(h:p∉line):K3 E line q=K3 E (line++[p]) q+(G9 E p).count q:=by
 rw [agL];unfold K3
 induction E with
 | nil=>rfl
 | cons e E ih=>
  rw [dR,dR,dR,ih]
  by_cases h2:e.2=q
  .by_cases h1:e.1=p
   .simp [h2,h1,h];lia
   .by_cases h3:e.1∈line
    .simp [h2,h1,h3]
    .simp [h2,h1,h3];lia
  .simp [h2]
theorem akI{E:List (Str×Str)}{S:List Str}(h:∀ e∈E,e.1∈S)(q:Str):cntIn E S q=K3 E [] q:=by
 unfold cntIn K3;refine List.countP_congr fun e he=>?_
 simp [h e he]
theorem akJ(E:List (Str×Str))(q:Str):cntIn E [] q=0:=by
 unfold cntIn
 simp
theorem cnt_zero{E:List (Str×Str)} : K3 E line q=0↔∀ e∈E,e.2=q->e.1∈line:=by
 unfold K3;rw [List.countP_eq_zero]
 constructor
 .intro h e he h2
  have:=h e he
  simpa [h2] using this
 .intro h e he
  by_cases h2:e.2=q
  .simp [h2,h e he h2]
  .simp [h2]
noncomputable def nextP (E:List (Str×Str)) (ts pre:List Str):Option Str:=(ts.filter fun p=>!decide (p∈pre)).find? fun p=>decide (K3 E pre p=0)
noncomputable def R9 (E:List (Str×Str)) (ts line:List Str):Prop:=∀ pre q post,line=pre++q::post->nextP E ts pre=some q
theorem R9.nil(E:List (Str×Str))(ts:List Str):R9 E ts []:=fun pre q post h=>by
 have:=congrArg Z8 h
 simp at this
theorem R9.snoc{E:List (Str×Str)}(r:R9 E ts line)(h:nextP E ts line=some p):R9 E ts (line++[p]):=fun pre q post e=>by
 rcases List.append_eq_append_iff.mp e with ⟨m,h1,h2⟩ | ⟨m,h1,h2⟩
 .cases m with
  | nil=>
   rw [G7] at h1;rw [bT] at h2
   cases (k4.inj h2).1
   rw [h1];exact h
  | cons a m=>
   have:=congrArg Z8 h2
   simp at this
 .cases m with
  | nil=>
   rw [G7] at h1;rw [bT] at h2
   cases (k4.inj h2).1
   rw [<- h1];exact h
  | cons a m=>
   rw [gD] at h2;have h3:=(k4.inj h2).1;exact r pre q m (by rw [h1,h3])
theorem gQ{E:List (Str×Str)}{pre:List Str}(h:nextP E ts pre=some q):q∈ts/\q∉pre/\K3 E pre q=0:=by
 have h1:=List.mem_of_find?_eq_some h;have h2:=List.find?_some h;rw [Q2] at h1;exact ⟨h1.1,by simpa using h1.2,by simpa using h2⟩
theorem R9.nodup{E:List (Str×Str)} : ∀ {line:List Str},R9 E ts line->line.Nodup:=by
 intro line r;rw [dN,fX];intro i j hi hj hij e;have e1:line=line.take j++line[j]::line.drop (j+1):=by rw [<- aD hj,V0]
 have:=(gQ (r _ _ _ e1)).2.1
 exact this (Z3.mpr ⟨i,by rw [E9];lia,by rw [List.getElem_take];exact e⟩)
theorem R9.sub{E:List (Str×Str)}(r:R9 E ts line)(h:q∈line):q∈ts:=by
 obtain ⟨pre,post,e⟩:=List.append_of_mem h;exact (gQ (r pre q post e)).1
theorem aiC{E:List (Str×Str)}{rank:Str->Nat}(hr:∀ e∈E,rank e.1<rank e.2)(hE:∀ e∈E,e.1∈ts)(hw:∃ p∈ts,p∉line):∃ q,nextP E ts line=some q:=by
 have key:∀ n p,rank p<=n->p∈ts->p∉line->∃ q∈ts,q∉line/\K3 E line q=0:=by
  intro n
  induction n with
  | zero=>
   intro p hp ht hl;refine ⟨p,ht,hl,cnt_zero.mpr fun e he h2=>?_⟩
   have:=hr e he
   rw [h2] at this;lia
  | succ n ih=>
   intro p hp ht hl
   by_cases hc:K3 E line p=0
   .exact ⟨p,ht,hl,hc⟩
   .have:∃ e∈E,e.2=p/\e.1∉line:=by
     refine Classical.byContradiction fun hn=>hc (cnt_zero.mpr fun e he h2=>Classical.byContradiction fun h3=>hn ⟨e,he,h2,h3⟩)
    obtain ⟨e,he,h2,h3⟩:=this;have h4:=hr e he;rw [h2] at h4;exact ih e.1 'a' (hE e he) h3
 obtain ⟨p,hp,hl⟩:=hw;obtain ⟨q,h1,h2,h3⟩:=key (rank p) p (B3 _) hp hl;cases h:nextP E ts line with
 | some q=>exact ⟨q,rfl⟩
 | none=>
  have:=List.find?_eq_none.mp h q (Q2.mpr ⟨h1,by simpa using h2⟩)
  simp [h3] at this
theorem sC{E:List (Str×Str)}(nd:ts.Nodup)(r:R9 E ts line)(h:∀ p∈ts,p∈line):line.length=ts.length:=
 ((List.perm_ext_iff_of_nodup r.nodup nd).mpr fun a=>⟨r.sub,h a⟩).length_eq
theorem afw(E:List (Str×Str))(pre:List Str):∀ ts:List Str,nextP E ts pre=ts.find? fun p=>!decide (p∈pre)&&decide (∀ e∈E,e.2=p->e.1∈pre)
 | []=>rfl
 | t::ts=>by
  have ih:=afw E pre ts;unfold nextP at ih ⊢
  by_cases h:t∈pre
  .rw [bR (by simpa using h),aG,ih];simp [h]
  .rw [aE (by simpa using h),aG,aG,ih]
   by_cases h2:K3 E pre t=0
   .have:=cnt_zero.mp h2
    rw [decide_eq_true h2,decide_eq_true this];simp [h]
   .have:¬ ∀ e∈E,e.2=t->e.1∈pre:=fun z=>h2 (cnt_zero.mpr z)
    rw [decide_eq_false h2,decide_eq_false this];simp [h]
theorem ajp{row:List Str}{e:Str×Str}(h:e∈V6 row):e.1∈row/\e.2∈row:=by
 unfold V6 at h;exact ⟨(List.of_mem_zip h).1,List.mem_of_mem_tail (List.of_mem_zip h).2⟩
theorem agM{rows:List (List Str)}{e:Str×Str}(h:e∈edges rows):e.1∈rows.flatten/\e.2∈rows.flatten:=by
 unfold edges at h;obtain ⟨row,h1,h2⟩:=j9.mp h
 have:=ajp h2
 exact ⟨List.mem_flatten.mpr ⟨row,h1,this.1⟩,List.mem_flatten.mpr ⟨row,h1,this.2⟩⟩
noncomputable def B5 (ts:List Str) (f:Str->V):List (C5×V):=ts.map fun t=>(Sum.inr t,f t)
theorem xG(f:Str->V)(z:Str):∀ ts:List Str,((B5 ts f).any fun kv=>decide (kv.1=(Sum.inr z:C5)))=decide (z∈ts)
 | []=>by simp [B5]
 | y::ts=>by
  have ih:=xG f z ts;unfold B5 at ih ⊢
  rw [G1,bU,ih]
  by_cases e:y=z
  .subst e
   simp
  .have e1:decide ((Sum.inr y:C5)=Sum.inr z)=false:=decide_eq_false fun q=>e (Sum.inr.inj q)
   rw [e1,Bool.false_or]
   by_cases h:z∈ts
   .rw [decide_eq_true h,decide_eq_true (M6 _ h)]
   .rw [decide_eq_false h,decide_eq_false];intro q
    rcases F6.mp q with q | q
    .exact e q.symm
    .exact h q
theorem Q4(f:Str->V)(z:Str):∀ ts:List Str,valV (B5 ts f) (Sum.inr z)=if z∈ts then some (f z) else none
 | []=>rfl
 | y::ts=>by
  have ih:=Q4 f z ts;unfold B5 at ih ⊢
  rw [G1]
  by_cases e:y=z
  .subst e;rw [rP rfl,if_pos O0]
  .rw [cF (fun q=>e (Sum.inr.inj q)),ih]
   by_cases h:z∈ts
   .rw [if_pos h,if_pos (M6 _ h)]
   .rw [if_neg h,if_neg];intro q
    rcases F6.mp q with q | q
    .exact e q.symm
    .exact h q
theorem nJ{f:Str->V}(v:V)(h:z∈ts):putK (B5 ts f) (Sum.inr z:C5) v=B5 ts fun t=>if t=z then v else f t:=by
 unfold putK;rw [xG,decide_eq_true h,if_pos rfl];unfold B5;rw [Z7];refine jL fun y _=>?_
 show (if (Sum.inr y:C5)=Sum.inr z then ((Sum.inr y:C5),v) else (Sum.inr y,f y))=((Sum.inr y:C5),if y=z then v else f y)
 by_cases e:y=z
 .rw [if_pos (by rw [e]),if_pos e]
 .rw [if_neg (fun q=>e (Sum.inr.inj q)),if_neg e]
theorem eF{f:Str->V}(v:V)(h:z∉ts):putK (B5 ts f) (Sum.inr z:C5) v=B5 (ts++[z]) fun t=>if t=z then v else f t:=by
 unfold putK;rw [xG,decide_eq_false h,if_neg N6];unfold B5;rw [D8]
 congr 1
 .refine jL fun y hy=>?_
  show _=((Sum.inr y:C5),if y=z then v else f y);rw [if_neg (fun e:y=z=>h (by rw [<- e];exact hy))]
 .simp
theorem W1{f g:Str->V}(h:∀ t∈ts,f t=g t):B5 ts f=B5 ts g:=by
 unfold B5;exact jL fun t ht=>by rw [h t ht]
theorem k9(f:Str->V)(ts:List Str):(B5 ts f).length=ts.length:=by unfold B5;rw [A6]
theorem sD{f:Str->V}{k:C5}{v:V}(h:(B5 ts f)[i]?=some (k,v)):∃ t,ts[i]?=some t/\k=Sum.inr t/\v=f t:=by
 unfold B5 at h;obtain ⟨t,h1,h2⟩:=G4 h;cases h2;exact ⟨t,h1,rfl,rfl⟩
theorem amH(f:Str->V)(ts:List Str):((B5 ts f).map fun kv=>kV kv.1)=ts.map V.str:=by
 unfold B5;rw [Z7];rfl
structure DL(H0 H:Hp)(ts:List Str)(ad:Str->Addr)(F:Str->List Str):Prop where
 row:∀ t∈ts,H (ad t)=some (.lst ((F t).map V.str))
 inj:∀ t∈ts,∀ u∈ts,ad t=ad u->t=u
 new:∀ t∈ts,H0 (ad t)=none
theorem DL.same{ad:Str->Addr}{F:Str->List Str}(x:DL H0 H ts ad F)(s:Same H H'):DL H0 H' ts ad F:=⟨fun t h=>s _ _ (x.row t h),x.inj,x.new⟩
theorem DL.app{ad:Str->Addr}{F:Str->List Str}(x:DL H0 H ts ad F)(hz:z∈ts)(ys:List Str):DL H0 (A0 H (ad z) (.lst (ys.map V.str))) ts ad fun t=>if t=z then ys else F t:=by
 refine ⟨fun t ht=>?_,x.inj,x.new⟩;show _=some (HO.lst ((if t=z then ys else F t).map V.str))
 by_cases e:t=z
 .subst e;rw [A5,if_pos rfl]
 .rw [A9 (fun q=>e (x.inj t ht z hz q)),if_neg e];exact x.row t ht
theorem DL.more{ad:Str->Addr}{F:Str->List Str}(x:DL H0 H ts ad F)(hz:z∉ts){p:Addr}(np:H p=none)(n0:H0 p=none):DL H0 (A0 H p (.lst [])) (ts++[z]) (fun t=>if t=z then p else ad t) fun t=>if t=z then [] else F t:=by
 have ne:∀ t∈ts,t≠z:=fun t ht e=>hz (by rw [<- e];exact ht)
 have nad:∀ t∈ts,ad t≠p:=fun t ht e=>by have:=x.row t ht;rw [e,np] at this;cases this
 have cases':∀ t,t∈ts++[z]->(t∈ts/\t≠z)\/t=z:=fun t ht=>by
  rcases E4.mp ht with h | h
  .exact .inl ⟨h,ne t h⟩
  .exact .inr (G2.mp h)
 refine ⟨fun t ht=>?_,fun t ht u hu e=>?_,fun t ht=>?_⟩
 .show A0 H p (.lst []) (if t=z then p else ad t)=some (.lst ((if t=z then [] else F t).map V.str))
  rcases cases' t ht with ⟨h1,h2⟩ | rfl
  .rw [if_neg h2,if_neg h2,A9 (nad t h1)];exact x.row t h1
  .rw [if_pos rfl,if_pos rfl,A5];rfl
 .have e:(if t=z then p else ad t)=(if u=z then p else ad u):=e
  rcases cases' t ht with ⟨h1,h2⟩ | rfl <;> rcases cases' u hu with ⟨h3,h4⟩ | rfl
  .rw [if_neg h2,if_neg h4] at e;exact x.inj t h1 u h3 e
  .rw [if_neg h2,if_pos rfl] at e;exact absurd e (nad t h1)
  .rw [if_pos rfl,if_neg h4] at e;exact absurd e.symm (nad u h3)
  .rfl
 .show H0 (if t=z then p else ad t)=none
  rcases cases' t ht with ⟨h1,h2⟩ | rfl
  .rw [if_neg h2];exact x.new t h1
  .rw [if_pos rfl];exact n0
theorem amI(h:acc.Nodup)(z:Str):(dd acc z).Nodup:=by
 unfold dd
 split
 .exact h
 .rename_i hz
  rw [bS];refine ⟨h,by simp,fun a ha b hb e=>hz ?_⟩;rw [<- G2.mp hb,<- e];exact ha
theorem xH:∀ {zs acc:List Str},acc.Nodup->(G6 acc zs).Nodup
 | [],_,h=>h
 | z::zs,acc,h=>xH (zs:=zs) (amI h z)
theorem kM(zss:List (List Str)):(toldL zss).Nodup:=by
 unfold toldL;rw [rV];exact xH (by simp)
theorem l8(x:Str):∀ (zs acc:List Str),x∈G6 acc zs↔x∈acc\/x∈zs
 | [],acc=>by simp [G6]
 | z::zs,acc=>by
  show x∈G6 (dd acc z) zs↔_;rw [l8 x zs];unfold dd
  by_cases h:z∈acc
  .rw [if_pos h,F6]
   constructor
   .rintro (h1 | h1)
    .exact .inl h1
    .exact .inr (.inr h1)
   .rintro (h1 | rfl | h1)
    .exact .inl h1
    .exact .inl h
    .exact .inr h1
  .rw [if_neg h,E4,G2,F6,or_assoc]
theorem xI(x:Str)(zss:List (List Str)):x∈toldL zss↔x∈zss.flatten:=by
 unfold toldL;rw [rV,l8]
 simp
theorem xJ{zss:List (List Str)}{e:Str×Str}(h:e∈edges zss):e.1∈toldL zss/\e.2∈toldL zss:=⟨(xI _ _).mpr (agM h).1,(xI _ _).mpr (agM h).2⟩
theorem ajq{zss:List (List Str)}(h:zss[i]?=some zs):edges (zss.take (i+1))=edges (zss.take i)++V6 zs:=by
 rw [r0,h];unfold edges;rw [Z4]
 simp
theorem xK(zs:List Str):(V6 zs).length=min zs.length zs.tail.length:=by unfold V6;rw [List.length_zip]
theorem agN{x:Str}(h1:zs[j]?=some x)(h2:zs.tail[j]?=some y):(V6 zs)[j]?=some (x,y):=by
 unfold V6;rw [List.getElem?_zip_eq_some];exact ⟨h1,h2⟩
theorem agO(zss:List (List Str)):(edges zss).length<=zss.flatten.length:=by
 induction zss with
 | nil=>exact B3 _
 | cons zs zss ih=>
  unfold edges at ih ⊢
  rw [r8,C1,gC,C1,xK];lia
theorem DL.put{ad:Str->Addr}{F:Str->List Str}(x:DL H0 H ts ad F){o u:HO}(hb:H0 b=some u):DL H0 (A0 H b o) ts ad F:=
 ⟨fun t ht=>by rw [A9 (fun e=>by have:=x.new t ht;rw [e,hb] at this;cases this)];exact x.row t ht,x.inj,x.new⟩
theorem DL.congr{ad:Str->Addr}{F G:Str->List Str}(x:DL H0 H ts ad F)(h:∀ t∈ts,F t=G t):DL H0 H ts ad G:=⟨fun t ht=>by rw [<- h t ht];exact x.row t ht,x.inj,x.new⟩
theorem DL.old{H00:Hp}{ad:Str->Addr}{F:Str->List Str}(x:DL H0 H ts ad F)(s:Same H00 H0):DL H00 H ts ad F:=⟨x.row,x.inj,fun t ht=>s.free (x.new t ht)⟩
theorem xL(nd:ts.Nodup)(h:ts[i]?=some z):z∉ts.take i:=fun hm=>by
 obtain ⟨hi,e⟩:=I0.mp h;obtain ⟨j,hj,e2⟩:=Z3.mp hm;rw [E9] at hj;rw [List.getElem_take] at e2
 have:=(dN.mp nd)
 rw [fX] at this;exact this j i 'a' hi 'a' (e2.trans e.symm)
theorem K7{α:Type}{ts:List α}{z:α}(h:ts[i]?=some z):ts.take (i+1)=ts.take i++[z]:=by rw [r0,h];rfl
noncomputable def SameBut (d:Addr) (H H':Hp):Prop:=∀ b o,b≠d->H b=some o->H' b=some o
theorem SameBut.put{d q:Addr}{u:HO}(s:SameBut d H0 H)(n:H0 q=none):SameBut d H0 (A0 H q u):=fun b o hb h=>by rw [A9 (cA h n)];exact s b o hb h
theorem SameBut.thaw{d:Addr}{u:HO}(s:SameBut d H0 H)(h:H0 d=some u):Same H0 (A0 H d u):=fun b o hb=>by
 by_cases e:b=d
 .subst e;rw [A5,<- hb,h]
 .rw [A9 e];exact s b o e hb
theorem RowsAt.grow{q:Addr}{zss:List (List Str)}(R:RowsAt H0 H a rs zss)(S:Same H H')(hq:H q=none)(cV:H' q=some (.lst (zs.map V.str))):RowsAt H0 (A0 H' a (.lst (rs.map V.ref++[V.ref q]))) a (rs++[q]) (zss++[zs]):=by
 have nq:∀ r∈a::rs,r≠q:=fun r hr z=>by
  obtain ⟨o,e⟩:=R.live hr;rw [z,hq] at e;cases e
 obtain ⟨na,_⟩:=V8.mp R.nd;refine ⟨⟨by rw [A5,D8];rfl,?_⟩,?_,?_,?_⟩
 .refine Paired.snoc (kI R.rows.row fun r hr zs h=>?_) ?_
  .rw [A9 (fun z:r=a=>na (by rw [<- z];exact hr))];exact S _ _ h
  .rw [A9 (nq a O0).symm];exact cV
 .show (a::(rs++[q])).Nodup;exact rQ R.nd fun h=>nq q h rfl
 .intro r hr
  rcases F6.mp hr with h | h
  .exact R.new r (by rw [h];exact O0)
  .rcases E4.mp h with h | h
   .exact R.new r (M6 _ h)
   .rw [G2.mp h];exact R.same.free hq
 .exact (R.same.trans S).put (R.new a O0)
noncomputable def spFol:Sp:=fun vs H Q _=>∃ (a:Addr) (rs:List Addr) (zss:List (List Str)),vs=[.ref a]/\IsRows H a rs zss/\zss.flatten.length<=100000/\
 ∀ (d:Addr) (ad:Str->Addr) (H':Hp),H d=none->Same H H'->H' d=some (.dK (B5 (toldL zss) fun t=>.ref (ad t)))->DL H H' (toldL zss) ad (G9 (edges zss))->Q (.ref d) H'
noncomputable def akK:Sp:=fun vs H Q _=>∃ (d:Addr) (ts:List Str) (ad:Str->Addr) (E:List (Str×Str)),vs=[.ref d]/\H d=some (.dK (B5 ts fun t=>.ref (ad t)))/\ts.Nodup/\ts.length<=100000/\E.length<=100000/\
 (∀ t∈ts,H (ad t)=some (.lst ((G9 E t).map V.str)))/\(∀ e∈E,e.1∈ts/\e.2∈ts)/\∀ c H',H c=none->Same H H'->H' c=some (.dK (B5 ts fun t=>.int (K3 E [] t:Nat)))->Q (.ref c) H'
theorem agP:∀ {l m:List Str},l.Nodup->(∀ x∈l,x∈m)->l.length<=m.length
 | [],_,_,_=>F9 _
 | x::l,m,nd,h=>by
  obtain ⟨n1,n2⟩:=V8.mp nd;have hx:=h x O0
  have:=agP (l:=l) (m:=m.erase x) n2 fun y hy=>(List.mem_erase_of_ne (fun e=>n1 (by rw [<- e];exact hy))).mpr (h y (M6 _ hy))
  rw [List.length_erase_of_mem hx] at this;have iR:=List.length_pos_of_mem hx;rw [L1];lia
noncomputable def akL:Sp:=fun vs H Q _=>∃ (a:Addr) (rs:List Addr) (zss:List (List Str)) (rank:Str->Nat),vs=[.ref a]/\IsRows H a rs zss/\zss.flatten.length<=100000/\(∀ e∈edges zss,rank e.1<rank e.2)/\
 ∀ (l:Addr) (line:List Str) (H':Hp),H l=none->Same H H'->H' l=some (.lst (line.map V.str))->R9 (edges zss) (toldL zss) line->(∀ p∈toldL zss,p∈line)->Q (.ref l) H'
theorem SameBut.free{d p:Addr}(s:SameBut d H0 H)(n:H p=none)(h:p≠d):H0 p=none:=by
 cases e:H0 p with
 | none=>rfl
 | some o=>
  have:=s p o h e
  rw [n] at this;cases this
theorem SameBut.same{d:Addr}(s:SameBut d H1 H2)(S:Same H H1)(n:H d=none):Same H H2:=fun b o h=>s b o (cA h n) (S b o h)
theorem ual(d:Addr)(H:Hp):SameBut d H H:=fun _ _ _ h=>h
theorem SameBut.at{d:Addr}{o:HO}(s:SameBut d H H'):SameBut d H (A0 H' d o):=fun b u hb h=>by rw [A9 hb];exact s b u hb h
noncomputable def one (c:Nat):Str:=⟨#[c]⟩
noncomputable def L8 (c d:Nat):Str:=⟨#[c,d]⟩
section
variable {X:Cx}
noncomputable def rAnyB (calm:Bool):List V->Hp->VK->Prop
 | [.ref p],H,Q=>∃ bs:List Bool,calm=true/\H p=some (.lst (bs.map V.bl))/\Q (.bl (bs.any id)) H
 | _,_,_=>False
theorem p_any:CallR X (.builtin "any") (rAnyB X.calm):=by
 intro pins s Y H xs us Q I r h
 match xs,h with
 | [.ref p],⟨bs,hc,hp,q⟩=>
  obtain ⟨u,rfl,rx⟩:=vals1 r
  cases rx
  obtain ⟨z,its,n,rv,hl,e⟩:=I.lstM hp;have pl:s.heap.IsList p its.toArray:=⟨_,e,rfl,n,rfl⟩
  refine call_any_walk (wpAny_pyIter_list pl ?_);have N0:p≠s.heap.objs.size:=O8 (Heap.lt_size e);have hk:∀ b o,s.heap.get? b=some o->(s.heap.push { cls:=.type "list_iterator",data:=.fields #[.ref p,.int 0 0] }).get? b=some o:=fun b o q=>Heap.get?_push_of_some _ q
  refine ⟨_,_,_,_,_,_,fun i=>(bs[i]?).getD false,rfl,Walks.list (show X.A.in1.handled=none from I.ok.hd hc) s.heap.objs.size p N0 its.toArray,⟨⟨_,Heap.get?_push_size _ rfl,rfl,rfl⟩,pl.at fun o q=>hk p o q⟩,?_,?_⟩
  .intro i v s' Q' E' hv hq;have uJ:its[i]?=some v:=by simpa using hv
   have hb:∃ b,bs[i]?=some b/\v=.bool b:=by
    cases eb:(bs.map V.bl)[i]? with
    | none=>
     have:=rv.none_of eb
     rw [uJ] at this
     cases this
    | some y=>
     obtain ⟨u,h1,h2⟩:=rv.get eb;rw [uJ] at h1;cases h1;rw [O7] at eb;cases e3:bs[i]? with
     | none=>rw [e3] at eb;cases eb
     | some b=>
      rw [e3] at eb;cases eb;exact ⟨b,rfl,h2⟩
   obtain ⟨b,e1,rfl⟩:=hb;have hq:Q' ((bs[i]?).getD false) s':=hq;rw [e1] at hq;exact wpAny_truthy_bool hq
  .intro h' tk pL;have e1:(aI its.toArray.size).any (fun i=>(bs[i]?).getD false)=bs.any id:=by
    have B1:its.toArray.size=bs.length:=by
     rw [N5,<- hl,A6]
    rw [B1,aK,mS,mS]
    constructor
    .rintro ⟨i,hi,hb⟩;rw [dS] at hi;rw [G5 hi,Option.getD_some] at hb;exact ⟨bs[i],List.getElem_mem hi,hb⟩
    .rintro ⟨b,hb,ht⟩;obtain ⟨i,hi,rfl⟩:=Z3.mp hb;exact ⟨i,dS.mpr hi,by rw [G5 hi];exact ht⟩
   rw [e1];have I1:Inv X pins Y H { s with heap:=h',toks:=tk }:=I.kept fun b o q=>pL b o (by
    intro hm
    have:b=s.heap.objs.size:=by simpa using hm
    rw [this] at q;exact absurd (Heap.lt_size q) (aJ _)) (hk b o q)
   exact ⟨.bl _,H,I1,rfl,q⟩
theorem q_any(pC:X.calm=calm:=by rfl):QCall X (.builtin "any") (rAnyB calm):=by subst pC;exact ⟨p_any⟩
theorem any_r{cm:Bool}{p:Addr} : rAnyB cm [.ref p] H Q=∃ bs:List Bool,cm=true/\H p=some (.lst (bs.map V.bl))/\Q (.bl (bs.any id)) H:=rfl
end
noncomputable def nK (l : Addr) : It :=
  ⟨fun i H => ∃ xs x, H l = some (.lst xs) /\ xs[i]? = some x,
   fun i H v H' => ∃ t xs x, H l = some (.lst xs) /\ xs[i]? = some x /\ H t = none /\ v = .ref t /\ H' = A0 H t (.tup [.int i, x]),
   fun i H => ∃ xs, H l = some (.lst xs) /\ xs.length <= i⟩
theorem akM{P:Program}{w:World}{pos:Pos}(e it l:Addr)(N0:e≠it) :
  Turn P w K (.Tuple elts x1 pos) (nK l) [e,it] e (fun i h=>(∃ old,IsEnum h e it ((i:Nat):Int) old)/\h.IsListIter it l i) where
 mem:=by simp
 obj:=fun i h ⟨⟨old,he⟩,hi⟩ c hc=>by
  have q:c=e\/c=it:=by simpa using hc
  rcases q with rfl | rfl
  .exact ⟨_,he,fun v q=>by cases q⟩
  .obtain ⟨o,e,c,d⟩:=hi;exact ⟨o,e,fun v z=>by rw [d] at z;cases z⟩
 keep:=fun i h h' ⟨⟨old,he⟩,hi⟩ k=>⟨⟨old,k e (by simp) _ he⟩,hi.at fun o q=>k it (by simp) o q⟩
 item:=by
  intro X hP hw hK hc i pins s Y H E I hf ⟨⟨old,he⟩,hi⟩ hg;subst hP hw hK;obtain ⟨xs,x,e1,hx⟩:=hg;obtain ⟨its1,i5,p1,_⟩:=I.list (D9.of (K:=X.K) e1);obtain ⟨u1,C4,r1⟩:=i5.get hx;refine wpAny_pyNext_enum_item he hi p1.isList (x:=u1) (by simpa using C4) N0 fun h' b1 b2 b3 b4 b5=>⟨_,rfl,wpAny_letOwnedTupleGo_enum b1 fun h2' c1 c2=>?_⟩
  have m9:e<s.heap.objs.size:=Heap.lt_size he;have up:∀ c o,c≠e->h'.get? c=some o->h2'.get? c=some o:=fun c o hc q=>(c2.2 c hc).trans q
  have hT:=up _ _ (Nat.ne_of_gt m9) b3;have nT:∀ c∈[e,it],c≠s.heap.objs.size:=fun c hc=>by
   have q:c=e\/c=it:=by simpa using hc
   refine O8 ?_
   rcases q with rfl | rfl
   .exact m9
   .obtain ⟨o,q,_⟩:=hi;exact Heap.lt_size q
  refine ⟨.ref s.heap.objs.size,A0 H s.heap.objs.size (.tup [.int i,x]),I.turnNew (t':=s.toks+1) (ch:=[e,it]) hf (fun c u hc q=>?_) (B3 _) ⟨by show 2<=sizeLine;decide,[.int i s.toks,u1],.cons ⟨_,rfl⟩ (.cons r1 .nil),?_⟩,rfl,⟨_,xs,x,e1,hx,I.fresh,rfl,rfl⟩,
   ⟨⟨_,c1⟩,b2.at fun o q=>up _ o N0.symm q⟩,fun c hc=>by rw [A9 (nT c hc)];exact (hf c hc).1⟩
  .have q1:c≠e/\c≠it:=⟨fun q=>hc (by simp [q]),fun q=>hc (by simp [q])⟩
   exact up c u q1.1 (b5 c u q1.1 q1.2 q)
  .exact ⟨_,hT,rfl,_,rfl⟩
 done:=by
  intro X hP hw hK hc i pins s Y H E I hf ⟨⟨old,he⟩,hi⟩ hg;subst hP hw hK;obtain ⟨xs,e1,e9⟩:=hg;obtain ⟨its1,i5,p1,_⟩:=I.list (D9.of (K:=X.K) e1);have q1:=i5.length;sleep 1;exact wpAny_pyNext_enum_end (I.ok.hd hc) he hi p1.isList (by simp;lia) fun h' eb=>⟨rfl,I.turned (t':=s.toks) (fun b o hb q=>eb b o hb q) f0 f1 f3 f4 f5⟩
 self:=fun _ _ _ _ _ st h=>by
  obtain ⟨⟨old,he⟩,_⟩:=st;exact wpAny_pyIter_enum he h
section
variable {X:Cx}
noncomputable def iEnum (ta:TA):TI:=fun Y H R=>ta Y H fun vs H1=>∃ (l:Addr) (xs:List V),vs=[.ref l]/\H1 l=some (.lst xs)/\R (nK l) H1
theorem aoR{a:Expr}{p pos:Pos}(hg:Gl X "enumerate")(hm:X.mg "enumerate"=none)(ha:PA X [a] ta)(h1:M4 a=false:=by rfl) :
  PI X (.Tuple elts x1 tpos) (.Call (.Name "enumerate" p) [a] [] pos) (iEnum ta):=by
 intro pins s Y H R I h;refine Call_ (dY I hg hm boot_enumerate (PyProof.Rows.callWith_type1 (C2 (ha pos pins s Y H _ I h) fun us s1 ⟨vs,H1,I1,r1,q1⟩=>?_) (P1 h1) rfl));obtain ⟨l,xs,rfl,e1,q⟩:=q1;obtain ⟨u1,rfl,pI⟩:=vals1 r1
 cases pI
 obtain ⟨its1,i5,p1,_⟩:=I1.list (D9.of (K:=X.K) e1);refine call_enumerate_list p1.isList fun h' z1 z2 z3 z4=>wpAny_pyIter_enum z1 ?_
 refine ⟨s1.heap.objs.size+1,[s1.heap.objs.size+1,s1.heap.objs.size],_,_,H1,rfl,I1.kept (t':=s1.toks) z4,akM _ s1.heap.objs.size l (o8 'a'),⟨⟨_,z1⟩,z2⟩,fun b hb=>?_,q⟩;have f6:s1.heap.objs.size<=b:=by
  have e:b=s1.heap.objs.size+1\/b=s1.heap.objs.size:=by simpa using hb
  rcases e with rfl | rfl
  .exact bW _ _
  .exact B3 _
 exact I1.fpOk f6 (I1.hok.fresh f6)
theorem kN{a:Expr}{p pos:Pos}(hm:X.mg "enumerate"=none)(ha:QA X [a] ta)(hg:Gl X "enumerate":=by rfl)(h1:M4 a=false:=by rfl) :
  QI X (.Tuple elts x1 tpos) (.Call (.Name "enumerate" p) [a] [] pos) (iEnum ta):=⟨aoR hg hm ha.out h1⟩
end
theorem amJ{R:It->Hp->Prop} : iEnum ta Y H R=ta Y H fun vs H1=>∃ (l:Addr) (xs:List V),vs=[.ref l]/\H1 l=some (.lst xs)/\R (nK l) H1:=rfl
theorem forE{l:Addr}{g:TG}(Pv:Nat->St->Hp->Prop)(h0:Pv 0 Y H)(hl:∀ i Y H,Pv i Y H->H l=some (.lst xs))(hs:∀ i x t Y H,xs[i]?=some x->Pv i Y H->H t=none->g (.ref t) Y (A0 H t (.tup [.int i,x])) fun σ2 H2=>tb { D with nx:=Pv (i+1),ct:=Pv (i+1),bk:=D.nx } σ2 H2)(hd:∀ Y H,Pv xs.length Y H->D.nx Y H):ForIt (nK l) g tb D Y H:=by
 refine ⟨fun i m Y H=>m=xs.length-i/\i<=xs.length/\Pv i Y H,⟨xs.length,by simp,F9 _,h0⟩,?_⟩;rintro i m Y H ⟨rfl,hi,p⟩;have e1:=hl i Y H p
 by_cases C9:i<xs.length
 .refine .inr ⟨⟨xs,xs[i],e1,by simp⟩,Pv (i+1),fun σ' H' p'=>⟨_,by lia,rfl,C9,p'⟩,fun v H' y=>?_⟩;obtain ⟨t,xs',x,f1,hx,ht,rfl,rfl⟩:=y;rw [e1] at f1;cases f1;exact hs i x t Y H hx p ht
 .have e:i=xs.length:=by lia
  subst e;exact .inl ⟨⟨xs,e1,by lia⟩,hd Y H p⟩
noncomputable def MO (P:Program) (w:World) (K:PySem.W.Frag) (mg:Str->Option Value) (base:Heap) (k:Nat) (C:Addr) (m:Str) (ps:List Str) (sp:Sp):Prop:=
 ∃ f fd,FnOk P w K mg base E8 k f fd ps sp/\Cls K C/\Meth K C m f/\Binds K fd ps []
noncomputable def KO (P:Program) (w:World) (K:PySem.W.Frag) (mg:Str->Option Value) (base:Heap) (k:Nat) (C:Addr) (x:Str) (ps:List Str) (sp:Sp):Prop:=
 ∃ f fd,FnOk P w K mg base E8 k f fd ps sp/\Mk K C f/\mg x=some (.ref C)/\Binds K fd ps []
section
variable {X:Cx} {k:Nat} {C:Addr} {ps:List Str} {sp:Sp} {x m:Str} {p pos apos:Pos} {e o:Expr} {es:List Expr} {ta:TE} {t:TA}
theorem aoS(G:KO X.prog X.w X.K X.mg X.base k C x ps sp)(hr:Room (k+1) X.A)(ha:QA X (e::es) t)(hg:Gl X x:=by rfl)(h1:M4 e=false:=by rfl)(h2:Y6 es=true:=by rfl)(U8:(x==("__debug__" : Str))=false:=by decide) :
  QE X (.Call (.Name x p) (e::es) [] pos) (tMake C sp [] E0 t):=by
 obtain ⟨f,fd,F,M,hm,hb⟩:=G;exact ⟨an0 M F hr hg hm hb .nil pass0 ha.out U8 (P1 h1) (gM h2)⟩
theorem akN(ho:QE X o ta)(G:MO X.prog X.w X.K X.mg X.base k C m ps sp)(hr:Room k X.A)(ha:QA X (e::es) t)(h1:M4 e=false:=by rfl)(h2:Y6 es=true:=by rfl){pl:Sem Bool}(ht:eval (.Call (.Attribute o m apos) (e::es) [] pos) X.env=(do
   let ov <- eval o X.env
   standAt apos.atName
   let (f,first) <- holding [ov] (getMethod ov m pl)
   callWith pos f first (backTo pos (starEach (e::es) X.env)) (backToKw pos (keywordEach [] X.env))):=by rfl) :
  QE X (.Call (.Attribute o m apos) (e::es) [] pos) (tMeth C m sp [] E0 ta t):=by
 obtain ⟨f,fd,F,c,hm,hb⟩:=G;exact ⟨anZ ho.out c hm F hr hb .nil pass0 ha.out (P1 h1) (gM h2) ht⟩
theorem amK(ho:QE X o ta)(G:MO X.prog X.w X.K X.mg X.base k C m ps sp)(hr:Room k X.A){pl:Sem Bool}(ht:eval (.Call (.Attribute o m apos) [] [] pos) X.env=(do
   let ov <- eval o X.env
   standAt apos.atName
   let (f,first) <- holding [ov] (getMethod ov m pl)
   callWith pos f first (backTo pos (starEach [] X.env)) (backToKw pos (keywordEach [] X.env))):=by rfl) :
  QE X (.Call (.Attribute o m apos) [] [] pos) (tMeth C m sp [] E0 ta tNil):=by
 obtain ⟨f,fd,F,c,hm,hb⟩:=G;exact ⟨alZ ho.out c hm F hr hb .nil pass0 ht⟩
end
section
variable {C:Addr} {m f:Str} {sp:Sp} {K:PySem.W.Frag} {ta tv:TE} {t:TA} {Y:St} {H:Hp} {Q:VK} {D:Ends}
theorem aoT:tMake C sp [] E0 t Y H Q=t Y H fun vs H1=>∀ x dx,H1 x=none->H1 dx=none->dx≠x->sp (.ref x::(vs++[])) (A0 (A0 H1 dx (.own x)) x (.ins C dx [])) (fun v H2=>v=.non/\Q (.ref x) H2) E0:=rfl
theorem aoU:tMeth C m sp [] E0 ta t Y H Q=ta Y H fun x H1=>∃ a dx fs,x=.ref a/\H1 a=some (.ins C dx fs)/\fs.lookup m=none/\t Y H1 fun vs H2=>sp (x::(vs++[])) H2 Q E0:=rfl
theorem arx:tFld K ta f Y H Q=ta Y H fun x H1=>∃ a C dx fs v,x=.ref a/\H1 a=some (.ins C dx fs)/\Cls K C/\NoAttr K C f/\fs.lookup f=some v/\Q v H1:=rfl
theorem aoV:sFld K ta tv f D Y H=tv Y H fun y H1=>ta Y H1 fun x H2=>∃ a C dx fs,x=.ref a/\H2 a=some (.ins C dx fs)/\Cls K C/\NoAttr K C f/\fs.length<1000/\D.nx Y (A0 H2 a (.ins C dx (putF f y fs))):=rfl
end
section
variable {X:Cx} {o e:Expr} {apos cpos:Pos} {td ty:TE}
theorem sE(hu:X.A.units+1<cLine)(ho:QE X o td)(he:QE X e ty)(h1:M4 e=false:=by rfl)(J8:attributeBase o "get" X.env (eval o X.env)=eval o X.env:=by rfl)(K0:(apos.endLine==cpos.line)=true:=by rfl):QE X (.Call (.Attribute o "get" apos) [e] [] cpos) (wL td ty):=
 ⟨al8 hu ho.out he.out ⟨J8,by rw [P1 h1];rfl,K0,by rw [P1 h1];rfl⟩⟩
theorem amL : wL td ty Y H Q=td Y H fun x H1=>∃ a,x=.ref a/\gL H1 a/\ty Y H1 fun y H2=>∃ o,DGet H2 a y o/\Q (o.getD .non) H2:=rfl
end
noncomputable abbrev Rl:=Str×List Str
noncomputable def tupR (z:Rl):HO:=.tup ((z.1::z.2).map V.str)
structure IsRules(H:Hp)(a:Addr)(rs:List Addr)(R:List Rl):Prop where
 top:H a=some (.lst (rs.map V.ref))
 row:Paired (fun r z=>H r=some (tupR z)) rs R
theorem IsRules.same{R:List Rl}(h:IsRules H a rs R)(s:Same H H'):IsRules H' a rs R:=⟨s _ _ h.top,L0 h.row fun _ _ e=>s _ _ e⟩
theorem IsRules.cat{l:Addr}{ts us:List Addr}{A B:List Rl}(x:IsRules H a ts A)(y:IsRules H b us B)(n:H l=none):IsRules (A0 H l (.lst (ts.map V.ref++us.map V.ref))) l (ts++us) (A++B):=by
 refine ⟨by rw [A5,D8],?_⟩;have ap:∀ {l₁ zh:List Addr} {l₂ zg:List Rl},Paired (fun r z=>A0 H l (.lst (ts.map V.ref++us.map V.ref)) r=some (tupR z)) l₁ l₂->Paired (fun r z=>A0 H l (.lst (ts.map V.ref++us.map V.ref)) r=some (tupR z)) zh zg->Paired (fun r z=>A0 H l (.lst (ts.map V.ref++us.map V.ref)) r=some (tupR z)) (l₁++zh) (l₂++zg):=by
  intro l₁ zh l₂ zg h
  induction h with
  | nil=>intro h';exact h'
  | cons h t ih=>intro h';exact .cons h (ih h')
 exact ap (L0 x.row fun r z h=>D3 h n) (L0 y.row fun r z h=>D3 h n)
theorem IsRules.len{R:List Rl}(h:IsRules H a rs R):rs.length=R.length:=Paired.length h.row
noncomputable def M8 (z:Rl):List Str:=if z.1=("great" : Str) then z.2.drop 1 else if z.1=("as" : Str) then z.2.take 1 else if z.1=("row" : Str)\/z.1=("marks" : Str)\/z.1=("over" : Str) then z.2 else []
noncomputable def jobD (w:Str):Str:=if w=("row" : Str) then "letter" else if w=("marks" : Str) then "mark" else w
noncomputable def C7 (R:List Rl):List (Str×Str):=R.flatMap fun z=>(M8 z).map fun p=>(p,jobD z.1)
noncomputable def hasW (R:List Rl) (w:Str):Bool:=R.any fun z=>decide (z.1=w)
noncomputable def figO (c:Nat):Bool:=decide (48<=c)&&decide (c<=57)
noncomputable def nM:List Str:=["letter", "mark", "over"]
noncomputable def NC (figs:Bool) (g:Str->Str) (PL:List (Str×Str)):Prop:=∀ i p j,PL[i]?=some (p,j)->j=g p/\(p∈(PL.take i).map (·.1)->j∈nM)/\(figs=true->∀ c∈p.cps.toList,figO c=false)/\p.length<=1000
noncomputable def keysP (PL:List (Str×Str)):List Str:=G6 [] (PL.map (·.1))
theorem afx{R:List Rl}{z:Rl}(h:R[i]?=some z):C7 (R.take (i+1))=C7 (R.take i)++(M8 z).map fun p=>(p,jobD z.1):=by
 rw [r0,h];unfold C7;rw [Z4]
 simp
theorem xM(R:List Rl)(i:Nat):∃ more,C7 R=C7 (R.take i)++more:=⟨C7 (R.drop i),by
 unfold C7;rw [<- Z4,V0]⟩
theorem ajr(PL:List (Str×Str))(p j:Str):keysP (PL++[(p,j)])=dd (keysP PL) p:=by
 unfold keysP G6;rw [D8,aF];rfl
theorem kO(x:Str)(PL:List (Str×Str)):x∈keysP PL↔x∈PL.map (·.1):=by
 unfold keysP;rw [l8]
 simp
theorem xN(PL:List (Str×Str)):(keysP PL).length<=PL.length:=by
 have:=eC (PL.map (·.1)) []
 rw [A6] at this
 simpa [keysP] using this
noncomputable def rowsW (R:List Rl) (w:Str):List (List Str):=(R.filter fun z=>decide (z.1=w)).map (·.2)
theorem xO{R:List Rl}{z:Rl}{w:Str}(h:R[i]?=some z):rowsW (R.take (i+1)) w=if z.1=w then rowsW (R.take i) w++[z.2] else rowsW (R.take i) w:=by
 rw [r0,h];unfold rowsW;rw [Y1,D8]
 by_cases e:z.1=w
 .rw [if_pos e,Option.toList_some,aE (by simpa using e)];rfl
 .rw [if_neg e,Option.toList_some,bR (by simpa using e)];simp
theorem o9{hi:Option Int}(hk:1<=k)(hn:1<=n):¬ (HT.sIx n 0 (some (k:Int))=0/\HT.sIx n n hi=n):=fun h=>by
 have:=h.1
 rw [HT.sIx_nat] at this;lia
noncomputable abbrev jobsL:List (C5×V):=[((Sum.inr ("row" : Str):C5),V.str "letter"),(Sum.inr ("marks" : Str),V.str "mark"),(Sum.inr ("great" : Str),V.str "great"),(Sum.inr ("as" : Str),V.str "as"),(Sum.inr ("over" : Str),V.str "over")]
noncomputable def gR (w:Str):Prop:=w=("row" : Str)\/w=("marks" : Str)\/w=("great" : Str)\/w=("as" : Str)\/w=("over" : Str)
theorem xP{w:Str}(h:gR w):valV jobsL (Sum.inr w)=some (.str (jobD w)):=by
 rcases h with rfl | rfl | rfl | rfl | rfl <;> decide +kernel
theorem amM{w:Str}(h:¬ gR w):valV jobsL (Sum.inr w)=none:=by
 unfold gR at h;have n:∀ u:Str,w≠u->¬ ((Sum.inr u:C5)=Sum.inr w):=fun u hu e=>hu (Sum.inr.inj e).symm
 rw [cF (n _ (fun e=>h (.inl e))),cF (n _ (fun e=>h (.inr (.inl e)))),cF (n _ (fun e=>h (.inr (.inr (.inl e))))),cF (n _ (fun e=>h (.inr (.inr (.inr (.inl e)))))),cF (n _ (fun e=>h (.inr (.inr (.inr (.inr e))))))];rfl
theorem gS{z:Rl}(h:p∈M8 z):gR z.1:=by
 unfold M8 at h;unfold gR
 split at h
 .rename_i e;exact .inr (.inr (.inl e))
 .split at h
  .rename_i e;exact .inr (.inr (.inr (.inl e)))
  .split at h
   .rename_i e
    rcases e with e | e | e
    .exact .inl e
    .exact .inr (.inl e)
    .exact .inr (.inr (.inr (.inr e)))
   .cases h
theorem ary{R:List Rl}{z:Rl}(hz:R[i]?=some z)(hp:(M8 z)[j]?=some p) :
  (C7 R)[(C7 (R.take i)).length+j]?=some (p,jobD z.1)/\(C7 R).take ((C7 (R.take i)).length+j)=C7 (R.take i)++((M8 z).take j).map fun p=>(p,jobD z.1):=by
 obtain ⟨more,e⟩:=xM R (i+1);rw [afx hz,Q1] at e;have hj:j<(M8 z).length:=(I0.mp hp).1;rw [e]
 constructor
 .rw [fW (bW _ _),mT,dQ (by rw [A6];exact hj),O7,hp];rfl
 .rw [List.take_append,Z2 (bW _ _),mT,List.take_append_of_le_length (by rw [A6];lia),s0]
theorem arz{c d:Nat} : (([c]:List Nat)<[d])↔c<d:=by
 constructor
 .intro h;cases h with
  | rel h=>exact h
  | cons h=>cases h
 .intro h;exact List.Lex.rel h
theorem C6.same(e:Same H H')(h:C6 K H a xs):C6 K H' a xs:=by
 rcases h with (h | ⟨o,h⟩) | h
 .exact .inl (.inl (e _ _ h))
 .exact .inl (.inr ⟨o,e _ _ h⟩)
 .exact .inr h
theorem C6.dput{d:Addr}{o:HO}(hd:H d=some (.dK kvs))(h:C6 K H a xs):C6 K (A0 H d o) a xs:=by
 rcases h with (h | ⟨o,h⟩) | h
 .exact .inl (.inl (by rw [A9 (fun e=>by rw [e,hd] at h;cases h)];exact h))
 .exact .inl (.inr ⟨o,by rw [A9 (fun e=>by rw [e,hd] at h;cases h)];exact h⟩)
 .exact .inr h
noncomputable def spHas (K:PySem.W.Frag):Sp:=fun vs H Q _=>∃ (a:Addr) (ts:List Addr) (R:List Rl) (w:Str),vs=[.ref a,.str w]/\IsRules H a ts R/\R.length<=1000/\∀ H',Same H H'->Q (.bl (hasW R w)) H'
noncomputable def akO (K:PySem.W.Frag):Sp:=fun vs H Q _=>∃ (t:Addr) (z:Rl),vs=[.ref t]/\H t=some (tupR z)/\∀ p H',Same H H'->C6 K H' p ((M8 z).map V.str)->Q (.ref p) H'
noncomputable def akP:Sp:=fun vs H Q _=>∃ (d:Addr) (p j:Str) (fg:Bool) (ks:List Str) (g:Str->Str),vs=[.ref d,.str p,.str j,.bl fg]/\H d=some (.dK (B5 ks fun t=>.str (g t)))/\p.length<=1000/\(p∈ks->g p=j/\j∈nM)/\(fg=true->∀ c∈p.cps.toList,figO c=false)/\
 ∀ H',Same H H'->Q (.bl false) H'
noncomputable def U6 (R:List Rl):List Str:=if hasW R "blanks"=true then [" "] else []
noncomputable def jobG (g:Str->Str):Str->V:=fun t=>if t=(" " : Str) then .str "over" else .str (g t)
noncomputable def ano (K:PySem.W.Frag):Sp:=fun vs H Q _=>∃ (a:Addr) (ts:List Addr) (R:List Rl) (g:Str->Str),vs=[.ref a]/\IsRules H a ts R/\R.length<=1000/\(C7 R).length<=10000/\NC (hasW R "figures") g (C7 R)/\(" " : Str)∉(C7 R).map (·.1)/\
 ∀ d H',H d=none->Same H H'->H' d=some (.dK (B5 (keysP (C7 R)++U6 R) (jobG g)))->Q (.ref d) H'
noncomputable def ordF (f b:Bool) (j ll ml md:Addr):List (Str×V):=putF "made" (.ref md) (putF "mark_line" (.ref ml) (putF "letter_line" (.ref ll) (putF "jobs" (.ref j) (putF "behind" (.bl b) (putF "figures" (.bl f) [])))))
theorem aeg(f b:Bool)(j ll ml md:Addr):(ordF f b j ll ml md).lookup ("figures" : Str)=some (V.bl f):=by
 unfold ordF;rw [N1,if_neg 'c',N1,if_neg 'c',N1,if_neg 'c',N1,if_neg 'c',N1,if_neg 'c',N1,if_pos rfl]
theorem ahF(f b:Bool)(j ll ml md:Addr):(ordF f b j ll ml md).lookup ("behind" : Str)=some (V.bl b):=by
 unfold ordF;rw [N1,if_neg 'c',N1,if_neg 'c',N1,if_neg 'c',N1,if_neg 'c',N1,if_pos rfl]
theorem agR(f b:Bool)(j ll ml md:Addr):(ordF f b j ll ml md).lookup ("jobs" : Str)=some (V.ref j):=by
 unfold ordF;rw [N1,if_neg 'c',N1,if_neg 'c',N1,if_neg 'c',N1,if_pos rfl]
theorem agS(f b:Bool)(j ll ml md:Addr):(ordF f b j ll ml md).lookup ("letter_line" : Str)=some (V.ref ll):=by
 unfold ordF;rw [N1,if_neg 'c',N1,if_neg 'c',N1,if_pos rfl]
theorem ajs(f b:Bool)(j ll ml md:Addr):(ordF f b j ll ml md).lookup ("mark_line" : Str)=some (V.ref ml):=by
 unfold ordF;rw [N1,if_neg 'c',N1,if_pos rfl]
theorem xQ(f b:Bool)(j ll ml md:Addr){m:Str}(h:m∉(["made", "mark_line", "letter_line", "jobs", "behind", "figures"]:List Str)):(ordF f b j ll ml md).lookup m=none:=by
 unfold ordF;have n:∀ u∈(["made", "mark_line", "letter_line", "jobs", "behind", "figures"]:List Str),¬ m=u:=fun u hu e=>h (by rw [e];exact hu)
 rw [N1,if_neg (n _ (by simp)),N1,if_neg (n _ (by simp)),N1,if_neg (n _ (by simp)),N1,if_neg (n _ (by simp)),N1,if_neg (n _ (by simp)),N1,if_neg (n _ (by simp))];rfl
theorem IsRules.but{x:Addr}{R:List Rl}(h:IsRules H a rs R)(s:SameBut x H H'){dx:Addr}{fs:List (Str×V)}(hx:H x=some (.ins C dx fs)):IsRules H' a rs R:=
 ⟨s _ _ (fun e=>by have:=h.top;rw [e,hx] at this;cases this) h.top,L0 h.row fun t z e=>s _ _ (fun q=>by rw [q,hx] at e;cases e) e⟩
theorem SameBut.trans{x:Addr}(a:SameBut x H H1)(b:SameBut x H1 H2):SameBut x H H2:=fun c o hc h=>b c o hc (a c o hc h)
theorem Same.but{x:Addr}(a:Same H H1):SameBut x H H1:=fun c o _ h=>a c o h
noncomputable def T0 (R:List Rl) (w:Str) (L:List Str):Prop:=R9 (edges (rowsW R w)) (toldL (rowsW R w)) L/\∀ p∈toldL (rowsW R w),p∈L
structure IsOrder(C:Addr)(H:Hp)(x:Addr)(g:Str->Str)(R:List Rl)(L M:List Str):Prop where
 ob:∃ dx j ll ml md,H x=some (.ins C dx (ordF (hasW R "figures") (hasW R "behind") j ll ml md))/\H j=some (.dK (B5 (keysP (C7 R)++U6 R) (jobG g)))/\H ll=some (.lst (L.map V.str))/\H ml=some (.lst (M.map V.str))
 l1:T0 R "row" L
 l2:T0 R "marks" M
noncomputable def anp (K:PySem.W.Frag):Sp:=fun vs H Q _=>∃ (a:Addr) (ts:List Addr) (R:List Rl) (w:Str) (rank:Str->Nat),vs=[.ref a,.str w]/\IsRules H a ts R/\R.length<=1000/\(rowsW R w).flatten.length<=100000/\(∀ e∈edges (rowsW R w),rank e.1<rank e.2)/\
 ∀ (l:Addr) (line:List Str) (H':Hp),H l=none->Same H H'->H' l=some (.lst (line.map V.str))->R9 (edges (rowsW R w)) (toldL (rowsW R w)) line->(∀ p∈toldL (rowsW R w),p∈line)->Q (.ref l) H'
noncomputable def cellF (ns:List Int) (k:Int):Int:=if k<(ns.length:Int) then ns.getD k.toNat 0 else 0
noncomputable def kP (K:PySem.W.Frag):Sp:=fun vs H Q _=>∃ (a:Addr) (ns:List Int) (k:Int),vs=[.ref a,.int k]/\D9 K H a (ns.map V.int)/\0<=k/\Q (.int (cellF ns k)) H
noncomputable def SA:Str:=Str.ofString "!\"#$&'()*+,-./:;<=>?@ABCDEFGHIJKLMNOPQRSTUVWXYZ[\\]^_`abcdefghijklmnopqrstuvwxyz{|}~"
noncomputable def LA:List Nat:=SG.filter fun c=>!figO c
noncomputable def LB:List Nat:=LA++[48,49,50,51,52,53,54,55,56,57]
theorem SA_eq:SA.cps.toList=LA:=by decide +kernel
theorem SB_eq:(SA++Str.ofString "0123456789").cps.toList=LB:=by decide +kernel
theorem arA:LA.length=83:=by decide +kernel
theorem arB:LB.length=93:=by decide +kernel
theorem LA_nd:LA.Nodup:=by decide +kernel
theorem LB_nd:LB.Nodup:=by decide +kernel
theorem LA_ok:∀ c∈LA,signB c=true/\figO c=false:=by decide +kernel
theorem LB_ok:∀ c∈LB,signB c=true:=by decide +kernel
noncomputable def listF (d:Bool):List Nat:=if d=true then LB else LA
noncomputable def lenF (d:Bool):Int:=if d=true then 93 else 83
theorem sF(d:Bool):((listF d).length:Int)=lenF d:=by
 cases d
 .show ((LA.length:Nat):Int)=83;rw [arA];rfl
 .show ((LB.length:Nat):Int)=93;rw [arB];rfl
noncomputable def Q5 (ns:List Int):Bool:=decide (cellF ns 1 / 12 % 2=0)
noncomputable def stepO:List Int:=[1,2,4,5,7,8,10,11,13,23,44,80]
noncomputable def v4 (ns:List Int):Int:=(K5 stepO (cellF ns 1 % 12)).getD 0
noncomputable def K8 (ns:List Int) (k:Int):Nat:=(K5 (listF (Q5 ns)) ((cellF ns 0+k*v4 ns) % lenF (Q5 ns))).getD 33
theorem xR(d:Bool):0<lenF d/\lenF d<=93:=by cases d <;> decide
theorem xS(ns:List Int):K5 (stepO.map V.int) (cellF ns 1 % 12)=some (.int (v4 ns))/\v4 ns∈stepO:=by
 obtain ⟨v,h1,h2⟩:=kE (xs:=stepO) (i:=cellF ns 1 % 12) 'a' (by show _<((12:Nat):Int);lia);have e:v4 ns=v:=by unfold v4;rw [h1];rfl
 rw [e];refine ⟨?_,h2⟩;obtain ⟨u,h3,h4⟩:=kE (xs:=stepO.map V.int) (i:=cellF ns 1 % 12) 'a' (by show _<((12:Nat):Int);lia);have ei:(((cellF ns 1 % 12).toNat:Nat):Int)=cellF ns 1 % 12:=by lia
 have hi:(cellF ns 1 % 12).toNat<stepO.length:=by show _<12;lia
 have a1:=N2 (xs:=stepO) (j:=(cellF ns 1 % 12).toNat) (v:=stepO[(cellF ns 1 % 12).toNat]) (G5 hi);rw [ei,h1] at a1;have a2:=N2 (xs:=stepO.map V.int) (j:=(cellF ns 1 % 12).toNat) (v:=V.int stepO[(cellF ns 1 % 12).toNat]) (by rw [O7,G5 hi];rfl);rw [ei] at a2;rw [a2,<- Option.some.inj a1]
theorem aoW(ns:List Int):0<v4 ns/\v4 ns<=80:=by
 have:=(xS ns).2
 simp only [stepO,F6,mQ,or_false] at this;omega
theorem arC{l:List Nat}(nd:l.Nodup){i j:Int}(h0:0<=i)(h1:i<l.length)(h2:0<=j)(h3:j<l.length)(h:(K5 l i).getD 33=(K5 l j).getD 33):i=j:=by
 have li:i.toNat<l.length:=by lia
 have lj:j.toNat<l.length:=by lia
 have a1:K5 l i=some l[i.toNat]:=by
  have:=N2 (xs:=l) (j:=i.toNat) (v:=l[i.toNat]) (G5 li)
  rw [show ((i.toNat:Nat):Int)=i by lia] at this;exact this
 have a2:K5 l j=some l[j.toNat]:=by
  have:=N2 (xs:=l) (j:=j.toNat) (v:=l[j.toNat]) (G5 lj)
  rw [show ((j.toNat:Nat):Int)=j by lia] at this;exact this
 rw [a1,a2] at h
 have:=(dN.mp nd)
 rw [fX] at this
 rcases Nat.lt_trichotomy i.toNat j.toNat with z | z | z
 .exact absurd h (this _ _ li lj z)
 .lia
 .exact absurd h.symm (this _ _ lj li z)
theorem anq(ns:List Int)(k:Int):K5 (listF (Q5 ns)) ((cellF ns 0+k*v4 ns) % lenF (Q5 ns))=some (K8 ns k)/\K8 ns k∈listF (Q5 ns):=by
 have hp:=xR (Q5 ns);obtain ⟨v,h1,h2⟩:=kE (xs:=listF (Q5 ns)) (i:=(cellF ns 0+k*v4 ns) % lenF (Q5 ns)) (k5 _ 'a') (by rw [sF];exact t6 _ hp.1);have e:K8 ns k=v:=by unfold K8;rw [h1];rfl
 rw [e];exact ⟨h1,h2⟩
theorem aiE(ns:List Int)(k:Int):signB (K8 ns k)=true/\(Q5 ns=false->figO (K8 ns k)=false):=by
 have h:=(anq ns k).2;cases hd:Q5 ns with
 | false=>
  rw [hd] at h
  have:=LA_ok _ h
  exact ⟨this.1,fun _=>this.2⟩
 | true=>
  rw [hd] at h;exact ⟨LB_ok _ h,fun z=>by cases z⟩
theorem ajt{m s t b k l:Int}(ht:s*t % m=1)(e:(b+k*s) % m=(b+l*s) % m)(h0:0<=k)(h1:k<m)(h2:0<=l)(h3:l<m):k=l:=by
 have d1:m ∣ (k-l)*s:=by
  have:=Int.dvd_of_emod_eq_zero (Int.emod_eq_emod_iff_emod_sub_eq_zero.mp e)
  rwa [show (b+k*s)-(b+l*s)=(k-l)*s by rw [Int.sub_mul];lia] at this
 have d3:m ∣ (k-l)*(s*t):=by rw [<- Int.mul_assoc];exact Int.dvd_mul_of_dvd_left d1
 have d4:m ∣ s*t-1:=⟨s*t / m,by have:=Int.emod_add_mul_ediv (s*t) m;lia⟩
 have d5:m ∣ (k-l)*(s*t-1):=Int.dvd_mul_of_dvd_right d4;have d6:=Int.dvd_sub d3 d5;rw [show (k-l)*(s*t)-(k-l)*(s*t-1)=k-l by rw [Int.mul_sub,Int.mul_one];lia] at d6;have d7:=Int.emod_eq_emod_iff_emod_sub_eq_zero.mpr (Int.emod_eq_zero_of_dvd d6)
 rwa [Int.emod_eq_of_lt h0 h1,Int.emod_eq_of_lt h2 h3] at d7
theorem amN(d:Bool):∀ s∈stepO,∃ t∈(aI 93).map Int.ofNat,s*t % lenF d=1:=by cases d <;> decide +kernel
theorem aoX{k l:Int}(h0:0<=k)(h1:k<83)(h2:0<=l)(h3:l<83)(h:K8 ns k=K8 ns l):k=l:=by
 have hp:=xR (Q5 ns);have hq:83<=lenF (Q5 ns):=by cases Q5 ns <;> decide
 have nd:(listF (Q5 ns)).Nodup:=by
  cases Q5 ns
  .exact LA_nd
  .exact LB_nd
 have e:=arC nd (k5 _ 'a') (by rw [sF];exact t6 _ hp.1) (k5 _ 'a') (by rw [sF];exact t6 _ hp.1) h;obtain ⟨t,_,ht⟩:=amN (Q5 ns) _ (xS ns).2;exact ajt ht e h0 'a' h2 'a'
noncomputable def spSgn (K:PySem.W.Frag):Sp:=fun vs H Q _=>∃ (a:Addr) (ns:List Int) (k:Int),vs=[.ref a,.int k]/\D9 K H a (ns.map V.int)/\0<=k/\∀ H',Same H H'->Q (.str (one (K8 ns k))) H'
end L2
namespace L2
open PySem PySem.Spec PyProof.Rows
open AutoSeq1 (wpAny_loadPart' idx_int)
noncomputable abbrev bareL (ys:Array Value) (k:Nat):Obj:=⟨.type "list",none,.seq ys k,#[]⟩
noncomputable abbrev anyT (dd:Option Addr) (ys:Array Value) (k:Nat) (ss:Array (Option Value)):Obj:=⟨.type "tuple",dd,.seq ys k,ss⟩
theorem aeP{l:Addr}{ys zs:Array Value}{k2:Nat}{dd:Option Addr}(short:¬ (!ys.isEmpty&&Builtin.List.listTooLong (ys.size+zs.size))=true)(h1:ys.size<=sizeLine)(h2:ys.size+zs.size<=sizeLine+1) :
  Meets (Builtin.«list.extend» ⟨[.ref l,.ref b],[]⟩) (fun _ R s=>s.heap.get? l=some (bareL ys k)/\s.heap.get? b=some (anyT dd zs k2 ss)/\R (.ok (.ret .none)) { s with heap:=s.heap.update l (Obj.mapSeq (·++zs)),toks:=s.toks }):=by
 refine .of_wp fun _ _ _ R s ⟨gl,gb,fin⟩=>?_
 rcases s with ⟨hp,gens,dr,tk,sys⟩
 have c1:=idx_int;have c2:=AutoSeq1.sub_tuple_tuple;have c3:=AutoSeq1.sub_list_list;have c4:=AutoSeq1.sub_tuple_list;have c5:=AutoSeq1.sub_list_tuple;have room:(ys++zs).size<=sizeLine+1:=Array.size_append ▸ h2
 wp_walk using (wpAny_updateSeq gl rfl (hz:=h1) (_hz':=room)),wpAny_loadPart' gl,wpAny_loadPart' gb
 exact ⟨_,rfl,fin⟩
section
variable {X:Cx}
noncomputable def aiF (K:PySem.W.Frag):V->List V->Hp->VK->Prop:=fun x vs H Q=>∃ l b xs zs,x=.ref l/\vs=[.ref b]/\H l=some (.lst xs)/\C6 K H b zs/\xs.length+zs.length<=sizeLine/\Q .non (A0 H l (.lst (xs++zs)))
theorem aju:rO X "list.extend" (aiF X.K):=by
 intro pins s Y H x vs v us Q I rx rv h;obtain ⟨l,b,xs,zs,rfl,rfl,hH,hB,hz,q⟩:=h
 cases rx
 obtain ⟨u,rfl,ru⟩:=rv.one
 cases ru
 obtain ⟨z,its,n,r,hl,e⟩:=I.lstM hH;obtain ⟨its2,r2,⟨⟨c,dct,dt,sl⟩,e2,hc,n2,hd⟩,U9⟩:=I.tuple hB
 replace hc:c=.type "tuple":=hc
 replace hd:dt=.seq its2.toArray n2:=hd
 subst hc hd;have q1:=r2.length;have hsz:its.toArray.size+its2.toArray.size<=sizeLine:=by rw [N5,N5];lia
 have x8:¬ (!its.toArray.isEmpty&&Builtin.List.listTooLong (its.toArray.size+its2.toArray.size))=true:=by
  rw [air hsz,Bool.and_false];exact N6
 refine call_meets F.slot_list_extend ⟨_,e,rfl⟩ F.entry_list_extend (F.args_list_extend_2 _ _)
  (aeP (k:=n) (k2:=n2) (dd:=dct) (ss:=sl) x8 (by rw [N5];lia) 'a') ⟨e,e2,?_⟩
 refine ⟨.non,_,I.lset (its':=its++its2) hH e (by simp) (r.append r2) ?_,rfl,q⟩;rw [C1];lia
theorem akR(hK:X.K=K:=by rfl):QMt X "list.extend" (aiF K):=by subst hK;exact ⟨fun pins s Y H x xs v us Q I rx rv h=>aju pins s Y H x xs v us Q I rx rv h⟩
end
noncomputable def Itv (l : Addr) (n : Nat) : It :=
  ⟨fun i H => ∃ xs x, H l = some (.lst xs) /\ i<n /\ xs[n-1-i]? = some x,
   fun i H v H' => H' = H /\ ∀ xs, H l = some (.lst xs) -> xs[n-1-i]? = some v,
   fun i H => ∃ xs, H l = some (.lst xs) /\ n <= i⟩
section
variable {X:Cx}
noncomputable def iRev (ta:TA):TI:=fun Y H R=>ta Y H fun vs H1=>∃ (l:Addr) (xs:List V),vs=[.ref l]/\H1 l=some (.lst xs)/\R (Itv l xs.length) H1
end
theorem aoY{R:It->Hp->Prop} : iRev ta Y H R=ta Y H fun vs H1=>∃ (l:Addr) (xs:List V),vs=[.ref l]/\H1 l=some (.lst xs)/\R (Itv l xs.length) H1:=rfl
noncomputable abbrev eG (l:Addr):Obj:={ cls:=.type "list_iterator",data:=.fields #[.ref l,.int 0 0] }
noncomputable abbrev kQ (it:Addr) (i:Int):Obj:={ cls:=.type "enumerate",data:=.fields #[.none,.bool false,.ref it,rawInt i,.none,.none] }
noncomputable abbrev anyL (dd:Option Addr) (ys:Array Value) (k:Nat) (ss:Array (Option Value)):Obj:=⟨.type "list",dd,.seq ys k,ss⟩
set_option maxHeartbeats 4000000 in
theorem afd{l:Addr}{ys:Array Value}{dd:Option Addr}{i:Int}{t:Tok}(fits:Builtin.SmallTypes.fitsIndex i=true) :
  Meets (Builtin.«enumerate.__new__» ⟨[.type "enumerate",.ref l],[("start",.int i t)]⟩) (fun _ R s=>s.heap.get? l=some (anyL dd ys k ss)/\
   R (.ok (.ret (.ref (s.heap.push (eG l)).objs.size))) { s with heap:=(s.heap.push (eG l)).push (kQ s.heap.objs.size i) }):=by
 refine .of_wp fun _ _ _ R s ⟨gl,fin⟩=>?_
 rcases s with ⟨hp,gens,dr,tk,sys⟩
 have c1:=sub_enumerate;have isl:Heap.IsList (Shared.heap ⟨hp,gens,dr,tk,sys⟩) l ys:=⟨_,gl,rfl,k,rfl⟩
 wp_walk using wpAny_loadPart' gl
 refine wpAny_stack_any fun _=>wpAny_pure ?_
 split
 case h_1 c _ _ _ _ _=>
  generalize (c==Value.type "enumerate")=truth
  cases truth <;> (wp_walk using wpAny_loadPart' gl,wpAny_pyIter_list isl;exact ⟨_,rfl,fin⟩)
 case h_2=>(wp_walk using wpAny_loadPart' gl,wpAny_pyIter_list isl;exact ⟨_,rfl,fin⟩)
theorem ajv(a b:Value):checkTypeCall "enumerate" ⟨[a],[("start",b)]⟩=pure ():=by kernel_rfl
theorem akS(a b:Value):checkBuiltinCall "enumerate.__new__" ⟨[.type "enumerate",a],[("start",b)]⟩=pure ():=by kernel_rfl
theorem ajw(a b c:Value):argsOk "object.__init__" ⟨[a,b],[("start",c)]⟩:=by
 unfold argsOk;rw [signature?_of (id:="object.__init__") (n:="__init__".toList.reverse) (o:="object".toList.reverse) (by kernel_rfl) F.owner_object]
 kernel_rfl
theorem akT{self b c:Value} : Meets (Builtin.«object.__init__» ⟨[self,b],[("start",c)]⟩) (fun _ R s=>s.TypeIs self "enumerate"/\R (.ok (.ret .none)) s):=by
 have c1:=F.called_enumerate.init.lookup;have c2:=F.called_enumerate.made;refine .of_wp fun _ _ _ R s ⟨isT,fin⟩=>?_
 repeat (any_goals (first | assumption | wp_step))
 exact ⟨_,rfl,fin⟩
section
variable {prog:Program} {w:World} {A:Around} {E:Value->Shared->Prop} {s:Shared}
theorem aeQ{l:Addr}{ys:Array Value}{i:Int}{t:Tok}{Q:Value->Shared->Prop}(isl:s.heap.IsList l ys)(fits:Builtin.SmallTypes.fitsIndex i=true)(fin:∀ h',IsEnum h' (s.heap.objs.size+1) s.heap.objs.size i .none->h'.IsListIter s.heap.objs.size l 0->(∀ b o,s.heap.get? b=some o->h'.get? b=some o)->Q (.ref (s.heap.objs.size+1)) { s with heap:=h' }) :
  wpAny (model prog w) A (call (.type "enumerate") [.ref l] [("start",.int i t)]) Q E s:=by
 obtain ⟨⟨c,dd,dt,ss⟩,gl,hc,k,hd⟩:=isl;obtain rfl:c=.type "list":=hc;obtain rfl:dt=.seq ys k:=hd;obtain ⟨hd0,tl,c1⟩:=F.called_enumerate.mro;have c2:=F.called_enumerate.made;have c3:=F.called_enumerate.sub;have c4:=F.called_enumerate.notType;have c5:=F.called_enumerate.canCreate;have c6:=F.called_enumerate.init.lookup;have c7:=ajv (.ref l) (.int i t);refine wpAny_call (codeAny_of_tree (show wpAny _ _ (callAny (.type "enumerate") _) _ _ _ from wpAny_pure ⟨Code.quiet_builtin _ 'c',codeAny_builtin F.entry_type_call ?_⟩));rw [Around.under_plain (weight_type_call_type "enumerate" [.ref l] [("start",.int i t)]) (units_type_call_type "enumerate" [.ref l] [("start",.int i t)])]
 repeat (any_goals (first | assumption | wp_step))
 have z:(s.heap.push (eG l)).objs.size=s.heap.objs.size+1:=Heap.size_push ..;have made:IsEnum ((s.heap.push (eG l)).push (kQ s.heap.objs.size i)) (s.heap.objs.size+1) s.heap.objs.size i .none:=by
  have g:=Heap.get?_push_size (s.heap.push (eG l)) (o:=kQ s.heap.objs.size i) rfl;rw [z] at g;exact g
 have done:=fin _ made ⟨_,Heap.get?_push_of_some _ (Heap.get?_push_size _ rfl),rfl,rfl⟩ fun b o g=>Heap.get?_push_of_some _ (Heap.get?_push_of_some _ g)
 refine codeAny_mono (codeAny_call_builtin F.called_enumerate.plain F.entry_enumerate_new (wpAny_of_eq (akS _ _) (afd (dd:=dd) (k:=k) (ss:=ss) fits prog w A.in1 (wants (fun v s2=>v=.ref (s.heap.objs.size+1)/\s2={ s with heap:=(s.heap.push (eG l)).push (kQ s.heap.objs.size i) }) E) s ⟨gl,?_,?_⟩))) ?_
 .rw [z]
 .rfl
 .intro r s1 hr
  rcases r with e | fl
  .exact hr
  .cases fl with
   | ret v=>
    obtain ⟨rfl,rfl⟩:=hr;have isT:Shared.TypeIs { s with heap:=(s.heap.push (eG l)).push (kQ s.heap.objs.size i) } (.ref (s.heap.objs.size+1)) "enumerate":=⟨_,made,rfl⟩
    have c8:=F.called_enumerate.init.bind (.ref (s.heap.objs.size+1))
    repeat (any_goals (first | assumption | wp_step))
    have ran:=akT (self:=.ref (s.heap.objs.size+1)) (b:=.ref l) (c:=.int i t) prog w A.in1 (wants (fun v s2=>v=.none/\s2={ s with heap:=(s.heap.push (eG l)).push (kQ s.heap.objs.size i) }) E) _ ⟨isT,rfl,rfl⟩;refine codeAny_mono (codeAny_call_builtin F.called_enumerate.init.plain F.entry_object_init (F.called_enumerate.init.check _ _ _ _ _ _ _ _ isT (ajw _ _ _) ran)) fun r s2 hr=>?_
    rcases r with e | fl
    .exact hr
    .cases fl with
     | ret v=>
      obtain ⟨rfl,rfl⟩:=hr
      repeat (any_goals (first | assumption | wp_step))
     | next=>exact hr.elim
     | brk=>exact hr.elim
     | cont=>exact hr.elim
   | next=>exact hr.elim
   | brk=>exact hr.elim
   | cont=>exact hr.elim
end
theorem arD{w:World}(calm:A.handled=none){l:Addr}(apart:l≠it)(ys:Array Value) :
  Draws prog w A it [it,l] (ys.size+1) (fun i v=>1<=i/\ys[i-1]?=some v) (fun i h=>1<=i/\h.IsListIter it l (i-1)/\h.IsList l ys):=by
 have D:=Draws.list (prog:=prog) (w:=w) calm it l apart ys;refine ⟨fun i h st=>D.live (i-1) h st.2,fun i h h' st same=>⟨st.1,D.frame (i-1) h h' st.2 same⟩,fun i s Q E hi st fin=>?_,fun s Q E st fin=>D.done s Q E st.2 fin⟩;refine D.item (i-1) s Q E (by have:=st.1;lia) st.2 fun x h' tk px st' sb=>fin x h' tk ⟨st.1,px⟩ ⟨by lia,?_⟩ sb
 rw [show i+1-1=i-1+1 by have:=st.1;lia];exact st'
theorem arE{w : World}(calm : A.handled = none){l: Addr}{ys : Array Value}(none : ys[i]? = none) :
    Draws prog w A it [it, l] (i+1) (fun _ _ => True) (fun k h => k = i+1 /\ h.IsListIter it l i /\ h.IsList l ys) :=
  ⟨fun _ _ st => let ⟨o, ho, _⟩ := st.2.1; ⟨o, ho⟩, fun _ _ _ st same => ⟨st.1, st.2.1.at fun o g => same it (by simp) o g, st.2.2.at fun o g => same l (by simp) o g⟩,
   fun k s Q E hk st => absurd st.1 'a', fun s Q E st fin => wpAny_nextOf_list_end calm st.2.1 st.2.2 none fin⟩
noncomputable def Ite1 (l : Addr) : It :=
  ⟨fun i H => ∃ xs x, H l = some (.lst xs) /\ xs[i]? = some x,
   fun i H v H' => ∃ t xs x, H l = some (.lst xs) /\ xs[i]? = some x /\ H t = none /\ v = .ref t /\ H' = A0 H t (.tup [.int (i+1 : Nat), x]),
   fun i H => ∃ xs, H l = some (.lst xs) /\ xs.length <= i⟩
theorem ajx{P:Program}{w:World}{pos:Pos}(e it l:Addr)(N0:e≠it) :
  Turn P w K (.Tuple elts x1 pos) (Ite1 l) [e,it] e (fun i h=>(∃ old,IsEnum h e it ((i+1:Nat):Int) old)/\h.IsListIter it l i) where
 mem:=by simp
 obj:=fun i h ⟨⟨old,he⟩,hi⟩ c hc=>by
  have q:c=e\/c=it:=by simpa using hc
  rcases q with rfl | rfl
  .exact ⟨_,he,fun v q=>by cases q⟩
  .obtain ⟨o,e,c,d⟩:=hi;exact ⟨o,e,fun v z=>by rw [d] at z;cases z⟩
 keep:=fun i h h' ⟨⟨old,he⟩,hi⟩ k=>⟨⟨old,k e (by simp) _ he⟩,hi.at fun o q=>k it (by simp) o q⟩
 item:=by
  intro X hP hw hK hc i pins s Y H E I hf ⟨⟨old,he⟩,hi⟩ hg;subst hP hw hK;obtain ⟨xs,x,e1,hx⟩:=hg;obtain ⟨its1,i5,p1,_⟩:=I.list (D9.of (K:=X.K) e1);obtain ⟨u1,C4,r1⟩:=i5.get hx;have C9:i<its1.length:=(I0.mp C4).1;obtain ⟨ol,gl,cl,_⟩:=p1.isList;have nli:l≠it:=fun q=>by
   obtain ⟨oi,gi,ci,_⟩:=hi;rw [q,gi] at gl
   cases gl
   rw [ci] at cl;exact absurd cl (by decide)
  have nle:e≠l:=fun q=>by
   rw [<- q,he] at gl
   cases gl
   exact absurd (show Value.type "enumerate"=Value.type "list" from cl) (by decide)
  refine wpAny_pyNext_enum_itemD (i:=i+1) (arD (A:=X.A.in1) (show X.A.in1.handled=none from I.ok.hd hc) nli its1.toArray) he ⟨by lia,by simpa using hi,p1.isList⟩ (by simp;lia) N0 (by simp [N0,nle]) fun y h' tk py b1 b2 b3 b4 b5=>?_
  obtain rfl:u1=y:=by
   have:=py.2
   simp [C4] at this;exact this
  refine ⟨_,rfl,wpAny_letOwnedTupleGo_enum b1 fun h2' c1 c2=>?_⟩;have m9:e<s.heap.objs.size:=Heap.lt_size he;have up:∀ c o,c≠e->h'.get? c=some o->h2'.get? c=some o:=fun c o hc q=>(c2.2 c hc).trans q
  have hT:=up _ _ (Nat.ne_of_gt m9) b3;have nT:∀ c∈[e,it],c≠s.heap.objs.size:=fun c hc=>by
   have q:c=e\/c=it:=by simpa using hc
   refine O8 ?_
   rcases q with rfl | rfl
   .exact m9
   .obtain ⟨o,q,_⟩:=hi;exact Heap.lt_size q
  refine ⟨.ref s.heap.objs.size,A0 H s.heap.objs.size (.tup [.int (i+1:Nat),x]),I.turnNew (t':=tk+1) (ch:=[e,it]) hf (fun c u hc q=>?_) (B3 _) ⟨by show 2<=sizeLine;decide,[.int (i+1:Nat) tk,u1],.cons ⟨_,rfl⟩ (.cons r1 .nil),?_⟩,rfl,⟨_,xs,x,e1,hx,I.fresh,rfl,rfl⟩,
   ⟨⟨_,c1⟩,(show h'.IsListIter it l (i+1) by simpa using b2.2.1).at fun o q=>up _ o N0.symm q⟩,fun c hc=>by rw [A9 (nT c hc)];exact (hf c hc).1⟩
  .have q1:c≠e/\c≠it:=⟨fun q=>hc (by simp [q]),fun q=>hc (by simp [q])⟩
   exact up c u q1.1 (b5 c u q1.1 q1.2 q)
  .exact ⟨_,hT,rfl,_,rfl⟩
 done:=by
  intro X hP hw hK hc i pins s Y H E I hf ⟨⟨old,he⟩,hi⟩ hg;subst hP hw hK;obtain ⟨xs,e1,e9⟩:=hg;obtain ⟨its1,i5,p1,_⟩:=I.list (D9.of (K:=X.K) e1);have q1:=i5.length;sleep 1;exact wpAny_pyNext_enum_endD (arE (A:=X.A.in1) (show X.A.in1.handled=none from I.ok.hd hc) (ys:=its1.toArray) (i:=i) (by simp;lia)) he ⟨rfl,hi,p1.isList⟩ fun h' eb=>⟨rfl,I.turned (t':=s.toks) (fun b o hb q=>eb b o hb q) f0 f1 f3 f4 f5⟩
 self:=fun _ _ _ _ _ st h=>by
  obtain ⟨⟨old,he⟩,_⟩:=st;exact wpAny_pyIter_enum he h
theorem akU:bootBuiltins "enumerate"=some (.type "enumerate"):=by decide +kernel
section
variable {X:Cx}
noncomputable def xT (ta:TA):TI:=fun Y H R=>ta Y H fun vs H1=>∃ (l:Addr) (xs:List V),vs=[.ref l]/\H1 l=some (.lst xs)/\R (Ite1 l) H1
theorem amO{a:Expr}{p pos:Pos}(hg:Gl X "enumerate")(hm:X.mg "enumerate"=none)(ha:PA X [a] ta)(h1:M4 a=false:=by rfl) :
  PI X (.Tuple elts x1 tpos) (.Call (.Name "enumerate" p) [a] [⟨some "start",.Constant (.int 1) ck cpos,kpos⟩] pos) (xT ta):=by
 intro pins s Y H R I h;refine wpAny_Call_Name_kw (dY I hg hm akU (PySem.W.callWith_of (P:=fun _=>True) ?_ (fun _ _=>⟨_,.inr (.inl rfl),PySem.W.Looks.of_pure rfl⟩) (PyProof.Rows.evalArgs_kw2 rfl (C2 (ha pos pins s Y H _ I h) fun us s1 ⟨vs,H1,I1,r1,q1⟩=>?_) (P1 h1))))
 .rw [P1 h1];rfl
 have kw:PK X [⟨some "start",.Constant (.int 1) ck cpos,kpos⟩] (tCons (tC (.int 1)) tNil):=an1 anb aqL;refine C2 (kw pos pins s1 Y H1 (fun zs H2=>zs=[.int 1]/\H2=H1) I1 ⟨rfl,rfl⟩) fun ws s2 ⟨zs,H2,I2,rz,e1,e2⟩=>⟨trivial,?_⟩
 subst e1 e2;obtain ⟨l,xs,rfl,e1,q⟩:=q1;obtain ⟨u1,rfl,pI⟩:=vals1 r1
 cases pI
 obtain ⟨u2,rfl,ru2⟩:=vals1 rz;obtain ⟨t,rfl⟩:=ru2;obtain ⟨its1,i5,p1,_⟩:=I2.list (D9.of (K:=X.K) e1);refine aeQ p1.isList (by decide) fun h' z1 z2 z4=>wpAny_pyIter_enum z1 ?_
 refine ⟨s2.heap.objs.size+1,[s2.heap.objs.size+1,s2.heap.objs.size],_,_,H2,rfl,I2.kept (t':=s2.toks) z4,ajx _ s2.heap.objs.size l (o8 'a'),⟨⟨_,z1⟩,z2⟩,fun b hb=>?_,q⟩;have f6:s2.heap.objs.size<=b:=by
  have e:b=s2.heap.objs.size+1\/b=s2.heap.objs.size:=by simpa using hb
  rcases e with rfl | rfl
  .exact bW _ _
  .exact B3 _
 exact I2.fpOk f6 (I2.hok.fresh f6)
theorem amP{a:Expr}{p pos:Pos}(hm:X.mg "enumerate"=none)(ha:QA X [a] ta)(hg:Gl X "enumerate":=by rfl)(h1:M4 a=false:=by rfl) :
  QI X (.Tuple elts x1 tpos) (.Call (.Name "enumerate" p) [a] [⟨some "start",.Constant (.int 1) ck cpos,kpos⟩] pos) (xT ta):=⟨amO hg hm ha.out h1⟩
end
theorem akW{R:It->Hp->Prop} : xT ta Y H R=ta Y H fun vs H1=>∃ (l:Addr) (xs:List V),vs=[.ref l]/\H1 l=some (.lst xs)/\R (Ite1 l) H1:=rfl
theorem forE1{l:Addr}{g:TG}(Pv:Nat->St->Hp->Prop)(h0:Pv 0 Y H)(hl:∀ i Y H,Pv i Y H->H l=some (.lst xs))(hs:∀ i x t Y H,xs[i]?=some x->Pv i Y H->H t=none->g (.ref t) Y (A0 H t (.tup [.int (i+1:Nat),x])) fun σ2 H2=>tb { D with nx:=Pv (i+1),ct:=Pv (i+1),bk:=D.nx } σ2 H2)(hd:∀ Y H,Pv xs.length Y H->D.nx Y H):ForIt (Ite1 l) g tb D Y H:=by
 refine ⟨fun i m Y H=>m=xs.length-i/\i<=xs.length/\Pv i Y H,⟨xs.length,by simp,F9 _,h0⟩,?_⟩;rintro i m Y H ⟨rfl,hi,p⟩;have e1:=hl i Y H p
 by_cases C9:i<xs.length
 .refine .inr ⟨⟨xs,xs[i],e1,by simp⟩,Pv (i+1),fun σ' H' p'=>⟨_,by lia,rfl,C9,p'⟩,fun v H' y=>?_⟩;obtain ⟨t,xs',x,f1,hx,ht,rfl,rfl⟩:=y;rw [e1] at f1;cases f1;exact hs i x t Y H hx p ht
 .have e:i=xs.length:=by lia
  subst e;exact .inl ⟨⟨xs,e1,by lia⟩,hd Y H p⟩
end L2
namespace L2
open PySem PySem.Spec PyProof.Rows
noncomputable def xU:V->List V->Hp->VK->Prop:=fun x vs H Q=>∃ (l:Addr) (zs:List Int) (z:Int),x=.ref l/\vs=[.int z]/\H l=some (.lst (zs.map V.int))/\z∈zs/\Q .non (A0 H l (.lst ((zs.erase z).map V.int)))
theorem sG:∀ {vs:List Value} {zs:List Int},IntsAre vs zs->∀ {j:Nat} {z:Int},zs[j]?=some z->∃ t,vs[j]?=some (.int z t)
 | _,_,.nil,_,_,h=>by simp at h
 | _,_,.cons _ _ _,0,_,h=>by simp at h;subst h;exact ⟨_,rfl⟩
 | _,_,.cons _ _ r,j+1,z,h=>by
  obtain ⟨t,q⟩:=sG r (j:=j) (z:=z) (by simpa using h);exact ⟨t,by simpa using q⟩
theorem ajy : rO X "list.remove" xU:=by
 intro pins s Y H x vs v us Q I rx rv h;obtain ⟨l,zs,zz,rfl,rfl,hH,hm,q⟩:=h
 cases rx
 obtain ⟨u,rfl,ru⟩:=rv.one;obtain ⟨t,rfl⟩:=ru;obtain ⟨z,its,n,r,hl,e⟩:=I.lstM hH;have sa:=rL r;have hj:zs.idxOf zz<zs.length:=jH.mpr hm;rw [A6] at hl;have L4:∀ (j:Nat) (hj:j<its.toArray.size),∃ y t',zs[j]?=some y/\its.toArray[j]=.int y t':=fun j hj'=>by
  have hj2:j<zs.length:=by rw [hl];simpa using hj'
  obtain ⟨t',ht⟩:=sG sa (j:=j) (z:=zs[j]) (by simp);refine ⟨zs[j],t',by simp,?_⟩
  have:=(I0.mp ht).2
  simpa using this
 have hsz:zs.idxOf zz<its.toArray.size:=by rw [N5,<- hl];exact hj
 refine call_meets F.slot_list_remove ⟨_,e,rfl⟩ F.entry_list_remove (F.args_list_remove_2 _ _)
  (MeetsSeq.list_remove l its.toArray n (.int zz t) (isInt zz) (fun y hy=>eq_isInt zz t sa y (by simpa using hy)) (zs.idxOf zz) hsz ?_ (fun m pM C9=>?_) (by rw [N5,<- hl];rw [A6] at z;exact z)) ⟨e,?_⟩
 .obtain ⟨y,t',h1,h2⟩:=L4 _ hsz;rw [h2]
  have:y=zz:=by
   have:=mO hj
   rw [G5 hj,this] at h1;exact (Option.some.inj h1).symm
  subst this;simp [isInt]
 .obtain ⟨y,t',h1,h2⟩:=L4 _ pM;rw [h2]
  have:y≠zz:=fun q=>by
   obtain ⟨h3,h4⟩:=I0.mp h1
   have:=List.not_of_lt_findIdx (show m<zs.findIdx (· == zz) from C9)
   rw [h4] at this;simp [q] at this
  simp [isInt,this]
 .refine ⟨.non,_,I.lset (its':=its.eraseIdx (zs.idxOf zz)) hH e ?_ ?_ ?_,rfl,q⟩
  .show its.toArray.eraseIdxIfInBounds (zs.idxOf zz)=_;rw [List.eraseIdxIfInBounds_toArray]
  .rw [List.erase_eq_eraseIdx_of_idxOf (l:=zs) (a:=zz) (w:=rfl),agJ];exact r.eraseIdx _
  .rw [A6,List.length_erase_of_mem hm];rw [A6] at z;lia
theorem akX : QMt X "list.remove" xU:=⟨fun pins s Y H x xs v us Q I rx rv h=>ajy pins s Y H x xs v us Q I rx rv h⟩
theorem arF{l:Addr}{zs:List Int}{z:Int}(h:H l=some (.lst (zs.map V.int)))(hm:z∈zs)(q:Q .non (A0 H l (.lst ((zs.erase z).map V.int)))):xU (.ref l) [.int z] H Q:=⟨l,zs,z,rfl,rfl,h,hm,q⟩
noncomputable def rMinL:List V->Hp->VK->Prop:=fun xs H Q=>∃ (p:Addr) (ns:List Int),xs=[.ref p]/\H p=some (.lst (ns.map V.int))/\ns≠[]/\∀ M:Int,M∈ns->(∀ a∈ns,M<=a)->Q (.int M) H
theorem akY(hc:X.calm=true):CallR X (.builtin "min") rMinL:=by
 intro pins s Y H xs us Q I r h;obtain ⟨p,ns,rfl,hH,N0,q⟩:=h;obtain ⟨u,rfl,ru⟩:=vals1 r
 cases ru
 obtain ⟨z,its,n,rr,hl,e⟩:=I.lstM hH;have hi:=rL rr;have hL:s.heap.IsList p its.toArray:=⟨_,e,rfl,n,rfl⟩
 obtain ⟨ys,e2⟩:=hi.allInts.items;have fA:ns=ys.toList.map (·.1):=by rw [<- hi.numsOf,<- nums_intItems,<- e2]
 have hsz:0<ys.size:=by
  have h3:=List.length_pos_iff.mpr N0;rw [fA,A6,gG] at h3;exact h3
 rw [e2] at hL;refine min_intList (I.ok.hd hc) hL hsz fun v h' tk hv hk=>?_
 obtain ⟨t,rfl⟩:=intItems_at hv;obtain ⟨h1,h2⟩:=argBest_lt (numAt ys) (ys.size-1);refine ⟨.int _,H,I.kept hk,⟨t,rfl⟩,q _ ?_ fun a ha=>?_⟩
 .rw [fA,numAt_eq];exact getD_mem (by rw [A6,gG];lia)
 .rw [fA] at ha;obtain ⟨j,hj,rfl⟩:=mem_getD ha;rw [A6,gG] at hj;rw [<- numAt_eq];exact h2 j 'a'
theorem arG(hc:X.calm=calm:=by rfl):QCall X (.builtin "min") (rCalm calm rMinL):=⟨fun pins s Y H xs us Q I r h=>akY (hc.trans h.1) pins s Y H xs us Q I r h.2⟩
theorem arH{p:Addr} : rMinL [.ref p] H Q=∃ ns:List Int,H p=some (.lst (ns.map V.int))/\ns≠[]/\∀ M:Int,M∈ns->(∀ a∈ns,M<=a)->Q (.int M) H:=
 propext ⟨fun ⟨_,ns,e,h⟩=>(by cases e;exact ⟨ns,h⟩),fun ⟨ns,h⟩=>⟨p,ns,rfl,h⟩⟩
noncomputable def gT (n:Nat) (fr:St) (Pv:Nat->List V->Hp->Prop) (i:Nat) (ys:List V) (σ2:St) (H2:Hp):Prop:=i<=n/\ys.length<=i/\(∃ v w,σ2=v::w::fr)/\Pv i ys H2
theorem gT.put{fr:St}{Pv:Nat->List V->Hp->Prop}{y:V}{o o2:Option V}(hi:i<n)(hy:ys.length<=i)(p:Pv (i+1) (ys++[y]) H):gT n fr Pv (i+1) (ys++[y]) (o::o2::fr) H:=
 ⟨hi,by rw [C1,O4];lia,⟨_,_,rfl⟩,p⟩
theorem compE{l:Addr}(fr:St)(X6:compStart 2 ixs Y=none::none::fr)(Pv:Addr->Nat->List V->Hp->Prop)(h0:∀ D,H1 D=none->Pv D 0 [] (A0 H1 D (.lst [])))(hl:∀ D i ys H,H1 D=none->i<=xs.length->Pv D i ys H->H l=some (.lst xs))(hs:∀ D i x t ys H,H1 D=none->i<xs.length->xs[i]?=some x->Pv D i ys H->H D=some (.lst ys)->ys.length<=i->H t=none->c (some (.int i)::some x::fr) (A0 H t (.tup [.int i,x])) fun b H4=>
   if b=true then te (some (.int i)::some x::fr) H4 fun y H5=>H5 D=some (.lst ys)/\ys.length<sizeLine/\gT xs.length fr (Pv D) (i+1) (ys++[y]) (some (.int i)::some x::fr) (A0 H5 D (.lst (ys++[y])))
   else H4 D=some (.lst ys)/\gT xs.length fr (Pv D) (i+1) ys (some (.int i)::some x::fr) H4)(hd:∀ D ys H,H1 D=none->Pv D xs.length ys H->H D=some (.lst ys)->ys.length<=xs.length->Q (.ref D) H):cH (nK l) 2 ixs (gTup K 2 (gCons (gName 0) (gCons (gName 1) gNil))) c te Y Q H1:=by
 intro D hD;refine ⟨xs.length,gT xs.length fr (Pv D),⟨F9 _,F9 _,⟨none,none,X6⟩,h0 D hD⟩,?_⟩;rintro i ys σ2 H2 ⟨hi,hy,⟨v,w,rfl⟩,p⟩ hDy;have q:=hl D i ys H2 hD hi p
 by_cases C9:i<xs.length
 .refine .inr ⟨C9,⟨xs,xs[i],q,by simp [C9]⟩,fun x H' y=>?_⟩;obtain ⟨t,xs',x',f1,hx,ht,rfl,rfl⟩:=y;rw [q] at f1;cases f1;exact ⟨t,_,rfl,C6.of A5,rfl,_,_,rfl,_,_,rfl,rfl,hs D i x' t ys H2 hD C9 hx p hDy hy ht⟩
 .have e:i=xs.length:=by lia
  subst e;exact .inl ⟨⟨xs,q,B3 _⟩,hd D ys H2 hD p hDy hy⟩
theorem arI{p:Addr}{k:Int}{v:V}{Q:Hp->Prop} : rSetL (.ref p) (.int k) v H Q=∃ xs j,H p=some (.lst xs)/\k7 xs.length k=some j/\Q (A0 H p (.lst (xs.set j v))):=
 propext ⟨fun ⟨_,xs,_,j,e1,e2,h⟩=>(by cases e1;cases e2;exact ⟨xs,j,h⟩),fun ⟨xs,j,h⟩=>⟨p,xs,k,j,rfl,rfl,h⟩⟩
noncomputable def FS (ts bad:List Str) (z:Str->Prop) (fr:List Int):Prop:=fr.Nodup/\∀ n:Int,n∈fr↔∃ (m:Nat) (q:Str),n=(m:Int)/\ts[m]?=some q/\q∉bad/\z q
theorem FS.nil(z:Str->Prop):FS [] [] z []:=⟨by simp,fun n=>by simp⟩
theorem FS.snoc{z:Str->Prop}(h:FS ts bad z fr)(hi:i=ts.length)(hb:q∉bad):(z q->FS (ts++[q]) bad z (fr++[(i:Int)]))/\(¬ z q->FS (ts++[q]) bad z fr):=by
 have K4:∀ (m:Nat) (x:Str),(ts++[q])[m]?=some x↔(ts[m]?=some x\/(m=i/\x=q)):=fun m x=>by
  rcases Nat.lt_trichotomy m ts.length with hm | hm | hm
  .rw [dQ hm]
   constructor
   .exact .inl
   .rintro (h | ⟨h,_⟩)
    .exact h
    .lia
  .subst hm;rw [fW (B3 _),Nat.sub_self]
   have:ts[ts.length]?=none:=by simp
   rw [this];simp [hi,eq_comm]
  .have h1:ts[m]?=none:=by simp;lia
   have h2:(ts++[q])[m]?=none:=by simp;lia
   rw [h1,h2]
   simp
   lia
 have oW:(i:Int)∉fr:=fun hm=>by
  obtain ⟨m,x,e,h1,_⟩:=(h.2 _).mp hm
  have:=(I0.mp h1).1
  lia
 refine ⟨fun hz=>⟨?_,fun n=>?_⟩,fun hz=>⟨h.1,fun n=>?_⟩⟩
 .rw [bS];refine ⟨h.1,by simp,fun x hx y hy e=>oW ?_⟩;rw [<- G2.mp hy,<- e];exact hx
 .rw [E4,h.2,G2]
  constructor
  .rintro (⟨m,x,e,h1,h2,h3⟩ | rfl)
   .exact ⟨m,x,e,(K4 m x).mpr (.inl h1),h2,h3⟩
   .exact ⟨i,q,rfl,(K4 i q).mpr (.inr ⟨rfl,rfl⟩),hb,hz⟩
  .rintro ⟨m,x,e,h1,h2,h3⟩
   rcases (K4 m x).mp h1 with h1 | ⟨rfl,rfl⟩
   .exact .inl ⟨m,x,e,h1,h2,h3⟩
   .exact .inr e
 .rw [h.2]
  constructor
  .rintro ⟨m,x,e,h1,h2,h3⟩;exact ⟨m,x,e,(K4 m x).mpr (.inl h1),h2,h3⟩
  .rintro ⟨m,x,e,h1,h2,h3⟩
   rcases (K4 m x).mp h1 with h1 | ⟨rfl,rfl⟩
   .exact ⟨m,x,e,h1,h2,h3⟩
   .exact absurd h3 hz
theorem aiG(nd:ts.Nodup)(h1:ts[i]?=some q)(h2:ts[j]?=some q):i=j:=by
 obtain ⟨a1,b1⟩:=I0.mp h1;obtain ⟨a2,b2⟩:=I0.mp h2
 have:=dN.mp nd
 rw [fX] at this
 rcases Nat.lt_trichotomy i j with hl | hl | hl
 .exact absurd (b1.trans b2.symm) (this i j a1 a2 hl)
 .exact hl
 .exact absurd (b2.trans b1.symm) (this j i a2 a1 hl)
theorem FS.take{z:Str->Prop}(nd:ts.Nodup)(h:FS ts bad z fr){M:Nat}(hp:ts[M]?=some p):FS ts (bad++[p]) z (fr.erase (M:Int)):=by
 refine ⟨h.1.erase _,fun n=>?_⟩;rw [h.1.mem_erase_iff,h.2]
 constructor
 .rintro ⟨N0,m,x,e,h1,h2,h3⟩;refine ⟨m,x,e,h1,fun hm=>?_,h3⟩
  rcases E4.mp hm with hm | hm
  .exact h2 hm
  .rw [G2.mp hm] at h1;exact N0 (by rw [e,aiG nd h1 hp])
 .rintro ⟨m,x,e,h1,h2,h3⟩;refine ⟨fun e2=>h2 ?_,m,x,e,h1,fun hm=>h2 (T8 _ hm),h3⟩
  have:m=M:=by lia
  subst this;rw [hp] at h1;cases h1
  simp
theorem FS.turn{z z':Str->Prop}(nd:ts.Nodup)(h:FS ts bad z fr)(N0:∀ q,q≠y->(z' q↔z q))(hy:¬ z y)(hm:ts[m]?=some y)(hb:y∉bad):(z' y->FS ts bad z' (fr++[(m:Int)]))/\(¬ z' y->FS ts bad z' fr):=by
 have oW:(m:Int)∉fr:=fun h1=>by
  obtain ⟨k,x,e,h2,_,h3⟩:=(h.2 _).mp h1
  have:k=m:=by lia
  subst this;rw [hm] at h2;cases h2;exact hy h3
 have i6:∀ (k:Nat) (x:Str),ts[k]?=some x->x≠y\/(k=m/\x=y):=fun k x hk=>by
  by_cases e:x=y
  .subst e;exact .inr ⟨aiG nd hk hm,rfl⟩
  .exact .inl e
 refine ⟨fun hz=>⟨?_,fun n=>?_⟩,fun hz=>⟨h.1,fun n=>?_⟩⟩
 .rw [bS];refine ⟨h.1,by simp,fun x hx w hw e=>oW ?_⟩;rw [<- G2.mp hw,<- e];exact hx
 .rw [E4,h.2,G2]
  constructor
  .rintro (⟨k,x,e,h1,h2,h3⟩ | rfl)
   .rcases i6 k x h1 with c | ⟨_,rfl⟩
    .exact ⟨k,x,e,h1,h2,(N0 x c).mpr h3⟩
    .exact absurd h3 hy
   .exact ⟨m,y,rfl,hm,hb,hz⟩
  .rintro ⟨k,x,e,h1,h2,h3⟩
   rcases i6 k x h1 with c | ⟨rfl,rfl⟩
   .exact .inl ⟨k,x,e,h1,h2,(N0 x c).mp h3⟩
   .exact .inr e
 .rw [h.2]
  constructor
  .rintro ⟨k,x,e,h1,h2,h3⟩
   rcases i6 k x h1 with c | ⟨_,rfl⟩
   .exact ⟨k,x,e,h1,h2,(N0 x c).mpr h3⟩
   .exact absurd h3 hy
  .rintro ⟨k,x,e,h1,h2,h3⟩
   rcases i6 k x h1 with c | ⟨_,rfl⟩
   .exact ⟨k,x,e,h1,h2,(N0 x c).mp h3⟩
   .exact absurd h3 hz
theorem FS.congr{z z':Str->Prop}(h:FS ts bad z fr)(e:∀ q,z' q↔z q):FS ts bad z' fr:=⟨h.1,fun n=>by rw [h.2];exact ⟨fun ⟨m,x,a,b,c,d⟩=>⟨m,x,a,b,c,(e x).mpr d⟩,fun ⟨m,x,a,b,c,d⟩=>⟨m,x,a,b,c,(e x).mp d⟩⟩⟩
theorem ahH{E:List (Str×Str)}(h:FS ts line (fun q=>K3 E line q=0) fr){M:Int}(hM:M∈fr)(iS:∀ a∈fr,M<=a):∃ (m:Nat) (p:Str),M=(m:Int)/\ts[m]?=some p/\nextP E ts line=some p:=by
 obtain ⟨m,p,e,h1,h2,h3⟩:=(h.2 M).mp hM;refine ⟨m,p,e,h1,?_⟩;rw [afw];obtain ⟨hm,rfl⟩:=I0.mp h1;have e1:ts=ts.take m++ts[m]::ts.drop (m+1):=by rw [<- aD hm,V0]
 generalize hP:(fun p=>!decide (p∈line)&&decide (∀ e∈E,e.2=p->e.1∈line))=P;have hp:P ts[m]=true:=by
  rw [<- hP];simp only [U4,Bool.not_eq_true',decide_eq_false_iff_not,decide_eq_true_eq];exact ⟨h2,cnt_zero.mp h3⟩
 have pN:(ts.take m).find? P=none:=by
  rw [List.find?_eq_none];intro x hx hxP;obtain ⟨k,hk,rfl⟩:=Z3.mp hx;rw [E9] at hk;rw [List.getElem_take,<- hP] at hxP;simp only [U4,Bool.not_eq_true',decide_eq_false_iff_not,decide_eq_true_eq] at hxP
  have:=iS (k:Int) ((h.2 _).mpr ⟨k,ts[k],rfl,by simp,hxP.1,cnt_zero.mpr hxP.2⟩)
  lia
 conv=>lhs;rw [e1]
 rw [List.find?_append,pN,aG,hp];rfl
theorem amQ{E:List (Str×Str)}(r:R9 E ts line)(h:q∈line):K3 E line q=0:=by
 obtain ⟨pre,post,rfl⟩:=List.append_of_mem h
 have:=(gQ (r pre q post rfl)).2.2
 rw [cnt_zero] at this ⊢
 intro e he h2;exact T8 _ (this e he h2)
theorem agT{f:Str->V} : ∀ {ts pre:List Str},(pre++ts).Nodup->Y5 (B5 pre f) (B5 ts f)=B5 (pre++ts) f
 | [],pre,_=>by rw [G7];rfl
 | t::ts,pre,h=>by
  have ht:t∉pre:=fun hm=>(bS.mp h).2.2 t hm t O0 rfl
  show Y5 (putK (B5 pre f) (Sum.inr t) (f t)) (B5 ts f)=_;rw [eF _ ht,show B5 (pre++[t]) (fun x=>if x=t then f t else f x)=B5 (pre++[t]) f from W1 fun x _=>by
   by_cases e:x=t
   .rw [if_pos e,e]
   .rw [if_neg e]]
  rw [agT (pre:=pre++[t]) (by simpa using h)]
  simp
theorem afy:∀ {l m:List Int},l.Nodup->(∀ x∈l,x∈m)->l.length<=m.length
 | [],_,_,_=>F9 _
 | x::l,m,nd,h=>by
  obtain ⟨n1,n2⟩:=V8.mp nd;have hx:=h x O0
  have:=afy (l:=l) (m:=m.erase x) n2 fun y hy=>(List.mem_erase_of_ne (fun e=>n1 (by rw [<- e];exact hy))).mpr (h y (M6 _ hy))
  rw [List.length_erase_of_mem hx] at this;have iR:=List.length_pos_of_mem hx;rw [L1];lia
theorem aiH{f:Str->V} : ∀ {qs:List Addr} {ts:List Str},Paired (fun q t=>H q=some (.tup [.str t,f t])) qs ts->Paired (fun q (kx:C5×V)=>C6 K H q [kV kx.1,kx.2]) qs (B5 ts f)
 | _,_,.nil=>.nil
 | _,_,.cons h t=>.cons (.of h) (aiH t)
theorem forRs{g:TG}(Pv:Nat->St->Hp->Prop)(h0:Pv 0 Y H)(hs:∀ (P':Nat->St->Hp->Prop) (B':St->Hp->Prop),(∀ i Y H,Pv i Y H->P' i Y H)->∀ i Y H,i<n->Pv i Y H->g (.int (lo+i)) Y H fun σ2 H2=>tb { D with nx:=P' (i+1),ct:=P' (i+1),bk:=B' } σ2 H2)(hd:∀ Y H,Pv n Y H->D.nx Y H):ForIt (o6 lo n) g tb D Y H:=forR Pv h0 (hs Pv _ fun _ _ _ h=>h) hd
theorem forLs{g:TG}(Pv:Nat->St->Hp->Prop)(h0:Pv 0 Y H)(hl:∀ i Y H,i<=xs.length->Pv i Y H->D9 K H a xs)(hs:∀ (P':Nat->St->Hp->Prop) (B':St->Hp->Prop),(∀ i Y H,Pv i Y H->P' i Y H)->∀ i x Y H,xs[i]?=some x->Pv i Y H->g x Y H fun σ2 H2=>tb { D with nx:=P' (i+1),ct:=P' (i+1),bk:=B' } σ2 H2)(hd:∀ Y H,Pv xs.length Y H->D.nx Y H):ForIt (aL K a) g tb D Y H:=forL Pv h0 hl (hs Pv _ fun _ _ _ h=>h) hd
theorem midS{t u:TS}(M:St->Hp->Prop)(h:∀ M':St->Hp->Prop,(∀ Y H,M Y H->M' Y H)->t { D with nx:=M' } Y H)(h2:∀ σ' H',M σ' H'->u D σ' H'):tSeqM t u D Y H:=⟨M,h M fun _ _ h=>h,h2⟩
noncomputable def anr:Sp:=fun vs H Q _=>∃ (a:Addr) (rs:List Addr) (zss:List (List Str)),vs=[.ref a]/\IsRows H a rs zss/\zss.flatten.length<=100000/\
 ∀ l H',H l=none->Same H H'->H' l=some (.lst ((toldL zss).map V.str))->Q (.ref l) H'
noncomputable def kR:Sp:=fun vs H Q _=>∃ c,vs=[.str ⟨#[c]⟩]/\Q (.bl (figO c)) H
noncomputable def M3 (R:List Rl):List (Str×List Str):=R.filterMap fun z=>if z.1=("great" : Str) then z.2.head?.map fun y=>(y,z.2.drop 1) else none
noncomputable def F7 (R:List Rl):List Str:=G6 [] ((M3 R).map (·.1))
noncomputable def E3 (R:List Rl) (y:Str):List Str:=((M3 R).filter fun e=>decide (e.1=y)).flatMap (·.2)
theorem gU(A B:List Rl):M3 (A++B)=M3 A++M3 B:=by
 unfold M3;rw [List.filterMap_append]
theorem sH{R:List Rl}{z:Rl}(h:R[i]?=some z):M3 (R.take (i+1))=M3 (R.take i)++M3 [z]:=by
 rw [K7 h,gU]
theorem kS{z:Rl}(h:z.1≠("great" : Str)):M3 [z]=[]:=by
 unfold M3;rw [gB,if_neg h];rfl
theorem sI{fs:List Str} : M3 [(("great" : Str),y::fs)]=[(y,fs)]:=by
 unfold M3;rw [gB,if_pos rfl];rfl
theorem kT{A:List Rl}{fs:List Str}(x:Str):E3 (A++[(("great" : Str),y::fs)]) x=if x=y then E3 A x++fs else E3 A x:=by
 unfold E3;rw [gU,sI,Y1,Z4]
 by_cases h:x=y
 .subst h;simp
 .have:¬ (y=x):=fun e=>h e.symm
  simp [this,h]
theorem sJ{A:List Rl}{fs:List Str} : F7 (A++[(("great" : Str),y::fs)])=dd (F7 A) y:=by
 unfold F7 G6;rw [gU,sI,D8,aF];rfl
noncomputable def aiI (K:PySem.W.Frag):Sp:=fun vs H Q _=>∃ (a:Addr) (ts:List Addr) (R:List Rl),vs=[.ref a]/\IsRules H a ts R/\(∀ z∈R,z.1=("great" : Str)->z.2≠[])/\R.length<=1000/\(∀ i y,(E3 (R.take i) y).length<=10000)/\
 ∀ d ad H',H d=none->Same H H'->H' d=some (.dK (B5 (F7 R) fun y=>.ref (ad y)))->DL H H' (F7 R) ad (E3 R)->Q (.ref d) H'
theorem sK(xs:List V)(h:i<=j):cutV xs (some (i:Int)) (some (j:Int))=(xs.drop i).take (j-i):=by
 unfold cutV;rw [HT.sIx_nat,HT.sIx_nat]
 by_cases hi:i<=xs.length
 .rw [bX hi]
  by_cases hj:j<=xs.length
  .rw [bX hj]
  .rw [Nat.min_eq_right 'a',Z2 (by rw [U3];exact B3 _),Z2 (by rw [U3];lia)]
 .rw [Nat.min_eq_right (by lia:xs.length<=i),mJ (B3 _),mJ 'a',List.take_nil,List.take_nil]
structure Used(ks:List Str)(g:Str->V)(z:Rl):Prop where
 gr:z.1=("great" : Str)->∀ p∈z.2.take 1,p∈ks/\g p=.str "letter"
 a1:z.1=("as" : Str)->∀ p∈(z.2.drop 1).take 1,p∈ks/\g p=.str "letter"
 a2:z.1=("as" : Str)->∀ p∈z.2.drop 2,p∈ks/\(g p=.str "letter"\/g p=.str "mark")
noncomputable def ans (K:PySem.W.Frag):Sp:=fun vs H Q _=>∃ (t d:Addr) (z:Rl) (ks:List Str) (g:Str->V),vs=[.ref t,.ref d]/\H t=some (tupR z)/\H d=some (.dK (B5 ks g))/\Used ks g z/\z.2.length<=1000/\∀ p H',H p=none->Same H H'->H' p=some (.lst [])->Q (.ref p) H'
noncomputable def aiJ (K:PySem.W.Frag):Sp:=fun vs H Q _=>∃ (a d:Addr) (ts:List Addr) (R:List Rl) (ks:List Str) (g:Str->V),vs=[.ref a,.ref d]/\IsRules H a ts R/\H d=some (.dK (B5 ks g))/\(∀ z∈R,Used ks g z/\z.2.length<=1000)/\∀ H',Same H H'->Q .non H'
noncomputable abbrev Tr:=Int×Int×Int
noncomputable def tupT (s:Tr):HO:=.tup [.int s.1,.int s.2.1,.int s.2.2]
structure StepAt(H:Hp)(r:Addr)(ss:List Tr):Prop where
 ex:∃ ts:List Addr,H r=some (.tup (ts.map V.ref))/\Paired (fun t s=>H t=some (tupT s)) ts ss
theorem StepAt.same{ss:List Tr}(h:StepAt H r ss)(S:Same H H'):StepAt H' r ss:=
 let ⟨ts,h1,h2⟩:=h.ex
 ⟨ts,S _ _ h1,L0 h2 fun _ _ e=>S _ _ e⟩
theorem StepAt.put{d:Addr}{ss:List Tr}{o o':HO}(h:StepAt H r ss)(hd:H d=some o')(hn:∀ xs,o'≠.tup xs):StepAt (A0 H d o) r ss:=by
 obtain ⟨ts,h1,h2⟩:=h.ex;refine ⟨ts,?_,L0 h2 fun t s e=>?_⟩
 .rw [A9 (fun e=>by rw [e,hd] at h1;exact hn _ (Option.some.inj h1))];exact h1
 .rw [A9 (fun q=>by rw [q,hd] at e;exact hn _ (Option.some.inj e))];exact e
theorem StepAt.one{t:Addr}{s:Tr}(h1:H r=some (.tup [.ref t]))(h2:H t=some (tupT s)):StepAt H r [s]:=⟨[t],h1,.cons h2 .nil⟩
noncomputable def IsMade (H:Hp) (d:Addr) (ks:List Str) (F:Str->List Tr):Prop:=∃ ad:Str->Addr,H d=some (.dK (B5 ks fun y=>.ref (ad y)))/\∀ y∈ks,StepAt H (ad y) (F y)
theorem IsMade.same{d:Addr}{F:Str->List Tr}(h:IsMade H d ks F)(S:Same H H'):IsMade H' d ks F:=
 let ⟨ad,h1,h2⟩:=h
 ⟨ad,S _ _ h1,fun y hy=>(h2 y hy).same S⟩
theorem IsMade.put{d:Addr}{F:Str->List Tr}{ad:Str->Addr}(h1:H d=some (.dK (B5 ks fun y=>.ref (ad y))))(h2:∀ y∈ks,StepAt H (ad y) (F y)){l:Str}{p:Addr}(hp:StepAt H p (F l)) :
  IsMade (A0 H d (.dK (putK (B5 ks fun y=>.ref (ad y)) (Sum.inr l) (.ref p)))) d (dd ks l) F:=by
 refine ⟨fun y=>if y=l then p else ad y,?_,fun y hy=>?_⟩
 .rw [A5];have e:∀ t,(if t=l then V.ref p else V.ref (ad t))=V.ref (if t=l then p else ad t):=fun t=>by
   by_cases h:t=l
   .rw [if_pos h,if_pos h]
   .rw [if_neg h,if_neg h]
  unfold dd
  by_cases hl:l∈ks
  .rw [if_pos hl,nJ _ hl];exact congrArg (fun x=>some (HO.dK x)) (W1 fun t _=>e t)
  .rw [if_neg hl,eF _ hl];exact congrArg (fun x=>some (HO.dK x)) (W1 fun t _=>e t)
 .by_cases h:y=l
  .subst h;show StepAt _ (if y=y then p else ad y) _;rw [if_pos rfl];exact hp.put h1 (by intro xs e;cases e)
  .show StepAt _ (if y=l then p else ad y) _;rw [if_neg h];refine (h2 y ?_).put h1 (by intro xs e;cases e);unfold dd at hy
   by_cases hl:l∈ks
   .rw [if_pos hl] at hy;exact hy
   .rw [if_neg hl] at hy
    rcases E4.mp hy with q | q
    .exact q
    .exact absurd (G2.mp q) h
structure StI(H H2:Hp)(d:Addr)(P:List Str)(F:Str->List Tr):Prop where
 same:Same H H2
 made:IsMade H2 d (G6 [] P) F
theorem xV(P:List Str)(x:Str):G6 [] (P++[x])=dd (G6 [] P) x:=by
 unfold G6;rw [aF];rfl
theorem StI.putX{d:Addr}{P:List Str}{F:Str->List Tr}(nd:H d=none)(h:StI H H2 d P F)(hP:P.length<100000){l:Str}{p:Addr}(hp:StepAt H2 p (F l)) :
  ∃ kvs o,H2 d=some (.dK kvs)/\DPut H2 d (V.str l) (V.ref p) (A0 H2 d o)/\StI H (A0 H2 d o) d (P++[l]) F:=by
 obtain ⟨ad,h1,h2⟩:=h.made;have hl:=eC P [];rw [Z5,Nat.zero_add] at hl;refine ⟨_,_,h1,cG (k:=Sum.inr l) h1 (by rw [k9];exact K1 'a'),h.same.put nd,?_⟩;rw [xV];exact IsMade.put h1 h2 hp
theorem StI.put{d:Addr}{P:List Str}{F:Str->List Tr}(nd:H d=none)(h:StI H H2 d P F)(hP:P.length<100000){l:Str}{p:Addr}(hp:StepAt H2 p (F l)) :
  ∃ x,DPut H2 d (V.str l) (V.ref p) x/\StI H x d (P++[l]) F:=
 let ⟨_,_,_,h1,h2⟩:=h.putX nd hP hp
 ⟨_,h1,h2⟩
theorem StI.more{d:Addr}{P:List Str}{F:Str->List Tr}(h:StI H H2 d P F)(S:Same H2 H3):StI H H3 d P F:=⟨h.same.trans S,h.made.same S⟩
theorem StI.frz{d:Addr}{P:List Str}{F:Str->List Tr}{o:HO}(h:StI H H2 d P F)(hf:H2 f=some (.dK kvs))(n:H f=none)(nf:f≠d):StI H (A0 H2 f o) d P F:=
 let ⟨ad,h1,h2⟩:=h.made
 ⟨h.same.put n,ad,by rw [A9 nf.symm];exact h1,fun y hy=>(h2 y hy).put hf (by intro xs e;cases e)⟩
theorem StI.thaw{d:Addr}{P:List Str}{F:Str->List Tr}{q:Obj}{o o':HO}(h:StI H H2 d P F)(hf:H2 f=some (.frz q o'))(n:H f=none)(nf:f≠d):StI H (A0 H2 f o) d P F:=
 let ⟨ad,h1,h2⟩:=h.made
 ⟨h.same.put n,ad,by rw [A9 nf.symm];exact h1,fun y hy=>(h2 y hy).put hf (by intro xs e;cases e)⟩
structure FoI(H H2:Hp)(d f:Addr)(o:Obj)(ts:List Str)(af:Str->Addr)(G:Str->List Str)(P:List Str)(F:Str->List Tr):Prop where
 frz:H2 f=some (.frz o (.dK (B5 ts fun y=>.ref (af y))))
 rows:∀ y∈ts,H2 (af y)=some (.lst ((G y).map V.str))
 st:StI H H2 d P F
theorem FoI.more{d:Addr}{af:Str->Addr}{G:Str->List Str}{P:List Str}{F:Str->List Tr}(h:FoI H H2 d f o ts af G P F)(S:Same H2 H3):FoI H H3 d f o ts af G P F:=⟨S _ _ h.frz,fun y hy=>S _ _ (h.rows y hy),h.st.more S⟩
theorem FoI.put{d:Addr}{af:Str->Addr}{G:Str->List Str}{P:List Str}{F:Str->List Tr}(nd:H d=none)(h:FoI H H2 d f o ts af G P F)(hP:P.length<100000){l:Str}{p:Addr}(hp:StepAt H2 p (F l)) :
  ∃ x,DPut H2 d (V.str l) (V.ref p) x/\FoI H x d f o ts af G (P++[l]) F:=by
 obtain ⟨kvs,o',h0,h1,h2⟩:=h.st.putX nd hP hp;refine ⟨_,h1,?_,fun y hy=>?_,h2⟩
 .rw [A9 (fun e=>by have:=h.frz;rw [e,h0] at this;cases this)];exact h.frz
 .rw [A9 (fun e=>by have:=h.rows y hy;rw [e,h0] at this;cases this)];exact h.rows y hy
theorem StI.putL{d:Addr}{P:List Str}{F:Str->List Tr}{o:HO}(h:StI H H2 d P F)(hf:H2 f=some (.lst xs))(n:H f=none):StI H (A0 H2 f o) d P F:=
 let ⟨ad,h1,h2⟩:=h.made
 ⟨h.same.put n,ad,by rw [A9 (fun e=>by rw [e,hf] at h1;cases h1)];exact h1,fun y hy=>(h2 y hy).put hf (by intro xs e;cases e)⟩
structure AsI(H H7 H2:Hp)(d:Addr)(P:List Str)(F:Str->List Tr)(ts:List Addr)(ss:List Tr):Prop where
 st:StI H H2 d P F
 pr:Paired (fun t s=>H2 t=some (tupT s)) ts ss
 sm:Same H7 H2
theorem AsI.putL{H7:Hp}{d:Addr}{P:List Str}{F:Str->List Tr}{ts:List Addr}{ss:List Tr}{o:HO}(h:AsI H H7 H2 d P F ts ss)(hf:H2 f=some (.lst xs))(n:H f=none)(n7:H7 f=none):AsI H H7 (A0 H2 f o) d P F ts ss:=
 ⟨h.st.putL hf n,L0 h.pr fun t s e=>by rw [A9 (fun q=>by rw [q,hf] at e;cases e)];exact e,h.sm.put n7⟩
noncomputable def asKs (R:List Rl):List Str:=R.filterMap fun z=>if z.1=("as" : Str) then z.2.head? else none
theorem sL{R:List Rl}{z:Rl}(h:R[i]?=some z):asKs (R.take (i+1))=asKs (R.take i)++asKs [z]:=by
 rw [K7 h];unfold asKs;rw [List.filterMap_append]
theorem xW{z:Rl}(h:z.1≠("as" : Str)):asKs [z]=[]:=by
 unfold asKs;rw [gB,if_neg h];rfl
theorem xX{fs:List Str} : asKs [(("as" : Str),y::fs)]=[y]:=by
 unfold asKs;rw [gB,if_pos rfl];rfl
theorem xY(R:List Rl):(asKs R).length<=R.length:=List.length_filterMap_le _ _
structure Made(R:List Rl)(L M:List Str)(F:Str->List Tr):Prop where
 lt:∀ (i:Nat) y,L[i]?=some y->F y=[(2,(i:Int),0)]
 mr:∀ (i:Nat) y,M[i]?=some y->F y=[(0,(i:Int),0)]
 gl:∀ y∈F7 R,y∈L
 gr:∀ y∈F7 R,∀ (c:Nat) f,(E3 R y)[c]?=some f->F f=[(2,(L.idxOf y:Int),((c+1:Nat):Int))]
 ne:∀ z∈R,z.1=("as" : Str)\/z.1=("great" : Str)->z.2≠[]
 pt:∀ z∈R,z.1=("as" : Str)->∀ q∈z.2.drop 1,q∈L\/q∈M
 as:∀ z∈R,z.1=("as" : Str)->∀ p qs,z.2=p::qs->F p=qs.map fun q=>(F q).headD (0,0,0)
noncomputable def allKs (R:List Rl) (L M:List Str):List Str:=L++M++(F7 R).flatMap (E3 R)++asKs R
theorem Made.base{R:List Rl}{F:Str->List Tr}(m:Made R L M F)(h:q∈L\/q∈M):∃ s,F q=[s]:=by
 rcases h with h | h
 .obtain ⟨i,hi,e⟩:=Z3.mp h;exact ⟨_,m.lt i q (by rw [G5 hi,e])⟩
 .obtain ⟨i,hi,e⟩:=Z3.mp h;exact ⟨_,m.mr i q (by rw [G5 hi,e])⟩
theorem Made.letter{R:List Rl}{F:Str->List Tr}(m:Made R L M F)(h:q∈L):F q=[(2,(L.idxOf q:Int),0)]:=by
 have hi:=jH.mpr h;exact m.lt (L.idxOf q) q (by rw [G5 hi,mO])
noncomputable def aiK (K:PySem.W.Frag):Sp:=fun vs H Q _=>∃ (a b c:Addr) (ts:List Addr) (R:List Rl) (L M:List Str) (F:Str->List Tr),vs=[.ref a,.ref b,.ref c]/\IsRules H a ts R/\Made R L M F/\H b=some (.lst (L.map V.str))/\H c=some (.lst (M.map V.str))/\(∀ z∈R,z.2.length<=1000)/\R.length<=1000/\(∀ i y,(E3 (R.take i) y).length<=10000)/\(allKs R L M).length<=50000/\
 ∀ d H',H d=none->Same H H'->IsMade H' d (G6 [] (allKs R L M)) F->Q (.ref d) H'
noncomputable def baseT (L M:List Str) (q:Str):Tr:=if q∈L then (2,(L.idxOf q:Int),0) else (0,(M.idxOf q:Int),0)
noncomputable def sM (L M:List Str) (R:List Rl):List (Str×List Tr):=R.filterMap fun z=>if z.1=("as" : Str) then z.2.head?.map fun p=>(p,(z.2.drop 1).map (baseT L M)) else none
noncomputable def putsL (R:List Rl) (L M:List Str):List (Str×List Tr):=
 (L.zipIdx.map fun e=>(e.1,[((2:Int),(e.2:Int),(0:Int))]))++(M.zipIdx.map fun e=>(e.1,[((0:Int),(e.2:Int),(0:Int))]))++((F7 R).flatMap fun y=>(E3 R y).zipIdx.map fun e=>(e.1,[((2:Int),(L.idxOf y:Int),((e.2+1:Nat):Int))]))++sM L M R
noncomputable def stepF (R:List Rl) (L M:List Str) (p:Str):List Tr:=((putsL R L M).lookup p).getD []
theorem akZ{s:List Tr} : ∀ {l:List (Str×List Tr)},(l.map (·.1)).Nodup->(p,s)∈l->l.lookup p=some s
 | [],_,h=>by cases h
 | (y,t)::l,nd,h=>by
  rw [G1,V8] at nd;rw [List.lookup_cons]
  rcases F6.mp h with h | h
  .obtain ⟨rfl,rfl⟩:=Prod.mk.inj h
   simp
  .have:p≠y:=fun e=>nd.1 (E2.mpr ⟨_,h,e⟩)
   have e:(p==y)=false:=by simpa using this
   rw [e];exact akZ nd.2 h
theorem agU(R:List Rl)(L M:List Str):(putsL R L M).map (·.1)=allKs R L M:=by
 have z:∀ (l:List Str) (f:Nat->List Tr),(l.zipIdx.map fun e=>(e.1,f e.2)).map (·.1)=l:=fun l f=>by
  rw [Z7];exact List.zipIdx_map_fst 0 l
 have a:(sM L M R).map (·.1)=asKs R:=by
  unfold sM asKs;rw [List.map_filterMap]
  congr 1
  funext z
  by_cases h:z.1=("as" : Str)
  .rw [if_pos h,if_pos h]
   cases z.2 <;> rfl
  .rw [if_neg h,if_neg h];rfl
 unfold putsL allKs;rw [D8,D8,D8,z L fun i=>[(2,(i:Int),0)],z M fun i=>[(0,(i:Int),0)],a,List.map_flatMap]
 congr 2
 congr 1
 funext y
 exact z (E3 R y) fun i=>[(2,(L.idxOf y:Int),((i+1:Nat):Int))]
theorem kU{R:List Rl}(nd:(allKs R L M).Nodup){s:List Tr}(h:(p,s)∈putsL R L M):stepF R L M p=s:=by
 unfold stepF;rw [akZ (by rw [agU];exact nd) h];rfl
theorem aoZ{R:List Rl}(nd:(allKs R L M).Nodup)(gl:∀ y∈F7 R,y∈L)(ne:∀ z∈R,z.1=("as" : Str)\/z.1=("great" : Str)->z.2≠[])(pt:∀ z∈R,z.1=("as" : Str)->∀ q∈z.2.drop 1,q∈L\/q∈M):Made R L M (stepF R L M):=by
 have m1:∀ (i:Nat) y,L[i]?=some y->(y,[((2:Int),(i:Int),(0:Int))])∈putsL R L M:=fun i y h=>by
  refine T8 _ (T8 _ (T8 _ (E2.mpr ⟨(y,i),?_,rfl⟩)));rw [List.mem_zipIdx_iff_getElem?];exact h
 have m2:∀ (i:Nat) y,M[i]?=some y->(y,[((0:Int),(i:Int),(0:Int))])∈putsL R L M:=fun i y h=>by
  refine T8 _ (T8 _ (V1 _ (E2.mpr ⟨(y,i),?_,rfl⟩)));rw [List.mem_zipIdx_iff_getElem?];exact h
 have hb:∀ q,q∈L\/q∈M->stepF R L M q=[baseT L M q]:=fun q hq=>by
  unfold baseT
  by_cases h:q∈L
  .rw [if_pos h];have hi:=jH.mpr h;exact kU nd (m1 (L.idxOf q) q (by rw [G5 hi,mO]))
  .rw [if_neg h];have hm:=hq.resolve_left h;have hi:=jH.mpr hm;exact kU nd (m2 (M.idxOf q) q (by rw [G5 hi,mO]))
 refine ⟨fun i y h=>kU nd (m1 i y h),fun i y h=>kU nd (m2 i y h),gl,fun y hy c f h=>kU nd ?_,ne,pt,fun z hz e p qs ez=>?_⟩
 .refine T8 _ (V1 _ (j9.mpr ⟨y,hy,E2.mpr ⟨(f,c),?_,rfl⟩⟩));rw [List.mem_zipIdx_iff_getElem?];exact h
 .have:(p,qs.map (baseT L M))∈putsL R L M:=V1 _ (jM.mpr ⟨z,hz,by rw [if_pos e,ez];rfl⟩)
  rw [kU nd this];refine jL fun q hq=>?_
  rw [hb q (pt z hz e q (by rw [ez];exact hq))];rfl
theorem ao0{g:Str->Str}{PL:List (Str×Str)}(nc:NC fg g PL):PL.Pairwise fun a b=>a.1=b.1->b.2∈nM:=by
 rw [fX];intro i j hi hj hij e;refine (nc j PL[j].1 PL[j].2 (by rw [G5 hj])).2.1 ?_;rw [<- e];refine E2.mpr ⟨PL[i],?_,rfl⟩;rw [rA];exact ⟨i,by lia,rfl⟩
theorem gW{g:Str->Str}{PL:List (Str×Str)}(nc:NC fg g PL){j:Str}(h:(p,j)∈PL):g p=j:=by
 obtain ⟨i,hi,e⟩:=Z3.mp h;exact (nc i p j (by rw [G5 hi,e])).1.symm
theorem ak0{g:Str->Str}{PL:List (Str×Str)}(nc:NC fg g PL){j:Str}(hj:j∉nM):((PL.filter fun e=>decide (e.2=j)).map (·.1)).Nodup:=by
 rw [dN,List.pairwise_map];refine List.Pairwise.imp_of_mem ?_ ((ao0 nc).filter _);intro a b _ hb h e
 have:=h e
 have uQ:b.2=j:=by simpa using (Q2.mp hb).2
 rw [uQ] at this;exact hj this
theorem nN{w:Str}(h:gR w):(jobD w=("great" : Str)↔w="great")/\(jobD w=("as" : Str)↔w="as")/\(jobD w=("letter" : Str)↔w="row")/\(jobD w=("mark" : Str)↔w="marks")/\(jobD w=("over" : Str)↔w="over"):=by
 rcases h with rfl | rfl | rfl | rfl | rfl <;> decide +kernel
theorem mem_pairs{R:List Rl}{j:Str} : (p,j)∈C7 R↔∃ z∈R,p∈M8 z/\jobD z.1=j:=by
 unfold C7;rw [j9]
 constructor
 .rintro ⟨z,hz,h⟩;obtain ⟨q,hq,e⟩:=E2.mp h;obtain ⟨rfl,rfl⟩:=Prod.mk.inj e;exact ⟨z,hz,hq,rfl⟩
 .rintro ⟨z,hz,hp,rfl⟩;exact ⟨z,hz,E2.mpr ⟨p,hp,rfl⟩⟩
theorem sN(z:Rl)(R:List Rl):C7 (z::R)=((M8 z).map fun p=>(p,jobD z.1))++C7 R:=by
 unfold C7;rw [r8]
theorem W2{z:Rl} : (z.1=("great" : Str)->M8 z=z.2.drop 1)/\(z.1=("as" : Str)->M8 z=z.2.take 1)/\(z.1=("row" : Str)\/z.1=("marks" : Str)\/z.1=("over" : Str)->M8 z=z.2):=by
 unfold M8;refine ⟨fun h=>by rw [if_pos h],fun h=>?_,fun h=>?_⟩
 .rw [if_neg (by rw [h];decide +kernel),if_pos h]
 .rw [if_neg,if_neg,if_pos h]
  .rcases h with h | h | h <;> rw [h] <;> decide +kernel
  .rcases h with h | h | h <;> rw [h] <;> decide +kernel
theorem aU:∀ R:List Rl,((C7 R).filter fun e=>decide (e.2=("great" : Str))).map (·.1)=(M3 R).flatMap (·.2)
 | []=>rfl
 | z::R=>by
  rw [sN,Y1,D8,aU R];have e:M3 (z::R)=M3 [z]++M3 R:=gU [z] R;rw [e,Z4]
  congr 1
  by_cases h:z.1=("great" : Str)
  .obtain ⟨w,ps⟩:=z;obtain rfl:w=("great" : Str):=h;rw [W2.1 rfl,mM.mpr,Z7]
   .cases ps with
    | nil=>simp [M3]
    | cons y fs=>
     rw [sI];show List.map _ fs=_;simp [Function.comp_def]
   .intro a ha;obtain ⟨q,_,rfl⟩:=E2.mp ha;exact decide_eq_true (show jobD "great"=("great" : Str) by decide +kernel)
  .rw [kS h,fY.mpr]
   .rfl
   .intro a ha;obtain ⟨q,hq,rfl⟩:=E2.mp ha
    have:=(nN (gS hq)).1
    simp only [decide_eq_true_eq];exact fun e=>h (this.mp e)
theorem gX:∀ R:List Rl,((C7 R).filter fun e=>decide (e.2=("as" : Str))).map (·.1)=asKs R
 | []=>rfl
 | z::R=>by
  rw [sN,Y1,D8,gX R];have e:asKs (z::R)=asKs [z]++asKs R:=by unfold asKs;rw [<- List.filterMap_append];rfl
  rw [e]
  congr 1
  by_cases h:z.1=("as" : Str)
  .obtain ⟨w,ps⟩:=z;obtain rfl:w=("as" : Str):=h;rw [W2.2.1 rfl,mM.mpr,Z7]
   .cases ps with
    | nil=>simp [asKs]
    | cons y fs=>
     rw [xX];rfl
   .intro a ha;obtain ⟨q,_,rfl⟩:=E2.mp ha;exact decide_eq_true (show jobD "as"=("as" : Str) by decide +kernel)
  .rw [xW h,fY.mpr]
   .rfl
   .intro a ha;obtain ⟨q,hq,rfl⟩:=E2.mp ha
    have:=(nN (gS hq)).2.1
    simp only [decide_eq_true_eq];exact fun e=>h (this.mp e)
theorem mem_rowsW{R:List Rl}{w:Str} : p∈(rowsW R w).flatten↔∃ z∈R,z.1=w/\p∈z.2:=by
 unfold rowsW;rw [List.mem_flatten]
 constructor
 .rintro ⟨l,hl,hp⟩;obtain ⟨z,hz,rfl⟩:=E2.mp hl;obtain ⟨h1,h2⟩:=Q2.mp hz;exact ⟨z,h1,by simpa using h2,hp⟩
 .rintro ⟨z,hz,e,hp⟩;exact ⟨z.2,E2.mpr ⟨z,Q2.mpr ⟨hz,by simpa using e⟩,rfl⟩,hp⟩
theorem mem_letter{R:List Rl} : (p,("letter" : Str))∈C7 R↔p∈(rowsW R "row").flatten:=by
 rw [mem_pairs,mem_rowsW]
 constructor
 .rintro ⟨z,hz,hp,e⟩
  have:=(nN (gS hp)).2.2.1.mp e
  exact ⟨z,hz,this,by rw [W2.2.2 (.inl this)] at hp;exact hp⟩
 .rintro ⟨z,hz,e,hp⟩;exact ⟨z,hz,by rw [W2.2.2 (.inl e)];exact hp,by rw [e];decide +kernel⟩
theorem mem_mark{R:List Rl} : (p,("mark" : Str))∈C7 R↔p∈(rowsW R "marks").flatten:=by
 rw [mem_pairs,mem_rowsW]
 constructor
 .rintro ⟨z,hz,hp,e⟩
  have:=(nN (gS hp)).2.2.2.1.mp e
  exact ⟨z,hz,this,by rw [W2.2.2 (.inr (.inl this))] at hp;exact hp⟩
 .rintro ⟨z,hz,e,hp⟩;exact ⟨z,hz,by rw [W2.2.2 (.inr (.inl e))];exact hp,by rw [e];decide +kernel⟩
theorem xZ{zss:List (List Str)} : p∈toldL zss↔p∈zss.flatten:=by
 unfold toldL;rw [rV,l8]
 simp
theorem p0{R:List Rl}{w:Str}(h:T0 R w L) : p∈L↔p∈(rowsW R w).flatten:=by
 rw [<- xZ];exact ⟨h.1.sub,h.2 p⟩
structure GoodR(g:Str->Str)(r1 r2:Str->Nat)(R:List Rl):Prop where
 len:R.length<=1000
 plen:(C7 R).length<=10000
 nc:NC (hasW R "figures") g (C7 R)
 nb:(" " : Str)∉(C7 R).map (·.1)
 zl:∀ z∈R,z.2.length<=1000
 ne:∀ z∈R,z.1=("as" : Str)\/z.1=("great" : Str)->z.2≠[]
 gl:∀ z∈R,z.1=("great" : Str)->∀ p∈z.2.take 1,(p,("letter" : Str))∈C7 R
 al:∀ z∈R,z.1=("as" : Str)->∀ p∈(z.2.drop 1).take 1,(p,("letter" : Str))∈C7 R
 am:∀ z∈R,z.1=("as" : Str)->∀ p∈z.2.drop 2,(p,("letter" : Str))∈C7 R\/(p,("mark" : Str))∈C7 R
 f1:(rowsW R "row").flatten.length<=10000
 f2:(rowsW R "marks").flatten.length<=10000
 a1:∀ e∈edges (rowsW R "row"),r1 e.1<r1 e.2
 a2:∀ e∈edges (rowsW R "marks"),r2 e.1<r2 e.2
theorem GoodR.job{g:Str->Str}{r1 r2:Str->Nat}{R:List Rl}(h:GoodR g r1 r2 R){j:Str}(hp:(p,j)∈C7 R):p∈keysP (C7 R)++U6 R/\jobG g p=.str j:=by
 have hm:p∈(C7 R).map (·.1):=E2.mpr ⟨_,hp,rfl⟩;refine ⟨T8 _ ((kO _ _).mpr hm),?_⟩;unfold jobG;rw [if_neg (fun e=>h.nb (by rw [<- e];exact hm)),gW h.nc hp]
theorem GoodR.used{g:Str->Str}{r1 r2:Str->Nat}{R:List Rl}(h:GoodR g r1 r2 R){z:Rl}(hz:z∈R):Used (keysP (C7 R)++U6 R) (jobG g) z:=
 ⟨fun e p hp=>h.job (h.gl z hz e p hp),fun e p hp=>h.job (h.al z hz e p hp),fun e p hp=>(h.am z hz e p hp).elim (fun q=>⟨(h.job q).1,.inl (h.job q).2⟩) fun q=>⟨(h.job q).1,.inr (h.job q).2⟩⟩
theorem forms_mem{R:List Rl}{f:Str} : f∈E3 R y↔∃ e∈M3 R,e.1=y/\f∈e.2:=by
 unfold E3;rw [j9]
 constructor
 .rintro ⟨e,he,hf⟩;obtain ⟨h1,h2⟩:=Q2.mp he;exact ⟨e,h1,by simpa using h2,hf⟩
 .rintro ⟨e,he,h,hf⟩;exact ⟨e,Q2.mpr ⟨he,by simpa using h⟩,hf⟩
theorem mem_formKs{R:List Rl} : y∈F7 R↔∃ e∈M3 R,e.1=y:=by
 unfold F7;rw [l8,E2]
 simp
theorem ant{g:Str->Str}{r1 r2:Str->Nat}{R:List Rl}(h:GoodR g r1 r2 R)(hL:T0 R "row" L)(hM:T0 R "marks" M):(allKs R L M).Nodup:=by
 have Z:((M3 R).flatMap (·.2)).Nodup:=by rw [<- aU];exact ak0 h.nc 'c'
 have jl:∀ p∈L,g p="letter":=fun p hp=>gW h.nc (mem_letter.mpr ((p0 hL).mp hp))
 have jm:∀ p∈M,g p="mark":=fun p hp=>gW h.nc (mem_mark.mpr ((p0 hM).mp hp))
 have jf:∀ p∈(F7 R).flatMap (E3 R),g p="great":=fun p hp=>by
  obtain ⟨y,_,hp⟩:=j9.mp hp;obtain ⟨e,he,_,hf⟩:=forms_mem.mp hp
  have:p∈(M3 R).flatMap (·.2):=j9.mpr ⟨e,he,hf⟩
  rw [<- aU] at this;obtain ⟨⟨q,j⟩,hq,rfl⟩:=E2.mp this;obtain ⟨h1,h2⟩:=Q2.mp hq;have h2:j=("great" : Str):=by simpa using h2
  subst h2;exact gW h.nc h1
 have ja:∀ p∈asKs R,g p="as":=fun p hp=>by
  rw [<- gX] at hp;obtain ⟨⟨q,j⟩,hq,rfl⟩:=E2.mp hp;obtain ⟨h1,h2⟩:=Q2.mp hq;have h2:j=("as" : Str):=by simpa using h2
  subst h2;exact gW h.nc h1
 have nf:((F7 R).flatMap (E3 R)).Nodup:=by
  rw [dN,List.pairwise_flatMap] at Z ⊢
  obtain ⟨z1,z2⟩:=Z;refine ⟨fun y _=>?_,?_⟩
  .unfold E3;rw [List.pairwise_flatMap];exact ⟨fun e he=>z1 e (Q2.mp he).1,z2.filter _⟩
  .have nk:(F7 R).Nodup:=by unfold F7;exact xH (by simp)
   refine List.Pairwise.imp ?_ (dN.mp nk);intro y y' pO f hf f' hf' e;subst e;obtain ⟨e1,h1,r1,f1⟩:=forms_mem.mp hf;obtain ⟨e2,h2,r2,f2⟩:=forms_mem.mp hf';obtain ⟨i,hi,q1⟩:=Z3.mp h1;obtain ⟨j,hj,q2⟩:=Z3.mp h2;rw [fX] at z2
   rcases Nat.lt_trichotomy i j with c | c | c
   .exact z2 i j hi hj c f (by rw [q1];exact f1) f (by rw [q2];exact f2) rfl
   .subst c;exact pO (by rw [<- r1,<- r2,<- q1,<- q2])
   .exact z2 j i hj hi c f (by rw [q2];exact f2) f (by rw [q1];exact f1) rfl
 have na:(asKs R).Nodup:=by rw [<- gX];exact ak0 h.nc 'c'
 have n1:("letter" : Str)≠"mark"/\("letter" : Str)≠"great"/\("letter" : Str)≠"as"/\("mark" : Str)≠"great"/\("mark" : Str)≠"as"/\("great" : Str)≠"as":=by decide +kernel
 unfold allKs;rw [bS,bS,bS];refine ⟨⟨⟨hL.1.nodup,hM.1.nodup,fun a ha b hb e=>?_⟩,nf,fun a ha b hb e=>?_⟩,na,fun a ha b hb e=>?_⟩
 .subst e;exact n1.1 ((jl a ha).symm.trans (jm a hb))
 .subst e
  rcases E4.mp ha with ha | ha
  .exact n1.2.1 ((jl a ha).symm.trans (jf a hb))
  .exact n1.2.2.2.1 ((jm a ha).symm.trans (jf a hb))
 .subst e
  rcases E4.mp ha with ha | ha
  .rcases E4.mp ha with ha | ha
   .exact n1.2.2.1 ((jl a ha).symm.trans (ja a hb))
   .exact n1.2.2.2.2.1 ((jm a ha).symm.trans (ja a hb))
  .exact n1.2.2.2.2.2 ((jf a ha).symm.trans (ja a hb))
theorem yA{g:Str->Str}{r1 r2:Str->Nat}{R:List Rl}(h:GoodR g r1 r2 R)(hL:T0 R "row" L)(hM:T0 R "marks" M):Made R L M (stepF R L M):=by
 refine aoZ (ant h hL hM) (fun y hy=>?_) h.ne fun z hz e q hq=>?_
 .obtain ⟨e,he,rfl⟩:=mem_formKs.mp hy;unfold M3 at he;obtain ⟨z,hz,hh⟩:=jM.mp he
  by_cases hg:z.1=("great" : Str)
  .rw [if_pos hg] at hh;obtain ⟨w,ps⟩:=z
   cases ps with
   | nil=>cases hh
   | cons y fs=>
    have hh:=Option.some.inj hh;rw [<- hh];exact (p0 hL).mpr (mem_letter.mp (h.gl _ hz hg y (by simp)))
  .rw [if_neg hg] at hh;cases hh
 .rw [<- V0 1 (z.2.drop 1)] at hq
  rcases E4.mp hq with hq | hq
  .exact .inl ((p0 hL).mpr (mem_letter.mp (h.al z hz e q hq)))
  .rw [List.drop_drop] at hq
   rcases h.am z hz e q hq with h1 | h1
   .exact .inl ((p0 hL).mpr (mem_letter.mp h1))
   .exact .inr ((p0 hM).mpr (mem_mark.mp h1))
theorem ao1{g:Str->Str}{r1 r2:Str->Nat}{R:List Rl}(h:GoodR g r1 r2 R)(hL:T0 R "row" L)(hM:T0 R "marks" M):(allKs R L M).length<=10000:=by
 refine F8 ?_ h.plen
 have:=List.Nodup.length_le_of_subset (l₂:=(C7 R).map (·.1)) (ant h hL hM) fun p hp=>by
  unfold allKs at hp
  rcases E4.mp hp with hp | hp
  .rcases E4.mp hp with hp | hp
   .rcases E4.mp hp with hp | hp
    .exact E2.mpr ⟨_,mem_letter.mpr ((p0 hL).mp hp),rfl⟩
    .exact E2.mpr ⟨_,mem_mark.mpr ((p0 hM).mp hp),rfl⟩
   .obtain ⟨y,_,hp⟩:=j9.mp hp;obtain ⟨e,he,_,hf⟩:=forms_mem.mp hp
    have:p∈(M3 R).flatMap (·.2):=j9.mpr ⟨e,he,hf⟩
    rw [<- aU] at this;obtain ⟨q,hq,rfl⟩:=E2.mp this;exact E2.mpr ⟨q,(Q2.mp hq).1,rfl⟩
  .rw [<- gX] at hp;obtain ⟨q,hq,rfl⟩:=E2.mp hp;exact E2.mpr ⟨q,(Q2.mp hq).1,rfl⟩
 rw [A6] at this;exact this
theorem ak1{g:Str->Str}{r1 r2:Str->Nat}{R:List Rl}(h:GoodR g r1 r2 R)(i:Nat)(y:Str):(E3 (R.take i) y).length<=10000:=by
 refine F8 ?_ h.plen;have h1:(E3 (R.take i) y).length<=((M3 (R.take i)).flatMap (·.2)).length:=by
  unfold E3;generalize M3 (R.take i)=E
  induction E with
  | nil=>exact B3 _
  | cons e E ih=>
   rw [List.filter_cons]
   split
   .rw [r8,r8,C1,C1];lia
   .rw [r8,C1];lia
 have h2:((M3 (R.take i)).flatMap (·.2)).length<=(C7 (R.take i)).length:=by
  rw [<- aU,A6];exact fZ _ _
 obtain ⟨more,e⟩:=xM R i;rw [e,C1];lia
theorem IsMade.mod{d:Addr}{F:Str->List Tr}{o o':HO}(h:IsMade H d ks F)(ha:H a=some o')(hn:∀ xs,o'≠.tup xs)(nd:d≠a):IsMade (A0 H a o) d ks F:=
 let ⟨ad,h1,h2⟩:=h
 ⟨ad,by rw [A9 nd];exact h1,fun y hy=>(h2 y hy).put ha hn⟩
structure IsOrd(C:Addr)(H:Hp)(x j ll ml md:Addr)(g:Str->Str)(R:List Rl)(L M:List Str):Prop where
 ob:∃ dx,H x=some (.ins C dx (ordF (hasW R "figures") (hasW R "behind") j ll ml md))
 jobs:H j=some (.dK (B5 (keysP (C7 R)++U6 R) (jobG g)))
 lets:H ll=some (.lst (L.map V.str))
 mrks:H ml=some (.lst (M.map V.str))
 made:IsMade H md (G6 [] (allKs R L M)) (stepF R L M)
 l1:T0 R "row" L
 l2:T0 R "marks" M
theorem IsOrd.same{x j ll ml:Addr}{g:Str->Str}{R:List Rl}(h:IsOrd C H x j ll ml md g R L M)(s:Same H H'):IsOrd C H' x j ll ml md g R L M:=
 ⟨let ⟨dx,e⟩:=h.ob;⟨dx,s _ _ e⟩,s _ _ h.jobs,s _ _ h.lets,s _ _ h.mrks,h.made.same s,h.l1,h.l2⟩
noncomputable def yB (C:Addr):Sp:=fun vs H Q _=>∃ (x dx a:Addr) (ts:List Addr) (R:List Rl) (g:Str->Str) (r1 r2:Str->Nat),vs=[.ref x,.ref a]/\H x=some (.ins C dx [])/\IsRules H a ts R/\GoodR g r1 r2 R/\
 ∀ j ll ml md L M H',H j=none->H ll=none->H ml=none->H md=none->SameBut x H H'->IsOrd C H' x j ll ml md g R L M->Q .non H'
noncomputable def ak2 (C:Addr):Sp:=fun vs H Q _=>∃ (x j ll ml md:Addr) (g:Str->Str) (R:List Rl) (L M:List Str),vs=[.ref x]/\IsOrd C H x j ll ml md g R L M/\∀ l,H l=none->Q (.ref l) (A0 H l (.lst (L.map V.str)))
noncomputable def aiM (C:Addr):Sp:=fun vs H Q _=>∃ (x j ll ml md:Addr) (g:Str->Str) (R:List Rl) (L M:List Str),vs=[.ref x]/\IsOrd C H x j ll ml md g R L M/\∀ l,H l=none->Q (.ref l) (A0 H l (.lst (M.map V.str)))
noncomputable def yC (C:Addr):Sp:=fun vs H Q _=>∃ (x j ll ml md:Addr) (p:Str) (g:Str->Str) (R:List Rl) (L M:List Str),vs=[.ref x,.str p]/\IsOrd C H x j ll ml md g R L M/\Q (if p∈keysP (C7 R)++U6 R then jobG g p else .non) H
structure RulesAt(H0 H:Hp)(a:Addr)(ts:List Addr)(R:List Rl):Prop where
 rows:IsRules H a ts R
 nd:(a::ts).Nodup
 new:∀ r∈a::ts,H0 r=none
 same:Same H0 H
theorem RulesAt.live{R:List Rl}(h:RulesAt H0 H a rs R)(hr:r∈a::rs):∃ o,H r=some o:=by
 rcases F6.mp hr with h' | h'
 .subst h';exact ⟨_,h.rows.top⟩
 .obtain ⟨i,hi,rfl⟩:=Z3.mp h';obtain ⟨zs,_,h2⟩:=Paired.at h.rows.row (i:=i) (a:=rs[i]) (by simp [hi]);exact ⟨_,h2⟩
theorem RulesAt.grow{q:Addr}{R:List Rl}(h:RulesAt H0 H a rs R)(S:Same H H')(hq:H q=none){z:Rl}(cV:H' q=some (tupR z)):RulesAt H0 (A0 H' a (.lst (rs.map V.ref++[V.ref q]))) a (rs++[q]) (R++[z]):=by
 have nq:∀ r∈a::rs,r≠q:=fun r hr e=>by
  obtain ⟨o,e'⟩:=h.live hr;rw [e,hq] at e';cases e'
 obtain ⟨na,_⟩:=V8.mp h.nd;refine ⟨⟨by rw [A5,D8];rfl,?_⟩,?_,?_,?_⟩
 .refine Paired.snoc (kI h.rows.row fun r hr zs h=>?_) ?_
  .rw [A9 (fun e:r=a=>na (by rw [<- e];exact hr))];exact S _ _ h
  .rw [A9 (nq a O0).symm];exact cV
 .show (a::(rs++[q])).Nodup;exact rQ h.nd fun e=>nq q e rfl
 .intro r hr
  rcases F6.mp hr with e | e
  .exact h.new r (by rw [e];exact O0)
  .rcases E4.mp e with e | e
   .exact h.new r (M6 _ e)
   .rw [G2.mp e];exact h.same.free hq
 .exact (h.same.trans S).put (h.new a O0)
theorem agV{R:List Rl}{w:Str}(h:∀ z∈R,z.1=w):rowsW R w=R.map (·.2):=by
 unfold rowsW;rw [mM.mpr fun z hz=>by simpa using h z hz]
theorem kW{R:List Rl}{w:Str}(h:∀ z∈R,z.1≠w):rowsW R w=[]:=by
 unfold rowsW;rw [fY.mpr fun z hz=>by simpa using h z hz];rfl
theorem v6(A B:List Rl)(w:Str):rowsW (A++B) w=rowsW A w++rowsW B w:=by
 unfold rowsW;rw [Y1,D8]
theorem nO(A B:List Rl):C7 (A++B)=C7 A++C7 B:=by
 unfold C7;rw [Z4]
theorem sO(A B:List Rl)(w:Str):hasW (A++B) w=(hasW A w || hasW B w):=by
 unfold hasW;rw [List.any_append]
theorem ahL{F:Addr->Rl->Prop}{l₂:List Rl}(h:Paired F l₁ l₂):∀ k,Paired F (l₁.take k) (l₂.take k):=by
 induction h with
 | nil=>intro k;rw [List.take_nil,List.take_nil];exact .nil
 | cons h t ih=>intro k;cases k with
  | zero=>exact .nil
  | succ k=>exact .cons h (ih k)
theorem nP{F:Addr->Rl->Prop}{l₂:List Rl}(h:Paired F l₁ l₂):∀ k,Paired F (l₁.drop k) (l₂.drop k):=by
 induction h with
 | nil=>intro k;rw [List.drop_nil,List.drop_nil];exact .nil
 | cons h t ih=>intro k;cases k with
  | zero=>exact .cons h t
  | succ k=>exact ih k
theorem ao2{l:Addr}{ts:List Addr}{R:List Rl}(h:IsRules H b ts R)(k:Nat)(n:H l=none):IsRules (A0 H l (.lst ((ts.take k).map V.ref))) l (ts.take k) (R.take k):=⟨A5,ahL (L0 h.row fun _ _ e=>D3 e n) k⟩
theorem ak4{l:Addr}{ts:List Addr}{R:List Rl}(h:IsRules H b ts R)(k:Nat)(n:H l=none):IsRules (A0 H l (.lst ((ts.drop k).map V.ref))) l (ts.drop k) (R.drop k):=⟨A5,nP (L0 h.row fun _ _ e=>D3 e n) k⟩
theorem ajz{E:List (Str×Str)}(r:R9 E ts line){e:Str×Str}(he:e∈E)(h2:e.2∈line):line.idxOf e.1<line.idxOf e.2:=by
 obtain ⟨pre,post,el⟩:=List.append_of_mem h2;obtain ⟨h3,h4,h5⟩:=gQ (r pre e.2 post el);have h6:=cnt_zero.mp h5 e he rfl;rw [el,List.idxOf_append,if_pos h6,List.idxOf_append,if_neg h4]
 have:=jH.mpr h6
 lia
theorem ak5{E:List (Str×Str)}(nd:ps.Nodup)(tnd:ts.Nodup)(r:R9 E ts line)(cov:∀ p∈ts,p∈line)(hm:∀ p,p∈ts↔p∈ps)(hE:∀ e∈V6 ps,e∈E):line=ps:=by
 have hl:line.length=ps.length:=by
  rw [sC tnd r cov];exact ((List.perm_ext_iff_of_nodup tnd nd).mpr fun a=>hm a).length_eq
 have K4:∀ p∈ps,p∈line:=fun p hp=>cov p ((hm p).mpr hp)
 have C9:∀ i (h:i<ps.length),line.idxOf ps[i]<ps.length:=fun i h=>by
  rw [<- hl];exact jH.mpr (K4 _ (List.getElem_mem h))
 have step:∀ i (h:i+1<ps.length),line.idxOf ps[i]<line.idxOf ps[i+1]:=fun i h=>by
  have he:(ps[i],ps[i+1])∈V6 ps:=by
   have:=agN (zs:=ps) (j:=i) (x:=ps[i]) (y:=ps[i+1]) (G5 'a') (by rw [List.getElem?_tail];exact G5 h)
   exact L6 this
  exact ajz r (hE _ he) (K4 _ (List.getElem_mem h))
 have up:∀ i (h:i<ps.length),i<=line.idxOf ps[i]:=by
  intro i
  induction i with
  | zero=>intro h;exact F9 _
  | succ i ih=>
   intro h
   have:=ih 'a'
   have:=step i h
   lia
 have down:∀ d i (h:i<ps.length),ps.length-1-i=d->line.idxOf ps[i]<=i:=by
  intro d
  induction d with
  | zero=>
   intro i h e
   have:=C9 i h
   lia
  | succ d ih=>
   intro i h e;have h1:=ih (i+1) 'a' 'a';have h2:=step i 'a';lia
 refine List.ext_getElem hl fun i h1 h2=>?_
 have e:line.idxOf ps[i]=i:=Nat.le_antisymm (down _ i h2 rfl) (up i h2)
 have:=mO (x:=ps[i]) (xs:=line) (by rw [e];exact h1)
 simp only [e] at this;exact this
noncomputable def ruleD (z:Rl):PyData:=.tuple ((z.1::z.2).map .str)
theorem ajA(z:Rl):(ruleD z).depth<=1:=by
 unfold ruleD;rw [U5,nH];decide
theorem yD:∀ R:List Rl,V9 (R.map ruleD)<=1
 | []=>F9 _
 | z::R=>by
  rw [G1,V9];have h1:=ajA z;have h2:=yD R;lia
theorem aeT : ∀ {rs:List Addr} {R:List Rl},Paired (fun r z=>H r=some (tupR z)) rs R->(∀ z∈R,∀ y∈z.1::z.2,W9 y=true)->DnAll K H (rs.map V.ref) (R.map ruleD)
 | _,_,.nil,_=>.nil
 | _,_,.cons h t,hz=>.cons (.tup (.of h) (u5 (hz _ O0))) (aeT t fun z bJ=>hz z (M6 _ bJ))
theorem aiN{R:List Rl}(h:IsRules H a rs R)(hz:∀ z∈R,∀ y∈z.1::z.2,W9 y=true):Dn K H (.ref a) (.list (R.map ruleD)):=.lst (.of h.top) (aeT h.row hz)
noncomputable def Q6 (ns:List Int) (k:Int) (p:Str):Prop:=∃ rest:List Nat,p.cps.toList=K8 ns k::rest/\rest.length<=1/\∀ c∈rest,∃ m:Int,c=K8 ns m
noncomputable def nQ (ns:List Int) (S:Int->Prop) (p:Str):Prop:=∃ k,S k/\Q6 ns k p
theorem Q6.inj{k l:Int}(h:Q6 ns k p)(h':Q6 ns l p)(k0:0<=k)(k1:k<83)(l0:0<=l)(l1:l<83):k=l:=by
 obtain ⟨r,e,_⟩:=h;obtain ⟨r',e',_⟩:=h';rw [e] at e';exact aoX k0 k1 l0 l1 (k4.inj e').1
theorem sP(ns:List Int)(k:Int):Q6 ns k (one (K8 ns k)):=⟨[],rfl,by simp,by simp⟩
theorem yE(ns:List Int)(k m:Int):Q6 ns k (one (K8 ns k)++one (K8 ns m)):=⟨[K8 ns m],rfl,by simp,fun c hc=>⟨m,G2.mp hc⟩⟩
theorem Q6.ok{k:Int}(h:Q6 ns k p):nG p=true/\(Q5 ns=false->∀ c∈p.cps.toList,figO c=false):=by
 obtain ⟨r,e,hl,hr⟩:=h;have hc:∀ c∈p.cps.toList,∃ m:Int,c=K8 ns m:=fun c hc=>by
  rw [e] at hc
  rcases F6.mp hc with q | q
  .exact ⟨k,q⟩
  .exact hr c q
 have el:p.length=r.length+1:=by
  have:p.length=p.cps.toList.length:=by simp [Str.length]
  rw [this,e];rfl
 refine ⟨?_,fun hd c h=>?_⟩
 .unfold nG;rw [el,U4,U4];refine ⟨⟨decide_eq_true 'a',decide_eq_true 'a'⟩,List.all_eq_true.mpr fun c h=>?_⟩;obtain ⟨m,rfl⟩:=hc c h;exact (aiE ns m).1
 .obtain ⟨m,rfl⟩:=hc c h;exact (aiE ns m).2 hd
structure Dis(ns:List Int)(S:Int->Prop)(ps:List Str):Prop where
 nd:ps.Nodup
 pc:∀ p∈ps,nQ ns S p
 uq:∀ p∈ps,∀ q∈ps,∀ k:Int,20<=k->k<83->Q6 ns k p->Q6 ns k q->p=q
theorem Dis.cat{S T:Int->Prop}(h:Dis ns S ps)(h':Dis ns T qs)(hS:∀ k,S k->0<=k/\k<83)(hT:∀ k,T k->0<=k/\k<83)(n:∀ k,S k->¬ T k):Dis ns (fun k=>S k\/T k) (ps++qs):=by
 have ap:∀ p∈ps,∀ q∈qs,∀ k:Int,0<=k->k<83->Q6 ns k p->Q6 ns k q->False:=fun p hp q hq k k0 k1 pk qk=>by
  obtain ⟨i,hi,pi⟩:=h.pc p hp;obtain ⟨l,hl,pl⟩:=h'.pc q hq;have e1:=pk.inj pi k0 k1 (hS i hi).1 (hS i hi).2;have e2:=qk.inj pl k0 k1 (hT l hl).1 (hT l hl).2;subst e1 e2;exact n _ hi hl
 refine ⟨bS.mpr ⟨h.nd,h'.nd,fun a ha b hb e=>?_⟩,fun p hp=>?_,fun p hp q hq k k0 k1 pk qk=>?_⟩
 .subst e;obtain ⟨k,hk,pk⟩:=h.pc a ha;exact ap a ha a hb k (hS k hk).1 (hS k hk).2 pk pk
 .rcases E4.mp hp with hp | hp
  .obtain ⟨k,hk,pk⟩:=h.pc p hp;exact ⟨k,.inl hk,pk⟩
  .obtain ⟨k,hk,pk⟩:=h'.pc p hp;exact ⟨k,.inr hk,pk⟩
 .rcases E4.mp hp with hp | hp <;> rcases E4.mp hq with hq | hq
  .exact h.uq p hp q hq k k0 k1 pk qk
  .exact (ap p hp q hq k 'a' k1 pk qk).elim
  .exact (ap q hq p hp k 'a' k1 qk pk).elim
  .exact h'.uq p hp q hq k k0 k1 pk qk
theorem Dis.wide{S T:Int->Prop}(h:Dis ns S ps)(w:∀ k,S k->T k):Dis ns T ps:=⟨h.nd,fun p hp=>let ⟨k,hk,pk⟩:=h.pc p hp;⟨k,w k hk,pk⟩,h.uq⟩
theorem gY{k:Int}(h:Q6 ns k p):Dis ns (fun l=>l=k) [p]:=⟨by simp,fun q hq=>by rw [G2.mp hq];exact ⟨k,rfl,h⟩,fun a ha b hb _ _ _ _ _=>by rw [G2.mp ha,G2.mp hb]⟩
theorem Dis.nil{S:Int->Prop} : Dis ns S []:=⟨List.nodup_nil,by simp,by simp⟩
theorem mul3(h:i<3):∃ m:Int,K5 [V.int 48271,V.int 69621,V.int 16807] (0+(i:Int))=some (V.int m)/\0<m/\m<100000:=by
 obtain rfl | rfl | rfl:i=0\/i=1\/i=2:=by lia
 .exact ⟨_,rfl,by decide,by decide⟩
 .exact ⟨_,rfl,by decide,by decide⟩
 .exact ⟨_,rfl,by decide,by decide⟩
noncomputable def LetS (k:Int):Prop:=0<=k/\k<16
noncomputable def eI (ns:List Int) (n:Nat):List Str:=(aI n).map fun (k:Nat)=>one (K8 ns (k:Int))
theorem aiO(ns:List Int)(i:Nat):eI ns (i+1)=eI ns i++[one (K8 ns (i:Int))]:=by
 unfold eI;rw [List.range_succ,D8];rfl
theorem ak6(ns:List Int)(n:Nat):(eI ns n).length=n:=by unfold eI;rw [A6,List.length_range]
theorem ak7(ns:List Int):∀ n:Nat,n<=83->Dis ns (fun k=>0<=k/\k<(n:Int)) (eI ns n)
 | 0,_=>Dis.nil
 | n+1,h=>by
  rw [aiO];refine ((ak7 ns n 'a').cat (gY (sP ns (n:Int))) (fun k hk=>by lia) (fun k hk=>by lia) (fun k hk e=>by lia)).wide fun k hk=>by
   rcases hk with hk | hk <;> lia
structure LetW(ns:List Int)(n:Int)(ps:List Str):Prop where
 n0:2<=n
 n1:n<=16
 all:∀ k:Int,0<=k->k<n->one (K8 ns k)∈ps
 each:∀ p∈ps,∃ k:Int,0<=k/\k<n/\(p=one (K8 ns k)\/∃ m:Int,0<=m/\m<n/\p=one (K8 ns k)++one (K8 ns m))
structure LetI(ns:List Int)(H H2:Hp)(l:Addr)(ps:List Str)(n:Nat):Prop where
 new:H l=none
 same:Same H H2
 lst:H2 l=some (.lst (ps.map V.str))
 dis:Dis ns LetS ps
 wd:∃ n,LetW ns n ps
 lo:2<=ps.length
 hi:ps.length<=16+n
theorem anu{n:Int}(h0:2<=n)(h1:n<=16):LetW ns n (eI ns n.toNat):=by
 refine ⟨h0,h1,fun k k0 k1=>?_,fun p hp=>?_⟩
 .refine E2.mpr ⟨k.toNat,dS.mpr 'a',?_⟩;rw [show ((k.toNat:Nat):Int)=k by lia]
 .obtain ⟨k,hk,rfl⟩:=E2.mp hp
  have:=dS.mp hk
  exact ⟨k,by lia,by lia,.inl rfl⟩
theorem LetW.ins{n:Int}{t:Nat}(h:LetW ns n ps)(hp:∃ k:Int,0<=k/\k<n/\(p=one (K8 ns k)\/∃ m:Int,0<=m/\m<n/\p=one (K8 ns k)++one (K8 ns m))):LetW ns n (ps.take t++[p]++ps.drop t):=by
 have hm:∀ x,x∈ps.take t++[p]++ps.drop t↔x=p\/x∈ps:=fun x=>by
  have:x∈ps↔x∈ps.take t\/x∈ps.drop t:=by rw [<- E4,V0]
  rw [Q1,E4,E4,G2,this]
  constructor
  .rintro (h | h | h)
   .exact .inr (.inl h)
   .exact .inl h
   .exact .inr (.inr h)
  .rintro (h | h | h)
   .exact .inr (.inl h)
   .exact .inl h
   .exact .inr (.inr h)
 refine ⟨h.n0,h.n1,fun k k0 k1=>(hm _).mpr (.inr (h.all k k0 k1)),fun x hx=>?_⟩
 rcases (hm x).mp hx with e | e
 .rw [e];exact hp
 .exact h.each x e
noncomputable def afA (K:PySem.W.Frag):Sp:=fun vs H Q _=>∃ (a:Addr) (ns:List Int),vs=[.ref a]/\D9 K H a (ns.map V.int)/\∀ l ps H',LetI ns H H' l ps 3->Q (.ref l) H'
noncomputable def anv (K:PySem.W.Frag):Sp:=fun vs H Q _=>∃ (l m:Addr) (n:Int) (b:Bool) (ls ms:List Str),vs=[.ref l,.ref m,.int n,.bl b]/\H l=some (.lst (ls.map V.str))/\H m=some (.lst (ms.map V.str))/\1<=ls.length/\ls.length<=1000/\ms.length<=1000/\(∀ p∈ms,W9 p=true)/\
 ∀ p H',Same H H'->(p∈ls\/(b=false/\p∈ms))->Q (.str p) H'
theorem pickA(n:Int)(h1:1<=zs.length):∃ p∈zs,K5 (zs.map V.str) (n % (zs.length:Int))=some (V.str p):=by
 obtain ⟨v,e,hm⟩:=kE (xs:=zs.map V.str) (i:=n % (zs.length:Int)) (k5 _ 'a') (by rw [A6];exact t6 _ 'a');obtain ⟨p,hp,rfl⟩:=E2.mp hm;exact ⟨p,hp,e⟩
theorem pickL{u:Addr}{n:Int}(h:H u=some (.lst (zs.map V.str)))(h1:1<=zs.length)(q:∀ p∈zs,Q (.str p) H) :
  ∃ m:Nat,LenR K H u m/\0<(m:Int)/\∃ xs,(D9 K H u xs\/C6 K H u xs)/\∃ x,K5 xs (n % (m:Int))=some x/\Q x H:=by
 obtain ⟨v,e,hm⟩:=kE (xs:=zs.map V.str) (i:=n % (zs.length:Int)) (k5 _ 'a') (by rw [A6];exact t6 _ 'a');obtain ⟨p,hp,rfl⟩:=E2.mp hm;exact ⟨zs.length,.inl ⟨_,.of h,by rw [A6]⟩,by lia,_,.inl (.of h),_,e,q p hp⟩
noncomputable def spTwo (K:PySem.W.Frag):Sp:=fun vs H Q _=>∃ (a:Addr) (ns:List Int) (k c:Int),vs=[.ref a,.int k,.int c]/\D9 K H a (ns.map V.int)/\0<=k/\∀ p H',Same H H'->Q6 ns k p->Q (.str p) H'
noncomputable def OthZ (ls ms:List Str) (z:Rl):Prop:=(z.1=("great" : Str)/\∃ l fs,z.2=l::fs/\l∈ls/\1<=fs.length/\fs.length<=2)\/(z.1=("as" : Str)/\∃ p q qs,z.2=p::q::qs/\q∈ls/\(∀ r∈qs,r∈ls\/r∈ms)/\qs.length<=2)\/(z.1=("over" : Str)/\z.2.length<=2)
structure OthI(ns:List Int)(ls ms:List Str)(S:Int->Prop)(n:Nat)(R:List Rl):Prop where
 dis:Dis ns S ((C7 R).map (·.1))
 each:∀ z∈R,OthZ ls ms z
 len:R.length<=n
noncomputable def GS (i:Nat) (k:Int):Prop:=(30<=k/\k<30+(i:Int))\/(34<=k/\k<34+(i:Int))
noncomputable def AS (i:Nat) (k:Int):Prop:=GS 3 k\/(40<=k/\k<40+(i:Int))
noncomputable def OS (k:Int):Prop:=AS 3 k\/(50<=k/\k<52)
theorem yF(z:Rl):(C7 [z]).map (·.1)=M8 z:=by
 unfold C7;rw [r8,mR,G7,Z7];exact List.map_id' _
theorem OthI.add{S T U:Int->Prop}{R:List Rl}(h:OthI ns ls ms S n R){z:Rl}(hz:OthZ ls ms z)(hd:Dis ns T (M8 z))(hS:∀ k,S k->0<=k/\k<83)(hT:∀ k,T k->0<=k/\k<83)(no:∀ k,S k->¬ T k)(w:∀ k,S k\/T k->U k):OthI ns ls ms U (n+1) (R++[z]):=by
 refine ⟨?_,fun y hy=>?_,by rw [C1,O4];have:=h.len;lia⟩
 .rw [nO,D8,yF];exact (h.dis.cat hd hS hT no).wide w
 .rcases E4.mp hy with hy | hy
  .exact h.each y hy
  .rw [G2.mp hy];exact hz
structure AsR(ls ms:List Str)(H0 H:Hp)(t:Addr)(p:Str)(qs:List Str)(j:Nat):Prop where
 same:Same H0 H
 tup:H t=some (tupR ("as",p::qs))
 new:H0 t=none
 len:qs.length=j
 ok:∀ i q,qs[i]?=some q->q∈ls\/(0<i/\q∈ms)
theorem AsR.oth{t:Addr}(h:AsR ls ms H0 H t p qs j)(h1:1<=j)(h3:j<=3):OthZ ls ms ("as",p::qs):=by
 refine .inr (.inl ⟨rfl,?_⟩);have hl:=h.len;have ok:=h.ok
 cases qs with
 | nil=>simp at hl;lia
 | cons q qs=>
  refine ⟨p,q,qs,rfl,(ok 0 q rfl).elim id fun e=>absurd e.1 (by decide),fun r hr=>?_,by simp at hl;lia⟩;obtain ⟨i,hi,e⟩:=Z3.mp hr;exact (ok (i+1) r (by rw [List.getElem?_cons_succ,G5 hi,e])).imp id (·.2)
theorem ak8{l f:Str}{fs:List Str}(hl:l∈ls)(hf:fs=[f]\/∃ f2,fs=[f,f2]):OthZ ls ms ("great",l::fs):=by
 refine .inl ⟨rfl,l,fs,rfl,hl,?_⟩
 rcases hf with rfl | ⟨f2,rfl⟩ <;> simp
theorem ak9{i:Int}{l f:Str}{fs:List Str}(h0:0<=i)(h1:i<3)(hp:Q6 ns (30+i) f)(hf:fs=[f]\/∃ f2,fs=[f,f2]/\Q6 ns (34+i) f2):Dis ns (fun k=>k=30+i\/k=34+i) (M8 ("great",l::fs)):=by
 rw [W2.1 rfl];show Dis ns _ fs
 rcases hf with rfl | ⟨f2,rfl,h2⟩
 .exact (gY hp).wide fun k hk=>.inl hk
 .exact (gY hp).cat (gY h2) (fun k hk=>by lia) (fun k hk=>by lia) (fun k hk e=>by lia)
noncomputable def aiP (K:PySem.W.Frag):Sp:=fun vs H Q _=>∃ (a b c:Addr) (ns:List Int) (ls ms:List Str),vs=[.ref a,.ref b,.ref c]/\D9 K H a (ns.map V.int)/\H b=some (.lst (ls.map V.str))/\H c=some (.lst (ms.map V.str))/\1<=ls.length/\ls.length<=1000/\ms.length<=1000/\(∀ p∈ms,W9 p=true)/\
 ∀ l ts R H',RulesAt H H' l ts R->OthI ns ls ms OS 7 R->Q (.ref l) H'
theorem Dis.ins{S:Int->Prop}(hS:∀ k,S k->0<=k/\k<20)(h:Dis ns S ps)(hp:nQ ns S p)(hn:p∉ps):Dis ns S (ps.take n++[p]++ps.drop n):=by
 have hm:∀ x,x∈ps.take n++[p]++ps.drop n↔x=p\/x∈ps:=fun x=>by
  rw [Q1,E4,E4,G2]
  have:x∈ps↔x∈ps.take n\/x∈ps.drop n:=by rw [<- E4,V0]
  rw [this]
  constructor
  .rintro (h | h | h)
   .exact .inr (.inl h)
   .exact .inl h
   .exact .inr (.inr h)
  .rintro (h | h | h)
   .exact .inr (.inl h)
   .exact .inl h
   .exact .inr (.inr h)
 have pcs:∀ x∈ps.take n++[p]++ps.drop n,nQ ns S x:=fun x hx=>by
  rcases (hm x).mp hx with e | e
  .rw [e];exact hp
  .exact h.pc x e
 refine ⟨?_,pcs,fun x hx y hy k k0 k1 pk _=>?_⟩
 .have e:(ps.take n++[p]++ps.drop n).Perm (p::ps):=by
   rw [Q1];refine List.perm_middle.trans ?_;exact List.Perm.of_eq (congrArg (k4 p) (V0 n ps))
  rw [e.nodup_iff,V8];exact ⟨hn,h.nd⟩
 .obtain ⟨i,hi,q⟩:=pcs x hx
  have:=hS i hi
  have:=pk.inj q 'a' k1 'a' 'a'
  lia
noncomputable def MarkS (k:Int):Prop:=20<=k/\k<25
noncomputable def flagW (w:Str):Prop:=w=("figures" : Str)\/w=("behind" : Str)\/w=("blanks" : Str)
theorem flagW.no{w:Str}(h:flagW w):w≠"row"/\w≠"marks"/\w≠"great"/\w≠"as"/\w≠"over":=by
 rcases h with rfl | rfl | rfl <;> decide +kernel
theorem yG{w:Str}(h:flagW w):M8 (w,[])=[]:=by
 obtain ⟨n1,n2,n3,n4,n5⟩:=h.no;unfold M8;rw [if_neg n3,if_neg n4]
 split <;> rfl
structure RulP(ns:List Int)(ls ms:List Str)(b:Bool)(n:Nat)(R:List Rl):Prop where
 dis:Dis ns (fun k=>LetS k\/OS k\/(b=true/\MarkS k)) ((C7 R).map (·.1))
 row:rowsW R "row"=[ls]
 mrk:rowsW R "marks"=if b=true then [ms] else []
 each:∀ z∈R,z=(("row" : Str),ls)\/(z=(("marks" : Str),ms)/\b=true)\/OthZ ls ms z\/(z.2=[]/\flagW z.1)
 len:R.length<=n
 fig:hasW R "figures"=true->Q5 ns=false
 oi:∀ z∈R,OthZ ls ms z->∀ p∈M8 z,nQ ns OS p
theorem OthZ.word{z:Rl}(h:OthZ ls ms z):z.1≠"row"/\z.1≠"marks"/\z.1≠"figures"/\z.1≠"blanks":=by
 rcases h with h | h | h <;> rw [h.1] <;> decide +kernel
theorem OS_lt{k:Int}(h:OS k):30<=k/\k<52:=by
 unfold OS AS GS at h;lia
theorem ao3{R:List Rl}(hl:Dis ns LetS ls)(h:OthI ns ls ms OS 7 R):RulP ns ls ms false 8 ((("row" : Str),ls)::R):=by
 have t1:M8 (("row" : Str),ls)=ls:=W2.2.2 (.inl rfl);refine ⟨?_,?_,?_,fun z hz=>?_,by rw [L1];have:=h.len;lia,fun e=>?_,fun z hz ho p hp=>?_⟩
 .rw [sN,D8,Z7,t1];have e:(ls.map ((fun x:Str×Str=>x.1)∘fun p=>(p,jobD "row")))=ls:=List.map_id' _;rw [e];exact (hl.cat h.dis (fun k hk=>by unfold LetS at hk;lia) (fun k hk=>by have:=OS_lt hk;lia) (fun k hk e=>by have:=OS_lt e;unfold LetS at hk;lia)).wide fun k hk=>hk.elim .inl fun q=>.inr (.inl q)
 .have:rowsW R "row"=[]:=kW fun z hz=>(h.each z hz).word.1
  show rowsW ([(("row" : Str),ls)]++R) "row"=_;rw [v6,this,agV (w:="row") (by simp)];rfl
 .have:rowsW R "marks"=[]:=kW fun z hz=>(h.each z hz).word.2.1
  show rowsW ([(("row" : Str),ls)]++R) "marks"=_;rw [v6,this,kW (R:=[(("row" : Str),ls)]) (by simp;decide +kernel)];rfl
 .rcases F6.mp hz with e | e
  .exact .inl e
  .exact .inr (.inr (.inl (h.each z e)))
 .exfalso
  unfold hasW at e;rw [mS] at e;obtain ⟨z,hz,q⟩:=e;have q:z.1=("figures" : Str):=by simpa using q
  rcases F6.mp hz with e | e
  .rw [e] at q;exact absurd (show Str.ofString "row"=_ from q) 'c'
  .exact (h.each z e).word.2.2.1 q
 .rcases F6.mp hz with e | e
  .rw [e] at ho;exact absurd rfl ho.word.1
  .exact h.dis.pc p (E2.mpr ⟨_,mem_pairs.mpr ⟨z,e,hp,rfl⟩,rfl⟩)
theorem RulP.marks{R:List Rl}(h:RulP ns ls ms false n R)(hm:Dis ns MarkS ms):RulP ns ls ms true (n+1) (R++[(("marks" : Str),ms)]):=by
 have t1:M8 (("marks" : Str),ms)=ms:=W2.2.2 (.inr (.inl rfl));refine ⟨?_,?_,?_,fun z hz=>?_,by rw [C1,O4];have:=h.len;lia,fun e=>?_,fun z hz ho=>?_⟩
 .rw [nO,D8,yF,t1];refine (h.dis.cat hm (fun k hk=>?_) (fun k hk=>by unfold MarkS at hk;lia) (fun k hk e=>?_)).wide fun k hk=>?_
  .rcases hk with hk | hk | hk
   .unfold LetS at hk;lia
   .have:=OS_lt hk;lia
   .exact absurd hk.1 (by decide)
  .unfold MarkS at e
   rcases hk with hk | hk | hk
   .unfold LetS at hk;lia
   .have:=OS_lt hk;lia
   .exact absurd hk.1 (by decide)
  .rcases hk with (hk | hk | hk) | hk
   .exact .inl hk
   .exact .inr (.inl hk)
   .exact absurd hk.1 (by decide)
   .exact .inr (.inr ⟨rfl,hk⟩)
 .rw [v6,h.row,kW (R:=[(("marks" : Str),ms)]) (by simp;decide +kernel)];rfl
 .rw [v6,h.mrk,agV (R:=[(("marks" : Str),ms)]) (w:="marks") (by simp)];rfl
 .rcases E4.mp hz with e | e
  .rcases h.each z e with q | q | q | q
   .exact .inl q
   .exact absurd q.2 (by decide)
   .exact .inr (.inr (.inl q))
   .exact .inr (.inr (.inr q))
  .exact .inr (.inl ⟨G2.mp e,rfl⟩)
 .rw [sO,Bool.or_eq_true] at e
  rcases e with e | e
  .exact h.fig e
  .exact absurd e (by simp [hasW];decide +kernel)
 .rcases E4.mp hz with e | e
  .exact h.oi z e ho
  .rw [G2.mp e] at ho;exact absurd rfl ho.word.2.1
theorem RulP.flag{b:Bool}{R:List Rl}(h:RulP ns ls ms b n R){w:Str}(hw:flagW w)(hf:w=("figures" : Str)->Q5 ns=false):RulP ns ls ms b (n+1) (R++[(w,[])]):=by
 obtain ⟨n1,n2,n3,n4,n5⟩:=hw.no;refine ⟨?_,?_,?_,fun z hz=>?_,by rw [C1,O4];have:=h.len;lia,fun e=>?_,fun z hz ho p hp=>?_⟩
 .rw [nO,D8,yF,yG hw,G7];exact h.dis
 .rw [v6,h.row,kW (R:=[(w,[])]) (by simpa using n1)];rfl
 .rw [v6,h.mrk,kW (R:=[(w,[])]) (by simpa using n2),G7]
 .rcases E4.mp hz with e | e
  .exact h.each z e
  .rw [G2.mp e];exact .inr (.inr (.inr ⟨rfl,hw⟩))
 .rw [sO,Bool.or_eq_true] at e
  rcases e with e | e
  .exact h.fig e
  .exact hf (by simpa [hasW] using e)
 .rcases E4.mp hz with e | e
  .exact h.oi z e ho p hp
  .rw [G2.mp e,yG hw] at hp;cases hp
theorem RulP.wide{b:Bool}{R:List Rl}(h:RulP ns ls ms b n R)(l:n<=m):RulP ns ls ms b m R:=⟨h.dis,h.row,h.mrk,h.each,F8 h.len l,h.fig,h.oi⟩
theorem aiQ{α:Type}{a b:List α}{x:α}(h:a++b=[x]):b++a=[x]:=by
 cases a with
 | nil=>simpa using h
 | cons y a=>
  simp only [gD,k4.injEq,List.append_eq_nil_iff] at h;obtain ⟨rfl,rfl,rfl⟩:=h;rfl
theorem RulP.turn{b:Bool}{R:List Rl}(h:RulP ns ls ms b n R)(k:Nat):RulP ns ls ms b n (R.drop k++R.take k):=by
 have e:R.take k++R.drop k=R:=V0 k R;have hm:∀ z,z∈R.drop k++R.take k↔z∈R:=fun z=>by
  conv=>rhs;rw [<- e]
  rw [E4,E4,or_comm]
 refine ⟨?_,?_,?_,fun z hz=>h.each z ((hm z).mp hz),?_,fun q=>h.fig ?_,fun z hz=>h.oi z ((hm z).mp hz)⟩
 .have p:((C7 (R.drop k++R.take k)).map (·.1)).Perm ((C7 R).map (·.1)):=by
   conv=>rhs;rw [<- e]
   rw [nO,nO];exact List.Perm.map _ List.perm_append_comm
  exact ⟨p.nodup_iff.mpr h.dis.nd,fun x hx=>h.dis.pc x (p.mem_iff.mp hx),fun x hx y hy=>h.dis.uq x (p.mem_iff.mp hx) y (p.mem_iff.mp hy)⟩
 .have:=h.row
  rw [<- e,v6] at this;rw [v6];exact aiQ this
 .have:=h.mrk
  rw [<- e,v6] at this;rw [v6]
  by_cases hb:b=true
  .rw [if_pos hb] at this ⊢;exact aiQ this
  .rw [if_neg hb] at this ⊢
   obtain ⟨h1,h2⟩:=List.append_eq_nil_iff.mp this;rw [h1,h2];rfl
 .have:=h.len
  have e2:=congrArg Z8 e;rw [C1] at e2 ⊢
  lia
 .rw [<- e,sO];rw [sO] at q;rw [Bool.or_comm];exact q
theorem lookN{s:Str} : ∀ {l:List (Str×Str)},(l.map (·.1)).Nodup->(p,s)∈l->l.lookup p=some s
 | [],_,h=>by cases h
 | (y,t)::l,nd,h=>by
  rw [G1,V8] at nd;rw [List.lookup_cons]
  rcases F6.mp h with h | h
  .obtain ⟨rfl,rfl⟩:=Prod.mk.inj h
   simp
  .have:p≠y:=fun e=>nd.1 (E2.mpr ⟨_,h,e⟩)
   have e:(p==y)=false:=by simpa using this
   rw [e];exact lookN nd.2 h
noncomputable def g6 (R:List Rl) (p:Str):Str:=((C7 R).lookup p).getD ""
theorem ala(z:Rl):(M8 z).length<=z.2.length:=by
 unfold M8
 split
 .rw [U3];lia
 .split
  .rw [E9];lia
  .split
   .exact B3 _
   .exact F9 _
theorem yH : ∀ {R:List Rl},(∀ z∈R,z.2.length<=n)->(C7 R).length<=n*R.length
 | [],_=>F9 _
 | z::R,h=>by
  rw [sN,C1,A6,L1,Nat.mul_add,Nat.mul_one];have h1:=ala z;have h2:=h z O0;have h3:=yH fun y hy=>h y (M6 _ hy)
  lia
theorem agW(nd:ps.Nodup){e:Str×Str}(he:e∈V6 ps):ps.idxOf e.1<ps.idxOf e.2:=by
 unfold V6 at he;obtain ⟨i,hi,e1⟩:=Z3.mp he;rw [List.getElem_zip] at e1;have i7:i+1<ps.length:=by rw [List.length_zip,List.length_tail] at hi;lia
 have lU:i<ps.tail.length:=by rw [List.length_tail];lia
 have e3:ps.tail[i]'lU=ps[i+1]:=List.getElem_tail lU;have f1:ps[i]=e.1:=congrArg Prod.fst e1;have f2:ps[i+1]=e.2:=e3.symm.trans (congrArg Prod.snd e1);have a1:ps.idxOf ps[i]=i:=List.Nodup.idxOf_getElem nd i 'a';have a2:ps.idxOf ps[i+1]=i+1:=List.Nodup.idxOf_getElem nd (i+1) i7;rw [<- f1,<- f2,a1,a2];lia
theorem Q6.blank{k:Int}(h:Q6 ns k " "):False:=by
 have:=h.ok.1
 exact absurd this 'c'
structure RulG(ns:List Int)(ls ms:List Str)(R:List Rl):Prop where
 p:∃ b,RulP ns ls ms b 12 R/\(b=false->ms=[])
 l0:2<=ls.length
 l1:ls.length<=19
 ld:Dis ns LetS ls
 lw:∃ n,LetW ns n ls
 m1:ms.length<=4
 md:Dis ns MarkS ms
theorem RulG.pc{R:List Rl}(h:RulG ns ls ms R)(hp:p∈(C7 R).map (·.1)):∃ k,Q6 ns k p:=by
 obtain ⟨b,h,_⟩:=h.p;obtain ⟨k,_,q⟩:=h.dis.pc p hp;exact ⟨k,q⟩
theorem RulG.nd{R:List Rl}(h:RulG ns ls ms R):((C7 R).map (·.1)).Nodup:=by
 obtain ⟨b,h,_⟩:=h.p;exact h.dis.nd
theorem RulG.row{R:List Rl}(h:RulG ns ls ms R):rowsW R "row"=[ls]:=by
 obtain ⟨b,h,_⟩:=h.p;exact h.row
theorem RulG.mrk{R:List Rl}(h:RulG ns ls ms R):(rowsW R "marks").flatten=ms/\(edges (rowsW R "marks")=V6 ms):=by
 obtain ⟨b,h,hb⟩:=h.p;rw [h.mrk]
 cases b with
 | true=>simp [edges]
 | false=>rw [hb rfl];exact ⟨rfl,rfl⟩
theorem RulG.len{R:List Rl}(h:RulG ns ls ms R):R.length<=12:=by
 obtain ⟨b,h,_⟩:=h.p;exact h.len
theorem RulG.each{R:List Rl}(h:RulG ns ls ms R){z:Rl}(hz:z∈R):z=(("row" : Str),ls)\/z=(("marks" : Str),ms)\/OthZ ls ms z\/(z.2=[]/\flagW z.1):=by
 obtain ⟨b,h,_⟩:=h.p
 rcases h.each z hz with q | q | q | q
 .exact .inl q
 .exact .inr (.inl q.1)
 .exact .inr (.inr (.inl q))
 .exact .inr (.inr (.inr q))
theorem RulG.zl{R:List Rl}(h:RulG ns ls ms R){z:Rl}(hz:z∈R):z.2.length<=19:=by
 have h1:=h.l1;have h2:=h.m1
 rcases h.each hz with rfl | rfl | q | q
 .exact h1
 .show ms.length<=19;lia
 .rcases q with ⟨_,l,fs,e,_,_,q⟩ | ⟨_,p,q,qs,e,_,_,l⟩ | ⟨_,l⟩
  .rw [e,L1];lia
  .rw [e,L1,L1];lia
  .lia
 .rw [q.1];exact F9 _
theorem RulG.job{R:List Rl}(h:RulG ns ls ms R){j:Str}(hp:(p,j)∈C7 R):g6 R p=j:=by
 unfold g6;rw [lookN h.nd hp];rfl
theorem RulG.letter{R:List Rl}(h:RulG ns ls ms R) : (p,("letter" : Str))∈C7 R↔p∈ls:=by
 rw [mem_letter,h.row];simp
theorem RulG.mark{R:List Rl}(h:RulG ns ls ms R) : (p,("mark" : Str))∈C7 R↔p∈ms:=by
 rw [mem_mark,h.mrk.1]
theorem RulG.good{R:List Rl}(h:RulG ns ls ms R):GoodR (g6 R) (ls.idxOf ·) (ms.idxOf ·) R:=by
 have hl:=h.len;have L5:=yH (n:=19) fun z hz=>h.zl hz
 refine ⟨by lia,by lia,fun i p j hi=>⟨?_,fun hm=>?_,fun hf=>?_,?_⟩,fun hb=>?_,fun z hz=>by have:=h.zl hz;lia,fun z hz hw=>?_,fun z hz hw p hp=>?_,fun z hz hw p hp=>?_,fun z hz hw p hp=>?_,?_,?_,fun e he=>?_,fun e he=>?_⟩
 .exact (h.job (L6 hi)).symm
 .exfalso
  obtain ⟨⟨p',j'⟩,hm',rfl⟩:=E2.mp hm;obtain ⟨k,hk,e⟩:=rA.mp hm';have i7:=(I0.mp hi)
  obtain ⟨i7,e2⟩:=i7;have nd:=h.nd;rw [dN,List.pairwise_map,fX] at nd;refine nd k i 'a' i7 'a' ?_;rw [e,e2]
 .obtain ⟨b,hP,_⟩:=h.p;obtain ⟨k,hk⟩:=h.pc (E2.mpr ⟨_,L6 hi,rfl⟩);exact hk.ok.2 (hP.fig hf)
 .obtain ⟨k,hk⟩:=h.pc (E2.mpr ⟨_,L6 hi,rfl⟩)
  have:p.length<=2:=(kH hk.ok.1).2.2
  lia
 .obtain ⟨k,hk⟩:=h.pc hb;exact hk.blank
 .rcases h.each hz with rfl | rfl | q | q
  .rcases hw with hw | hw <;> exact absurd (show Str.ofString "row"=_ from hw) 'c'
  .rcases hw with hw | hw <;> exact absurd (show Str.ofString "marks"=_ from hw) 'c'
  .rcases q with ⟨_,l,fs,e,_⟩ | ⟨_,p,q,qs,e,_⟩ | ⟨e,_⟩
   .rw [e];simp
   .rw [e];simp
   .rw [e] at hw;rcases hw with hw | hw <;> exact absurd hw 'c'
  .have:=q.2.no
   rcases hw with hw | hw
   .exact absurd hw this.2.2.2.1
   .exact absurd hw this.2.2.1
 .rcases h.each hz with rfl | rfl | q | q
  .exact absurd (show Str.ofString "row"=_ from hw) 'c'
  .exact absurd (show Str.ofString "marks"=_ from hw) 'c'
  .rcases q with ⟨_,l,fs,e,hl,_⟩ | ⟨e,_⟩ | ⟨e,_⟩
   .rw [e] at hp
    have:p=l:=by simpa using hp
    rw [this];exact h.letter.mpr hl
   .rw [e] at hw;exact absurd hw 'c'
   .rw [e] at hw;exact absurd hw 'c'
  .exact absurd hw q.2.no.2.2.1
 .rcases h.each hz with rfl | rfl | q | q
  .exact absurd (show Str.ofString "row"=_ from hw) 'c'
  .exact absurd (show Str.ofString "marks"=_ from hw) 'c'
  .rcases q with ⟨e,_⟩ | ⟨_,x,q,qs,e,hq,_⟩ | ⟨e,_⟩
   .rw [e] at hw;exact absurd hw 'c'
   .rw [e] at hp
    have:p=q:=by simpa using hp
    rw [this];exact h.letter.mpr hq
   .rw [e] at hw;exact absurd hw 'c'
  .exact absurd hw q.2.no.2.2.2.1
 .rcases h.each hz with rfl | rfl | q | q
  .exact absurd (show Str.ofString "row"=_ from hw) 'c'
  .exact absurd (show Str.ofString "marks"=_ from hw) 'c'
  .rcases q with ⟨e,_⟩ | ⟨_,x,q,qs,e,_,hq,_⟩ | ⟨e,_⟩
   .rw [e] at hw;exact absurd hw 'c'
   .rw [e] at hp;have hp:p∈qs:=by simpa using hp
    exact (hq p hp).imp h.letter.mpr h.mark.mpr
   .rw [e] at hw;exact absurd hw 'c'
  .exact absurd hw q.2.no.2.2.2.1
 .rw [h.row];have:=h.l1;simp;lia
 .rw [h.mrk.1];have:=h.m1;lia
 .rw [h.row] at he;have he:e∈V6 ls:=by simpa [edges] using he
  exact agW h.ld.nd he
 .rw [h.mrk.2] at he;exact agW h.md.nd he
theorem RulG.lets{R:List Rl}(h:RulG ns ls ms R)(hL:T0 R "row" L):L=ls:=by
 refine ak5 h.ld.nd (kM _) hL.1 hL.2 (fun p=>?_) fun e he=>?_
 .rw [xZ,h.row];simp
 .rw [h.row];simpa [edges] using he
theorem RulG.mrks{R:List Rl}(h:RulG ns ls ms R)(hM:T0 R "marks" M):M=ms:=by
 refine ak5 h.md.nd (kM _) hM.1 hM.2 (fun p=>?_) fun e he=>?_
 .rw [xZ,h.mrk.1]
 .rw [h.mrk.2];exact he
theorem RulesAt.more{ts:List Addr}{R:List Rl}(h:RulesAt H0 H a ts R)(S:Same H H'):RulesAt H0 H' a ts R:=⟨h.rows.same S,h.nd,h.new,h.same.trans S⟩
theorem yI{b:Bool}{R:List Rl}{H8:Hp}{ts:List Addr}{w:Str}(RA:RulesAt H H8 r ts R)(P:RulP ns ls ms b n R)(hn:n<=100)(hw:flagW w)(hf:w=("figures" : Str)->Q5 ns=false) :
  cE K "list" (V.ref r) H8/\1<=sizeLine/\∀ p:Addr,H8 p=none->nF (V.ref r) [V.ref p] (A0 H8 p (HO.tup [V.str w])) fun x H1=>∃ ts R,RulesAt H H1 r ts R/\RulP ns ls ms b (n+1) R:=by
 refine ⟨R7 RA.rows.top,by decide,fun p np=>?_⟩;have S:Same H8 (A0 H8 p (HO.tup [V.str w])):=Same.new np;have hl:=P.len;exact appOk (S _ _ RA.rows.top) (by rw [A6,RA.rows.len];exact K1 'a') ⟨_,_,RA.grow S np (z:=(w,[])) A5,P.flag hw hf⟩
theorem RulG.name_letter{R:List Rl}(h:RulG ns ls ms R)(hp:p∈(C7 R).map (·.1)){k:Int}(k0:0<=k)(k1:k<16)(hk:Q6 ns k p):p∈ls:=by
 obtain ⟨b,P,hb⟩:=h.p;obtain ⟨⟨q,j⟩,hq,rfl⟩:=E2.mp hp;obtain ⟨z,hz,ht,_⟩:=mem_pairs.mp hq
 rcases P.each z hz with rfl | ⟨rfl,_⟩ | ho | ⟨e,hw⟩
 .rw [W2.2.2 (.inl rfl)] at ht;exact ht
 .rw [W2.2.2 (.inr (.inl rfl))] at ht;obtain ⟨i,hi,pi⟩:=h.md.pc _ ht;unfold MarkS at hi
  have:=hk.inj pi k0 'a' 'a' 'a'
  lia
 .obtain ⟨i,hi,pi⟩:=P.oi z hz ho _ ht;have hi:=OS_lt hi
  have:=hk.inj pi k0 'a' 'a' 'a'
  lia
 .obtain ⟨w,ps⟩:=z;obtain rfl:ps=[]:=e;rw [yG hw] at ht;cases ht
theorem p5(c d:Nat):(L8 c d).cps.toList=[c,d]:=rfl
theorem gZ(c:Nat):(one c).cps.toList=[c]:=rfl
theorem RulG.closed{R:List Rl}(h:RulG ns ls ms R){c d e:Nat}(h1:one c∈(C7 R).map (·.1))(h2:L8 c d∈(C7 R).map (·.1))(h3:L8 d e∈(C7 R).map (·.1)):one e∈(C7 R).map (·.1):=by
 obtain ⟨b,P,hb⟩:=h.p;obtain ⟨n,W⟩:=h.lw;have pair:∀ {x y:Nat},L8 x y∈ls->∃ m:Int,0<=m/\m<n/\y=K8 ns m:=fun {x y} hm=>by
  obtain ⟨k,_,_,q | ⟨m,m0,m1,q⟩⟩:=W.each _ hm
  .have:=congrArg (fun z:Str=>z.cps.toList.length) q
   simp [p5,gZ] at this
  .refine ⟨m,m0,m1,?_⟩
   have:=congrArg (fun z:Str=>z.cps.toList) q
   rw [p5] at this;have e2:(one (K8 ns k)++one (K8 ns m)).cps.toList=[K8 ns k,K8 ns m]:=rfl;rw [e2] at this
   simpa using (k4.inj this).2
 obtain ⟨k,hk,pk⟩:=P.dis.pc _ h2;have hkk:0<=k/\k<83:=by
  rcases hk with q | q | q
  .unfold LetS at q;lia
  .have:=OS_lt q;lia
  .have:=q.2;unfold MarkS at this;lia
 have ek:c=K8 ns k:=by
  obtain ⟨r,e1,_⟩:=pk;rw [p5] at e1;exact (k4.inj e1).1
 have pc1:Q6 ns k (one c):=⟨[],by rw [<- ek];rfl,by simp,by simp⟩
 have k16:k<16:=by
  rcases hk with q | q | q
  .exact q.2
  .exfalso
   have:=P.dis.uq _ h1 _ h2 k (by have:=OS_lt q;lia) hkk.2 pc1 pk
   have:=congrArg (fun z:Str=>z.cps.toList.length) this
   simp [p5,gZ] at this
  .exfalso
   have q2:=q.2;unfold MarkS at q2
   have:=P.dis.uq _ h1 _ h2 k 'a' hkk.2 pc1 pk
   have:=congrArg (fun z:Str=>z.cps.toList.length) this
   simp [p5,gZ] at this
 obtain ⟨m,m0,m1,ed⟩:=pair (h.name_letter h2 hkk.1 k16 pk);have n1:=W.n1;obtain ⟨k3,hk3,pk3⟩:=P.dis.pc _ h3;have pm:Q6 ns m (L8 d e):=by
  obtain ⟨r,e1,hr,hr2⟩:=pk3;rw [p5] at e1;refine ⟨[e],by rw [<- ed];rfl,by simp,fun x hx=>hr2 x ?_⟩;rw [<- (k4.inj e1).2];exact hx
 obtain ⟨m',m0',m1',ee⟩:=pair (h.name_letter h3 m0 'a' pm);rw [ee]
 have:=h.letter.mpr (W.all m' m0' m1')
 exact E2.mpr ⟨_,this,rfl⟩
theorem RulG.str{R:List Rl}(h:RulG ns ls ms R):∀ z∈R,∀ y∈z.1::z.2,W9 y=true:=fun z hz y hy=>by
 have pl:∀ p∈ls,W9 p=true:=fun p hp=>by obtain ⟨k,_,q⟩:=h.ld.pc p hp;exact (kH q.ok.1).1
 have pm:∀ p∈ms,W9 p=true:=fun p hp=>by obtain ⟨k,_,q⟩:=h.md.pc p hp;exact (kH q.ok.1).1
 have pt:∀ p∈M8 z,W9 p=true:=fun p hp=>by
  obtain ⟨k,q⟩:=h.pc (E2.mpr ⟨_,mem_pairs.mpr ⟨z,hz,hp,rfl⟩,rfl⟩);exact (kH q.ok.1).1
 have pw:∀ w:Str,(w="row"\/w="marks"\/w="great"\/w="as"\/w="over"\/w="figures"\/w="behind"\/w="blanks")->W9 w=true:=fun w hw=>by
  rcases hw with rfl | rfl | rfl | rfl | rfl | rfl | rfl | rfl <;> decide +kernel
 rcases h.each hz with rfl | rfl | q | q
 .rcases F6.mp hy with rfl | hy
  .exact pw _ (.inl rfl)
  .exact pl y hy
 .rcases F6.mp hy with rfl | hy
  .exact pw _ (.inr (.inl rfl))
  .exact pm y hy
 .rcases q with ⟨w,l,fs,e,hl,_⟩ | ⟨w,p,q,qs,e,hq,bK,_⟩ | ⟨w,_⟩
  .rw [W2.1 w,e] at pt;rw [w,e] at hy
   rcases F6.mp hy with rfl | hy
   .exact pw _ (.inr (.inr (.inl rfl)))
   .rcases F6.mp hy with rfl | hy
    .exact pl _ hl
    .exact pt y hy
  .rw [W2.2.1 w,e] at pt;rw [w,e] at hy
   rcases F6.mp hy with rfl | hy
   .exact pw _ (.inr (.inr (.inr (.inl rfl))))
   .rcases F6.mp hy with rfl | hy
    .exact pt _ (by simp)
    .rcases F6.mp hy with rfl | hy
     .exact pl _ hq
     .exact (bK y hy).elim (pl y) (pm y)
  .rw [W2.2.2 (.inr (.inr w))] at pt;rw [w] at hy
   rcases F6.mp hy with rfl | hy
   .exact pw _ (.inr (.inr (.inr (.inr (.inl rfl)))))
   .exact pt y hy
 .rw [q.1] at hy;have hy:y=z.1:=by simpa using hy
  rw [hy]
  rcases q.2 with e | e | e <;> rw [e] <;> decide +kernel
noncomputable def spLaw (K:PySem.W.Frag):Sp:=fun vs H Q _=>∃ (a:Addr) (ns:List Int),vs=[.ref a]/\D9 K H a (ns.map V.int)/\ns.length<=63/\∀ H',Q (.bl true) H'
noncomputable def aiR (K:PySem.W.Frag):Sp:=fun vs H Q _=>∃ (a:Addr) (ns:List Int),vs=[.ref a]/\D9 K H a (ns.map V.int)/\∀ l ts R ls ms H',Same H H'->H l=none->IsRules H' l ts R->RulG ns ls ms R->Q (.ref l) H'
noncomputable def rIntU:List V->Hp->VK->Prop
 | [.bl b],H,Q=>Q (.int (if b then 1 else 0)) H
 | [.str x],H,Q=>PySem.NumText.AllDigits x.cps.toList/\1<=x.length/\x.length<=640/\Q (.int ((mW x.cps.toList:Nat):Int)) H
 | _,_,_=>False
theorem arJ : QCall X (.type "int") rIntU:=⟨by
 intro pins s Y H xs us Q I r h
 match xs,h with
 | [.bl b],h=>exact aj9 pins s Y H _ us Q I r (.inr ⟨b,rfl,h⟩)
 | [.str x],h=>
  obtain ⟨h1,h2,h3,q⟩:=h;obtain ⟨u,rfl,r1⟩:=vals1 r;obtain ⟨t,rfl⟩:=r1;have N0:x.cps.toList≠[]:=fun e=>by
   have:x.cps.toList.length=x.length:=by simp [Str.length]
   rw [e] at this;simp at this;lia
  exact PySem.W.KIN.call_text (PySem.intText_digits h1 N0 'a') h3 ⟨V.int ((mW x.cps.toList:Nat):Int),H,I.tok _,⟨_,rfl⟩,q⟩⟩
theorem arK{b:Bool} : rIntU [.bl b] H Q=Q (.int (if b then 1 else 0)) H:=rfl
theorem arL{x:Str} : rIntU [.str x] H Q=(PySem.NumText.AllDigits x.cps.toList/\1<=x.length/\x.length<=640/\Q (.int ((mW x.cps.toList:Nat):Int)) H):=rfl
noncomputable def rInD (K:PySem.W.Frag) (x y:V) (H:Hp) (Q:VK):Prop:=∃ (d:PyData) (ds:List PyData),Dn K H x d/\Dn K H y (.list ds)/\min (V9 ds) d.depth<=60/\Q (.bl (ds.any fun e=>O9 e d)) H
theorem q_inD(hu:X.A.units+64<cLine)(hK:X.K=K:=by rfl):QOp X (compareOp .In) (rInD K):=by
 subst hK;refine ⟨?_⟩;sleep 0;obtain ⟨d,ds,h1,h2,h3,q⟩:=h;obtain ⟨c1,as1,r1⟩:=h1.reads I rfl rx;obtain ⟨c2,pP,r2⟩:=h2.reads I rfl ry;exact SeqAt.in_list_reads r2 r1 c2 c1 'a' ⟨.bl _,H,I,rfl,q⟩
theorem arM{y:V} : rInD K x y H Q=∃ (d:PyData) (ds:List PyData),Dn K H x d/\Dn K H y (.list ds)/\min (V9 ds) d.depth<=60/\Q (.bl (ds.any fun e=>O9 e d)) H:=rfl
end L2
namespace L2
open PySem PySem.Spec PyProof.Rows
open PySem.Builtin PySem.Builtin.Str PySem.StrLaws
noncomputable def arN:List V->Hp->VK->Prop:=fun xs H Q=>∃ n,xs=[.int n]/\n.natAbs.log2<1920/\Q (.str (Str.ofString (toString n))) H
theorem ao4 : QCall X (.type "str") arN:=⟨by
 intro pins s Y H xs us Q I r h;obtain ⟨n,rfl,hn,q⟩:=h
 cases r with
 | cons r1 r2=>
  cases r2
  obtain ⟨t,rfl⟩:=r1;exact PySem.P.str_of_int hn ⟨.str _,H,I.tok _,⟨_,rfl⟩,q⟩⟩
theorem aeW:∀ (k fuel n:Nat) (ds:List Char),n<10 ^ (k+1)->(Nat.toDigitsCore 10 fuel n ds).length<=k+1+ds.length
 | k,0,n,ds,_=>by simp [Nat.toDigitsCore]
 | 0,fuel+1,n,ds,h=>by
  unfold Nat.toDigitsCore
  have:n / 10=0:=by lia
  simp only [this,if_true,L1];lia
 | k+1,fuel+1,n,ds,h=>by
  unfold Nat.toDigitsCore;simp only
  split
  .simp;lia
  .have:=aeW k fuel (n / 10) (Nat.digitChar (n % 10)::ds) (by rw [Nat.div_lt_iff_lt_mul (by decide)];rw [Nat.pow_succ] at h;exact h)
   simp at this ⊢
   lia
noncomputable def rTupA (K:PySem.W.Frag):R2:=fun x y H Q=>∃ a b xs ys,x=.ref a/\y=.ref b/\C6 K H a xs/\C6 K H b ys/\ys≠[]/\xs.length+ys.length<=sizeLine/\∀ p H',Same H H'->C6 K H' p (xs++ys)->(H' p=some (.tup (xs++ys))\/xs=[]/\p=b)->Q (.ref p) H'
theorem arO : rTupA K (.ref a) (.ref b) H Q=∃ xs ys,C6 K H a xs/\C6 K H b ys/\ys≠[]/\xs.length+ys.length<=sizeLine/\∀ p H',Same H H'->C6 K H' p (xs++ys)->(H' p=some (.tup (xs++ys))\/xs=[]/\p=b)->Q (.ref p) H':=
 propext ⟨fun ⟨_,_,xs,ys,e1,e2,h⟩=>(by cases e1;cases e2;exact ⟨xs,ys,h⟩),fun ⟨xs,ys,h⟩=>⟨a,b,xs,ys,rfl,rfl,h⟩⟩
end L2
namespace L2
open PySem PySem.Spec PyProof.Rows
theorem arP{d:Value}(h:(us++[d]).length=3):∃ u1 u2,us=[u1,u2]:=by
 match us,h with
 | [a,b],_=>exact ⟨a,b,rfl⟩
 | [],h=>simp at h
 | [_],h=>simp at h
 | _::_::_::r,h=>simp at h
theorem kX(g:List Str)(z:Str):(valV (kvOf g) (Sum.inr z)).isSome=decide (z∈g):=by
 rw [<- wS];unfold valV;rw [Option.isSome_map,List.isSome_find?]
theorem yJ{y rest:List Nat}(h:z.cps.toList=pre++(y++rest)):cutS z (some (pre.length:Int)) (some ((pre.length:Int)+(y.length:Int)))=⟨y.toArray⟩:=by
 have hl:z.length=pre.length+(y.length+rest.length):=by
  have:=congrArg Z8 h
  simp [Str.length] at this ⊢
  lia
 apply Str.ext'
 apply Array.toList_inj.mp
 rw [wV,h];have e1:HT.sIx z.length 0 (some (pre.length:Int))=pre.length:=by rw [HT.sIx_nat];lia
 have e2:HT.sIx z.length z.length (some ((pre.length:Int)+(y.length:Int)))=pre.length+y.length:=by
  rw [show (pre.length:Int)+(y.length:Int)=((pre.length+y.length:Nat):Int) by lia,HT.sIx_nat];lia
 rw [e1,e2,List.drop_left,show pre.length+y.length-pre.length=y.length by lia,List.take_left]
theorem agX{c:Nat}(h:z.cps.toList=pre++[c]):cutS z (some (pre.length:Int)) (some ((pre.length:Int)+2))=one c:=by
 have hl:z.length=pre.length+1:=by
  have:=congrArg Z8 h
  simp [Str.length] at this ⊢
  lia
 apply Str.ext'
 apply Array.toList_inj.mp
 rw [wV,h];have e1:HT.sIx z.length 0 (some (pre.length:Int))=pre.length:=by rw [HT.sIx_nat];lia
 have e2:HT.sIx z.length z.length (some ((pre.length:Int)+2))=pre.length+1:=by
  rw [show (pre.length:Int)+2=((pre.length+2:Nat):Int) by lia,HT.sIx_nat];lia
 rw [e1,e2,List.drop_left,show pre.length+1-pre.length=1 by lia];rfl
theorem alb{r:List Nat}{c:Nat} : K5 (pre++c::r) (pre.length:Int)=some c:=N2 (by rw [fW (B3 _),Nat.sub_self];rfl)
theorem afB:∀ (zs acc:List Str),Y5 (kvOf acc) (kvOf zs)=kvOf (G6 acc zs)
 | [],acc=>rfl
 | z::zs,acc=>by
  show Y5 (putK (kvOf acc) (Sum.inr z) (.bl true)) (kvOf zs)=kvOf (G6 (dd acc z) zs);rw [agE,afB zs]
noncomputable def alc:Sp:=fun vs H Q _=>∃ (z:Str) (pre rest:List Nat),vs=[.str z,.int pre.length]/\z.length<=1000/\z.cps.toList=pre++rest/\Q (.str ⟨(rest.takeWhile figO).toArray⟩) H
theorem amR(h:(us++[]).length=3):∃ u1 u2 u3,us=[u1,u2,u3]:=by
 match us,h with
 | [a,b,c],_=>exact ⟨a,b,c,rfl⟩
 | [],h=>simp at h
 | [_],h=>simp at h
 | [_,_],h=>simp at h
 | _::_::_::_::r,h=>simp at h
theorem lenL(z:Str):z.cps.toList.length=z.length:=by simp [Str.length]
noncomputable def partG (g:List Str):List Nat->Option Str
 | []=>none
 | [c]=>if one c∈g then some (one c) else none
 | c::d::_=>if L8 c d∈g then some (L8 c d) else if one c∈g then some (one c) else none
theorem eJ(g:List Str)(c:Nat):partG g [c]=if one c∈g then some (one c) else none:=rfl
theorem c0(g:List Str)(c d:Nat)(r:List Nat):partG g (c::d::r)=if L8 c d∈g then some (L8 c d) else if one c∈g then some (one c) else none:=rfl
noncomputable def partF (w:Bool) (g:List Str):List Nat->Option Str
 | []=>none
 | c::r=>if (w&&figO c)=true then some ⟨((c::r).takeWhile figO).toArray⟩ else partG g (c::r)
theorem eK(w:Bool)(g:List Str)(c:Nat)(r:List Nat):partF w g (c::r)=if (w&&figO c)=true then some ⟨((c::r).takeWhile figO).toArray⟩ else partG g (c::r):=rfl
theorem afC : ∀ {l:List Nat},partG g l=some y->∃ rest,l=y.cps.toList++rest/\1<=y.length
 | [],h=>by cases h
 | [c],h=>by
  rw [eJ] at h
  by_cases hc:one c∈g
  .rw [if_pos hc] at h;cases h;exact ⟨[],rfl,by show 1<=1;decide⟩
  .rw [if_neg hc] at h;cases h
 | c::d::r,h=>by
  rw [c0] at h
  by_cases h2:L8 c d∈g
  .rw [if_pos h2] at h;cases h;exact ⟨r,rfl,by show 1<=2;decide⟩
  .rw [if_neg h2] at h
   by_cases hc:one c∈g
   .rw [if_pos hc] at h;cases h;exact ⟨d::r,rfl,by show 1<=1;decide⟩
   .rw [if_neg hc] at h;cases h
theorem ahO(h:∀ x,x∈g↔x∈g'):∀ l,partG g l=partG g' l
 | []=>rfl
 | [c]=>by
  rw [eJ,eJ]
  by_cases hc:one c∈g
  .rw [if_pos hc,if_pos ((h _).mp hc)]
  .rw [if_neg hc,if_neg (fun z=>hc ((h _).mpr z))]
 | c::d::r=>by
  rw [c0,c0]
  by_cases h2:L8 c d∈g
  .rw [if_pos h2,if_pos ((h _).mp h2)]
  .rw [if_neg h2,if_neg (fun z=>h2 ((h _).mpr z))]
   by_cases hc:one c∈g
   .rw [if_pos hc,if_pos ((h _).mp hc)]
   .rw [if_neg hc,if_neg (fun z=>hc ((h _).mpr z))]
theorem ahP{w:Bool}(h:∀ x,x∈g↔x∈g')(l:List Nat):partF w g l=partF w g' l:=by
 cases l with
 | nil=>rfl
 | cons c r=>rw [eK,eK,ahO h]
theorem yK{w:Bool}{l:List Nat}(h:partF w g l=some y):∃ rest,l=y.cps.toList++rest/\1<=y.length:=by
 cases l with
 | nil=>cases h
 | cons c r=>
  rw [eK] at h
  by_cases hw:(w&&figO c)=true
  .rw [if_pos hw] at h;cases h;rw [U4] at hw;refine ⟨(c::r).dropWhile figO,(List.takeWhile_append_dropWhile).symm,?_⟩;show 1<=((c::r).takeWhile figO).length;rw [qZ hw.2]
   simp
  .rw [if_neg hw] at h;exact afC h
noncomputable def cutFn (w:Bool) (g:List Str):Nat->List Nat->Nat×List Str
 | 0,_=>(0,[])
 | n+1,l=>match partF w g l with
  | none=>(0,[])
  | some y=>((cutFn w g n (l.drop y.length)).1+y.length,y::(cutFn w g n (l.drop y.length)).2)
noncomputable def cutF (w:Bool) (g:List Str) (l:List Nat):Nat×List Str:=cutFn w g l.length l
theorem afD(w:Bool)(g:List Str):∀ (n m:Nat) (l:List Nat),l.length<=n->l.length<=m->cutFn w g n l=cutFn w g m l
 | 0,0,_,_,_=>rfl
 | 0,m+1,l,h,_=>by
  have:l=[]:=q9.mp 'a'
  subst this;rfl
 | n+1,0,l,_,h=>by
  have:l=[]:=q9.mp 'a'
  subst this;rfl
 | n+1,m+1,l,h1,h2=>by
  cases e:partF w g l with
  | none=>show (match partF w g l with | none=>_ | some y=>_)=(match partF w g l with | none=>_ | some y=>_);rw [e]
  | some y=>
   obtain ⟨rest,e1,e2⟩:=yK e;have hd:(l.drop y.length).length=l.length-y.length:=U3
   have:=afD w g n m (l.drop y.length) 'a' 'a'
   show (match partF w g l with | none=>_ | some y=>_)=(match partF w g l with | none=>_ | some y=>_);rw [e]
   dsimp only
   rw [this]
theorem aV{w:Bool}{l:List Nat}(h:partF w g l=none):cutF w g l=(0,[]):=by
 unfold cutF;cases hl:l.length with
 | zero=>rfl
 | succ n=>
  show (match partF w g l with | none=>_ | some y=>_)=_;rw [h]
theorem nR(w:Bool)(g:List Str):cutF w g []=(0,[]):=rfl
theorem v7{w:Bool}{l:List Nat}(h:partF w g l=some y):∃ rest,l=y.cps.toList++rest/\cutF w g l=((cutF w g rest).1+y.length,y::(cutF w g rest).2)/\1<=y.length:=by
 obtain ⟨rest,e1,e2⟩:=yK h;refine ⟨rest,e1,?_,e2⟩;have el:l.length=y.length+rest.length:=by rw [e1,C1,lenL]
 have ed:l.drop y.length=rest:=by rw [e1,<- lenL,List.drop_left]
 unfold cutF;cases hl:l.length with
 | zero=>lia
 | succ k=>
  show (match partF w g l with | none=>_ | some y=>_)=_;rw [h]
  dsimp only
  rw [ed,afD w g k rest.length rest 'a' (B3 _)]
theorem ajB{w:Bool}(h:∀ x,x∈g↔x∈g')(l:List Nat):cutF w g l=cutF w g' l:=by
 have:∀ n l,cutFn w g n l=cutFn w g' n l:=by
  intro n
  induction n with
  | zero=>intro l;rfl
  | succ n ih=>
   intro l;show (match partF w g l with | none=>_ | some y=>_)=(match partF w g' l with | none=>_ | some y=>_);rw [ahP h]
   cases partF w g' l with
   | none=>rfl
   | some y=>dsimp only;rw [ih]
 exact this _ _
theorem kY{w:Bool}{g:List Str} : ∀ (n:Nat) (l:List Nat),l.length<=n->(cutF w g l).1<=l.length/\(cutF w g l).2.length<=l.length/\∀ y∈(cutF w g l).2,∀ c∈y.cps.toList,c∈l
 | 0,l,h=>by
  have:l=[]:=q9.mp 'a'
  subst this;rw [nR];exact ⟨B3 _,B3 _,by simp⟩
 | n+1,l,h=>by
  cases e:partF w g l with
  | none=>rw [aV e];exact ⟨F9 _,F9 _,by simp⟩
  | some y=>
   obtain ⟨rest,e1,e2,e3⟩:=v7 e;have hl:l.length=y.length+rest.length:=by rw [e1,C1,lenL]
   obtain ⟨a,b,c⟩:=kY (w:=w) (g:=g) n rest 'a';rw [e2];refine ⟨by dsimp only;lia,by dsimp only;rw [L1];lia,fun z hz x hx=>?_⟩;rw [e1]
   rcases F6.mp hz with r | r
   .rw [r] at hx;exact E4.mpr (.inl hx)
   .exact E4.mpr (.inr (c z r x hx))
noncomputable def c9 (w:Bool) (g:List Str) (z:Str):Prop:=(cutF w g z.cps.toList).1=z.length
noncomputable def ald:Sp:=fun vs H Q _=>∃ (d:Addr) (z:Str) (g:List Str) (pre:List Nat) (c:Nat) (r:List Nat) (w:Bool) (y:Str),vs=[.ref d,.str z,.int pre.length,.bl w]/\H d=some (.dK (kvOf g))/\z.length<=1000/\z.cps.toList=pre++c::r/\partF w g (c::r)=some y/\Q (.str y) H
noncomputable def sQ (K:PySem.W.Frag):Sp:=fun vs H Q _=>∃ (a:Addr) (z:Str) (ks:List Str) (w:Bool),vs=[.ref a,.str z,.bl w]/\D9 K H a (ks.map V.str)/\ks.length<=1000/\z.length<=1000/\c9 w ks z/\
 ∀ l H',H l=none->Same H H'->H' l=some (.lst ((cutF w ks z.cps.toList).2.map V.str))->Q (.ref l) H'
noncomputable abbrev E1:=Int×Int×List Int×Int
noncomputable def addM (U:List E1) (p:Int):List E1:=match U.getLast? with
 | none=>[(0,0,[p],0)]
 | some u=>U.dropLast++[(u.1,u.2.1,u.2.2.1++[p],u.2.2.2)]
noncomputable def addS (U:List E1) (s:Tr):List E1:=if s.1=0 then addM U s.2.1 else U++[(s.1,s.2.1,[],s.2.2)]
noncomputable def UnAt (H:Hp) (e:Addr×Addr) (u:E1):Prop:=H e.1=some (.tup [.int u.1,.int u.2.1,.ref e.2,.int u.2.2.2])/\H e.2=some (.lst (u.2.2.1.map V.int))
structure UnI(H0 H:Hp)(l:Addr)(es:List (Addr×Addr))(U:List E1):Prop where
 top:H l=some (.lst (es.map fun e=>V.ref e.1))
 row:Paired (UnAt H) es U
 nd:(l::es.map (·.2)).Nodup
 new:∀ a∈l::es.map (·.2),H0 a=none
 same:Same H0 H
theorem UnI.more{l:Addr}{es:List (Addr×Addr)}{U:List E1}(h:UnI H0 H l es U)(S:Same H H'):UnI H0 H' l es U:=⟨S _ _ h.top,L0 h.row fun _ _ e=>⟨S _ _ e.1,S _ _ e.2⟩,h.nd,h.new,h.same.trans S⟩
theorem UnI.live{l:Addr}{es:List (Addr×Addr)}{U:List E1}(h:UnI H0 H l es U)(ha:a∈es.map (·.2)):∃ xs,H a=some (.lst xs):=by
 obtain ⟨e,he,rfl⟩:=E2.mp ha;obtain ⟨i,hi,q⟩:=Z3.mp he;obtain ⟨u,_,hu⟩:=Paired.at h.row (i:=i) (a:=e) (by rw [G5 hi,q]);exact ⟨_,hu.2⟩
theorem UnI.push{l m t:Addr}{es:List (Addr×Addr)}{U:List E1}(h:UnI H0 H l es U)(nm:H m=none){k w c:Int}(nt:A0 H m (.lst []) t=none) :
  UnI H0 (A0 (A0 (A0 H m (.lst [])) t (.tup [.int k,.int w,.ref m,.int c])) l (.lst ((es.map fun e=>V.ref e.1)++[V.ref t]))) l (es++[(t,m)]) (U++[(k,w,[],c)]):=by
 have nlm:l≠m:=fun e=>by have:=h.top;rw [e,nm] at this;cases this
 have nmt:m≠t:=fun e=>by rw [<- e,A5] at nt;cases nt
 have S:Same H (A0 (A0 H m (.lst [])) t (.tup [.int k,.int w,.ref m,.int c])):=(Same.new nm).trans (Same.new nt);have hl:=S _ _ h.top;have nlt:l≠t:=fun e=>by rw [<- e,(Same.new nm) _ _ h.top] at nt;cases nt
 have uR:=V8.mp h.nd;refine ⟨by rw [A5,D8];rfl,Paired.snoc (kI h.row fun e he u hu=>⟨?_,?_⟩) ⟨?_,?_⟩,?_,fun a ha=>?_,(h.same.trans S).put (h.new l O0)⟩
 .rw [A9 (fun q=>by have:=S _ _ hu.1;rw [q,hl] at this;cases this)];exact S _ _ hu.1
 .rw [A9 (fun q=>uR.1 (by rw [<- q];exact E2.mpr ⟨e,he,rfl⟩))];exact S _ _ hu.2
 .rw [A9 nlt.symm,A5]
 .rw [A9 nlm.symm,A9 nmt,A5];rfl
 .rw [D8];exact rQ h.nd fun q=>by
   rcases F6.mp q with q | q
   .exact nlm q.symm
   .obtain ⟨xs,hx⟩:=h.live q;rw [nm] at hx;cases hx
 .rw [D8] at ha
  rcases F6.mp ha with q | q
  .rw [q];exact h.new l O0
  .rcases E4.mp q with q | q
   .exact h.new a (M6 _ q)
   .rw [G2.mp q];exact h.same.free nm
theorem UnI.mark{l:Addr}{es:List (Addr×Addr)}{e:Addr×Addr}{U:List E1}{u:E1}(h:UnI H0 H l (es++[e]) (U++[u]))(p:Int) :
  UnI H0 (A0 H e.2 (.lst (u.2.2.1.map V.int++[V.int p]))) l (es++[e]) (U++[(u.1,u.2.1,u.2.2.1++[p],u.2.2.2)]):=by
 obtain ⟨hr,he⟩:=wU h.row;have uR:=h.nd;have nl:l≠e.2:=fun q=>(V8.mp uR).1 (by rw [q];simp)
 have nn:∀ x∈es,x.2≠e.2:=fun x hx q=>by
  have:=(V8.mp uR).2
  rw [D8,bS] at this;exact this.2.2 x.2 (E2.mpr ⟨x,hx,rfl⟩) e.2 (by simp) q
 have nt:∀ {x:Addr×Addr} {v:E1},UnAt H x v->x.1≠e.2:=fun {x v} hx q=>by
  have:=hx.1;rw [q,he.2] at this;cases this
 refine ⟨by rw [A9 nl];exact h.top,Paired.snoc (kI hr fun x hx v hv=>⟨?_,?_⟩) ⟨?_,?_⟩,h.nd,h.new,h.same.put (h.new _ (M6 _ (by simp)))⟩
 .rw [A9 (nt hv)];exact hv.1
 .rw [A9 (nn x hx)];exact hv.2
 .rw [A9 (nt he)];exact he.1
 .rw [A5,D8];rfl
noncomputable def IsUn (H:Hp) (l:Addr) (U:List E1):Prop:=∃ es:List (Addr×Addr),H l=some (.lst (es.map fun e=>V.ref e.1))/\Paired (fun e (u:E1)=>H e.1=some (.tup [.int u.1,.int u.2.1,.ref e.2,.int u.2.2.2])/\H e.2=some (.tup (u.2.2.1.map V.int))) es U
noncomputable def D7 (R:List Rl):List Str:=keysP (C7 R)++U6 R
noncomputable def P5 (S:Str->List Tr) (ps:List Str):List E1:=(ps.flatMap S).foldl addS []
noncomputable def yL (C:Addr):Sp:=fun vs H Q _=>∃ (x j ll ml md:Addr) (g:Str->Str) (R:List Rl) (L M:List Str),vs=[.ref x]/\IsOrd C H x j ll ml md g R L M/\∀ l,H l=none->Q (.ref l) (A0 H l (.lst ((D7 R).map V.str)))
noncomputable def sR (C:Addr):Sp:=fun vs H Q _=>∃ (x j ll ml md:Addr) (p:Str) (g:Str->Str) (R:List Rl) (L M:List Str),vs=[.ref x,.str p]/\IsOrd C H x j ll ml md g R L M/\∀ r H',Same H H'->StepAt H' r (stepF R L M p)->Q (.ref r) H'
noncomputable def sS (C:Addr):Sp:=fun vs H Q _=>∃ (x j ll ml md:Addr) (z:Str) (g:Str->Str) (R:List Rl) (L M:List Str),vs=[.ref x,.str z]/\IsOrd C H x j ll ml md g R L M/\(D7 R).length<=1000/\z.length<=1000/\c9 (hasW R "figures") (D7 R) z/\
 ∀ l H',H l=none->Same H H'->H' l=some (.lst ((cutF (hasW R "figures") (D7 R) z.cps.toList).2.map V.str))->Q (.ref l) H'
theorem yM{R:List Rl}(h:p∉allKs R L M):stepF R L M p=[]:=by
 unfold stepF
 have:(putsL R L M).lookup p=none:=by
  rw [List.lookup_eq_none_iff];intro e he
  have:e.1∈allKs R L M:=by rw [<- agU];exact E2.mpr ⟨e,he,rfl⟩
  have ne:p≠e.1:=fun q=>h (by rw [q];exact this)
  simpa using ne
 rw [this];rfl
noncomputable def stepY (R:List Rl) (L M:List Str) (y:Str):List Tr:=if (hasW R "figures" && figO (y.cps.toList.headD 0))=true then [(1,((mW y.cps.toList:Nat):Int),0)] else stepF R L M y
theorem amS{R:List Rl}(h:hasW R "figures"=false)(L M:List Str):stepY R L M=stepF R L M:=by
 funext y
 unfold stepY;rw [h,jP,if_neg N6]
noncomputable def FigR (y:Str):Prop:=figO (y.cps.toList.headD 0)=true->PySem.NumText.AllDigits y.cps.toList
noncomputable def agY (C:Addr):Sp:=fun vs H Q _=>∃ (x j ll ml md:Addr) (c:Nat) (r:List Nat) (y:Str) (g:Str->Str) (R:List Rl) (L M:List Str),vs=[.ref x,.str y]/\y.cps.toList=c::r/\y.length<=640/\IsOrd C H x j ll ml md g R L M/\(hasW R "figures"=true->FigR y)/\∀ r H',Same H H'->StepAt H' r (stepY R L M y)->Q (.ref r) H'
noncomputable def agZ (K:PySem.W.Frag):Sp:=fun vs H Q _=>∃ (l:Addr) (p:Int) (H0:Hp) (es:List (Addr×Addr)) (U:List E1),vs=[.ref l,.int p]/\UnI H0 H l es U/\U.length<=10000/\(∀ u∈U,u.2.2.1.length<=10000)/\∀ es' H',UnI H0 H' l es' (addM U p)->Q .non H'
noncomputable def yN (C:Addr):Sp:=fun vs H Q _=>∃ (x l j ll ml md:Addr) (c:Nat) (r:List Nat) (y:Str) (g:Str->Str) (R:List Rl) (L M:List Str) (H0:Hp) (es:List (Addr×Addr)) (U:List E1),vs=[.ref x,.ref l,.str y]/\y.cps.toList=c::r/\y.length<=640/\IsOrd C H0 x j ll ml md g R L M/\(hasW R "figures"=true->FigR y)/\UnI H0 H l es U/\(stepY R L M y).length<=1000/\U.length<=9000/\(∀ u∈U,u.2.2.1.length<=9000)/\
 ∀ es' H',UnI H0 H' l es' ((stepY R L M y).foldl addS U)->Q .non H'
theorem amT{U:List E1}{p:Int} : (addM U p).length<=U.length+1:=by
 unfold addM;cases e:U.getLast? with
 | none=>simp
 | some u=>simp only [C1,List.length_dropLast,O4];lia
theorem ajC{U:List E1}{p:Int}(h:∀ u∈U,u.2.2.1.length<=n):∀ u∈addM U p,u.2.2.1.length<=n+1:=by
 unfold addM;cases e:U.getLast? with
 | none=>intro u hu;rw [G2.mp hu];simp
 | some v=>
  intro u hu
  rcases E4.mp hu with q | q
  .have:=h u ((List.dropLast_sublist U).subset q);lia
  .rw [G2.mp q]
   have:=h v (List.mem_of_getLast? e)
   simp only [C1,O4];lia
theorem amU{U:List E1}{s:Tr} : (addS U s).length<=U.length+1:=by
 unfold addS
 split
 .exact amT
 .simp
theorem ajD{U:List E1}{s:Tr}(h:∀ u∈U,u.2.2.1.length<=n):∀ u∈addS U s,u.2.2.1.length<=n+1:=by
 unfold addS
 split
 .exact ajC h
 .intro u hu
  rcases E4.mp hu with q | q
  .have:=h u q;lia
  .rw [G2.mp q];exact F9 _
theorem yO:∀ (ss:List Tr) (U:List E1),(ss.foldl addS U).length<=U.length+ss.length
 | [],U=>B3 _
 | s::ss,U=>by
  rw [List.foldl_cons,L1];have h1:=yO ss (addS U s);have h2:=amU (U:=U) (s:=s);lia
theorem yP:∀ (ss:List Tr) (U:List E1) (n:Nat),(∀ u∈U,u.2.2.1.length<=n)->∀ u∈ss.foldl addS U,u.2.2.1.length<=n+ss.length
 | [],U,n,h=>h
 | s::ss,U,n,h=>by
  intro u hu
  have:=yP ss (addS U s) (n+1) (ajD h) u hu
  rw [L1];lia
theorem ale(f b:Bool)(j ll ml md:Addr):(ordF f b j ll ml md).lookup ("made" : Str)=some (V.ref md):=by
 unfold ordF;rw [N1,if_pos rfl]
noncomputable def cutH (H:Hp) (as:List Addr):Hp:=fun a=>if a∈as then none else H a
theorem sT(H:Hp)(as:List Addr):Same (cutH H as) H:=fun a o h=>by
 unfold cutH at h
 by_cases q:a∈as
 .rw [if_pos q] at h;cases h
 .rw [if_neg q] at h;exact h
theorem UnI.base{l:Addr}{es:List (Addr×Addr)}{U:List E1}(S:Same H0 H1)(h:UnI H1 H l es U):UnI H0 H l es U:=⟨h.top,h.row,h.nd,fun a ha=>S.free (h.new a ha),S.trans h.same⟩
theorem UnI.cut{l:Addr}{es:List (Addr×Addr)}{U:List E1}(h:UnI H0 H l es U):∃ H1,Same H0 H1/\UnI H1 H l es U/\∀ a xs,H a=some (.tup xs)->H1 a=some (.tup xs):=by
 refine ⟨cutH H (l::es.map (fun e=>e.2)),fun a o ha=>?_,⟨h.top,h.row,h.nd,fun a ha=>by unfold cutH;exact if_pos ha,sT _ _⟩,fun a xs ha=>?_⟩
 .unfold cutH;rw [if_neg (fun q=>by rw [h.new a q] at ha;cases ha)];exact h.same _ _ ha
 .unfold cutH;rw [if_neg fun q=>?_]
  .exact ha
  .rcases F6.mp q with q | q
   .rw [q,h.top] at ha;cases ha
   .obtain ⟨ys,hy⟩:=h.live q;rw [hy] at ha;cases ha
theorem ajE{α β:Type}{F:α->β->Prop}{m:List β}(h:Paired F [] m):m=[]:=by cases h;rfl
theorem yQ{α:Type}{l:List α}(h:l≠[]):∃ l' x,l=l'++[x]:=⟨l.dropLast,l.getLast h,(List.dropLast_concat_getLast h).symm⟩
noncomputable def yR (C:Addr):Sp:=fun vs H Q _=>∃ (x j ll ml md:Addr) (z:Str) (g:Str->Str) (R:List Rl) (L M:List Str),vs=[.ref x,.str z]/\IsOrd C H x j ll ml md g R L M/\(D7 R).length<=1000/\z.length<=500/\c9 (hasW R "figures") (D7 R) z/\(∀ y,(stepY R L M y).length<=15)/\
 ∀ l H',H l=none->Same H H'->IsUn H' l (P5 (stepY R L M) (cutF (hasW R "figures") (D7 R) z.cps.toList).2)->Q (.ref l) H'
noncomputable def yS (n:Nat) (fr:St) (Pv:Nat->List V->Hp->Prop) (i:Nat) (ys:List V) (σ2:St) (H2:Hp):Prop:=i<=n/\ys.length<=i/\(∃ v0 v1 v2 v3,σ2=v0::v1::v2::v3::fr)/\Pv i ys H2
theorem arQ(fr:St)(X6:compStart 4 ixs Y=none::none::none::none::fr)(Pv:Addr->Nat->List V->Hp->Prop)(h0:∀ D,H1 D=none->Pv D 0 [] (A0 H1 D (.lst [])))(hl:∀ D i ys H,H1 D=none->i<=xs.length->Pv D i ys H->D9 K H a xs)(hs:∀ D i x ys H,H1 D=none->i<xs.length->xs[i]?=some x->Pv D i ys H->H D=some (.lst ys)->ys.length<=i->∃ t v0 v1 v2 v3,x=.ref t/\C6 K H t [v0,v1,v2,v3]/\c (some v0::some v1::some v2::some v3::fr) H fun b H4=>
   if b=true then te (some v0::some v1::some v2::some v3::fr) H4 fun y H5=>H5 D=some (.lst ys)/\ys.length<sizeLine/\yS xs.length fr (Pv D) (i+1) (ys++[y]) (some v0::some v1::some v2::some v3::fr) (A0 H5 D (.lst (ys++[y])))
   else H4 D=some (.lst ys)/\yS xs.length fr (Pv D) (i+1) ys (some v0::some v1::some v2::some v3::fr) H4)(hd:∀ D ys H,H1 D=none->Pv D xs.length ys H->H D=some (.lst ys)->ys.length<=xs.length->Q (.ref D) H):cH (aL K a) 4 ixs (gTup K 4 (gCons (gName 0) (gCons (gName 1) (gCons (gName 2) (gCons (gName 3) gNil))))) c te Y Q H1:=by
 intro D hD;refine ⟨xs.length,yS xs.length fr (Pv D),⟨F9 _,F9 _,⟨none,none,none,none,X6⟩,h0 D hD⟩,?_⟩;rintro i ys σ2 H2 ⟨hi,hy,⟨w0,w1,w2,w3,rfl⟩,p⟩ hDy;have q:=hl D i ys H2 hD hi p
 by_cases C9:i<xs.length
 .refine .inr ⟨C9,⟨xs,xs[i],q,by simp [C9]⟩,fun x H' y=>?_⟩;obtain ⟨e,y⟩:=y;subst e;obtain ⟨t,v0,v1,v2,v3,rfl,ht,z⟩:=hs D i x ys _ hD C9 (y xs q) p hDy hy;exact ⟨t,_,rfl,ht,rfl,_,_,rfl,_,_,rfl,_,_,rfl,_,_,rfl,rfl,z⟩
 .have e:i=xs.length:=by lia
  subst e;exact .inl ⟨⟨xs,q,B3 _⟩,hd D ys H2 hD p hDy hy⟩
theorem nS{w:Bool} : ∀ (n:Nat) (l:List Nat),l.length<=n->∀ y∈(cutF w g l).2,1<=y.length
 | 0,l,h,y,hy=>by
  have:l=[]:=q9.mp 'a'
  subst this;rw [nR] at hy;cases hy
 | n+1,l,h,y,hy=>by
  cases e:partF w g l with
  | none=>rw [aV e] at hy;cases hy
  | some x=>
   obtain ⟨rest,e1,e2,e3⟩:=v7 e;rw [e2] at hy
   rcases F6.mp hy with q | q
   .rw [q];exact e3
   .refine nS n rest ?_ y q
    have:=congrArg Z8 e1
    rw [C1,lenL] at this;lia
theorem ahS{S:Str->List Tr}(h:ps[i]?=some y):P5 S (ps.take (i+1))=(S y).foldl addS (P5 S (ps.take i)):=by
 unfold P5;rw [K7 h,Z4,aF,r8,mR,G7]
theorem sU{S:Str->List Tr}(hs:∀ y,(S y).length<=15):∀ (ps:List Str),(P5 S ps).length<=15*ps.length/\∀ u∈P5 S ps,u.2.2.1.length<=15*ps.length:=fun ps=>by
 have h0:(ps.flatMap S).length<=15*ps.length:=by
  induction ps with
  | nil=>exact B3 _
  | cons p ps ih=>
   rw [r8,C1,L1]
   have:=hs p
   lia
 have h1:=yO (ps.flatMap S) [];have h2:=yP (ps.flatMap S) [] 0 (by simp);unfold P5;rw [Z5] at h1;exact ⟨by lia,fun u hu=>by have:=h2 u hu;lia⟩
theorem sV{w:Bool} : ∀ (n:Nat) (l:List Nat),l.length<=n->∀ y∈(cutF w g l).2,y.length<=l.length
 | 0,l,h,y,hy=>by
  have:l=[]:=q9.mp 'a'
  subst this;rw [nR] at hy;cases hy
 | n+1,l,h,y,hy=>by
  cases e:partF w g l with
  | none=>rw [aV e] at hy;cases hy
  | some x=>
   obtain ⟨rest,e1,e2,e3⟩:=v7 e;rw [e2] at hy;have hl:=congrArg Z8 e1;rw [C1,lenL] at hl
   rcases F6.mp hy with q | q
   .rw [q];lia
   .have:=sV n rest 'a' y q
    lia
theorem ag0:∀ zs:List Str,(Str.join ⟨#[]⟩ zs).cps.toList=zs.flatMap fun p=>p.cps.toList
 | []=>by simp [Str.join,Str.empty]
 | [z]=>by simp [Str.join]
 | z::y::r=>by
  have e:(Str.join ⟨#[]⟩ (z::y::r)).cps.toList=z.cps.toList++(Str.join ⟨#[]⟩ (y::r)).cps.toList:=by
   show (z++⟨#[]⟩++Str.join ⟨#[]⟩ (y::r)).cps.toList=_;simp only [Str.cps_append,Array.toList_append]
   simp
  rw [e,ag0 (y::r)];rfl
theorem ajF{k:Int}(h:Q6 ns k p):(∃ c,p=one c)\/∃ c d,p=L8 c d:=by
 obtain ⟨r,e,hl,_⟩:=h;have ext:∀ q:Str,p.cps.toList=q.cps.toList->p=q:=fun q h=>Str.ext' (Array.toList_inj.mp h)
 match r,hl with
 | [],_=>exact .inl ⟨_,ext (one _) e⟩
 | [d],_=>exact .inr ⟨_,d,ext (L8 _ d) e⟩
theorem ag1{R:List Rl}(h:RulG ns ls ms R)(L M:List Str)(y:Str):(stepF R L M y).length<=15:=by
 unfold stepF;cases e:(putsL R L M).lookup y with
 | none=>exact F9 _
 | some s=>
  obtain ⟨l1,l2,el,_⟩:=List.lookup_eq_some_iff.mp e;have hm:(y,s)∈putsL R L M:=by rw [el];simp
  show s.length<=15;unfold putsL at hm
  rcases E4.mp hm with hm | hm
  .rcases E4.mp hm with hm | hm
   .rcases E4.mp hm with hm | hm
    .obtain ⟨a,_,q⟩:=E2.mp hm;rw [<- (Prod.mk.inj q).2];simp
    .obtain ⟨a,_,q⟩:=E2.mp hm;rw [<- (Prod.mk.inj q).2];simp
   .obtain ⟨_,_,hm⟩:=j9.mp hm;obtain ⟨a,_,q⟩:=E2.mp hm;rw [<- (Prod.mk.inj q).2];simp
  .unfold sM at hm;obtain ⟨z,hz,q⟩:=jM.mp hm
   by_cases hw:z.1=("as" : Str)
   .rw [if_pos hw] at q
    rcases h.each hz with rfl | rfl | o | o
    .exact absurd (show Str.ofString "row"=_ from hw) 'c'
    .exact absurd (show Str.ofString "marks"=_ from hw) 'c'
    .rcases o with ⟨e2,_⟩ | ⟨_,p,q1,qs,e2,_,_,hl⟩ | ⟨e2,_⟩
     .rw [e2] at hw;exact absurd hw 'c'
     .rw [e2] at q;have q:=Option.some.inj q;rw [<- (Prod.mk.inj q).2]
      simp;lia
     .rw [e2] at hw;exact absurd hw 'c'
    .exact absurd hw o.2.no.2.2.2.1
   .rw [if_neg hw] at q;cases q
theorem ag2{R:List Rl}(h:RulG ns ls ms R)(L M:List Str)(y:Str):(stepY R L M y).length<=15:=by
 unfold stepY
 split
 .simp
 .exact ag1 h L M y
theorem anw{p:Nat->Bool}{d:Nat} : ∀ {l:List Nat},d∈l.takeWhile p->p d=true
 | [],h=>by cases h
 | c::r,h=>by
  rw [List.takeWhile_cons] at h
  by_cases hc:p c=true
  .rw [if_pos hc] at h
   rcases F6.mp h with q | q
   .rw [q];exact hc
   .exact anw q
  .rw [if_neg hc] at h;cases h
theorem alf{w:Bool}{l:List Nat}(h:partF w g l=some y):w=true->FigR y:=by
 intro hw hf
 cases l with
 | nil=>cases h
 | cons c r=>
  rw [eK,hw,Bool.true_and] at h
  by_cases hc:figO c=true
  .rw [if_pos hc] at h;obtain rfl:=Option.some.inj h;intro d hd;have hd:d∈(c::r).takeWhile figO:=by simpa using hd
   have:=anw hd
   unfold figO at this;rw [U4,decide_eq_true_eq,decide_eq_true_eq] at this;exact this
  .exfalso
   rw [if_neg hc] at h;obtain ⟨rest,e,hl⟩:=afC h
   have:y.cps.toList.headD 0=c:=by
    cases hy:y.cps.toList with
    | nil=>rw [<- lenL,hy] at hl;simp at hl
    | cons d t=>rw [hy] at e;exact (k4.inj e).1.symm
   rw [this] at hf;exact hc hf
theorem yT{w:Bool} : ∀ (n:Nat) (l:List Nat),l.length<=n->∀ y∈(cutF w g l).2,w=true->FigR y
 | 0,l,h,y,hy=>by
  have:l=[]:=q9.mp 'a'
  subst this;rw [nR] at hy;cases hy
 | n+1,l,h,y,hy=>by
  cases e:partF w g l with
  | none=>rw [aV e] at hy;cases hy
  | some x=>
   obtain ⟨rest,e1,e2,e3⟩:=v7 e;rw [e2] at hy;have hl:=congrArg Z8 e1;rw [C1,lenL] at hl
   rcases F6.mp hy with q | q
   .rw [q];exact alf e
   .exact yT n rest 'a' y q
end L2
variable {F S:PySem.Str->List L2.Tr}{R:List L2.Rl}{U W:List L2.E1}
namespace L2
open PySem PySem.Spec PyProof.Rows
structure StepL(H:Hp)(r:Addr)(ss:List Tr):Prop where
 ex:∃ ts:List Addr,H r=some (.lst (ts.map V.ref))/\Paired (fun t s=>H t=some (tupT s)) ts ss
theorem StepL.same{ss:List Tr}(h:StepL H r ss)(S:Same H H'):StepL H' r ss:=
 let ⟨ts,h1,h2⟩:=h.ex
 ⟨ts,S _ _ h1,L0 h2 fun _ _ e=>S _ _ e⟩
theorem StepL.dput{d:Addr}{ss:List Tr}{o:HO}(h:StepL H r ss)(hd:H d=some (.dK kvs)):StepL (A0 H d o) r ss:=by
 obtain ⟨ts,h1,h2⟩:=h.ex;refine ⟨ts,?_,L0 h2 fun t s e=>?_⟩
 .rw [A9 (fun e=>by rw [e,hd] at h1;cases h1)];exact h1
 .rw [A9 (fun q=>by rw [q,hd] at e;cases e)];exact e
theorem StepL.one{t:Addr}{s:Tr}(h1:H r=some (.lst [.ref t]))(h2:H t=some (tupT s)):StepL H r [s]:=⟨[t],h1,.cons h2 .nil⟩
noncomputable def IsMk (H:Hp) (d:Addr) (ks:List Str) (F:Str->List Tr):Prop:=∃ ad:Str->Addr,H d=some (.dK (B5 ks fun y=>.ref (ad y)))/\∀ y∈ks,StepL H (ad y) (F y)
theorem IsMk.same{d:Addr}(h:IsMk H d ks F)(S:Same H H'):IsMk H' d ks F:=
 let ⟨ad,h1,h2⟩:=h
 ⟨ad,S _ _ h1,fun y hy=>(h2 y hy).same S⟩
structure MkI(H H2:Hp)(d:Addr)(P:List Str)(F:Str->List Tr):Prop where
 same:Same H H2
 made:IsMk H2 d (G6 [] P) F
theorem MkI.more{d:Addr}{P:List Str}(h:MkI H H2 d P F)(S:Same H2 H3):MkI H H3 d P F:=⟨h.same.trans S,h.made.same S⟩
theorem MkI.put{d:Addr}{P:List Str}(nd:H d=none)(h:MkI H H2 d P F)(hP:P.length<100000){l:Str}{p:Addr}(hp:StepL H2 p (F l)) :
  ∃ x,DPut H2 d (V.str l) (V.ref p) x/\MkI H x d (P++[l]) F:=by
 obtain ⟨ad,h1,h2⟩:=h.made;have hl:=eC P [];rw [Z5,Nat.zero_add] at hl;refine ⟨_,cG (k:=Sum.inr l) h1 (by rw [k9];exact K1 'a'),h.same.put nd,?_⟩;rw [xV];refine ⟨fun y=>if y=l then p else ad y,?_,fun y hy=>?_⟩
 .rw [A5];have e:∀ t,(if t=l then V.ref p else V.ref (ad t))=V.ref (if t=l then p else ad t):=fun t=>by
   by_cases h:t=l
   .rw [if_pos h,if_pos h]
   .rw [if_neg h,if_neg h]
  unfold dd
  by_cases hl:l∈G6 [] P
  .rw [if_pos hl,nJ _ hl];exact congrArg (fun x=>some (HO.dK x)) (W1 fun t _=>e t)
  .rw [if_neg hl,eF _ hl];exact congrArg (fun x=>some (HO.dK x)) (W1 fun t _=>e t)
 .by_cases h:y=l
  .subst h;show StepL _ (if y=y then p else ad y) _;rw [if_pos rfl];exact hp.dput h1
  .show StepL _ (if y=l then p else ad y) _;rw [if_neg h];refine (h2 y ?_).dput h1;unfold dd at hy
   by_cases hl:l∈G6 [] P
   .rw [if_pos hl] at hy;exact hy
   .rw [if_neg hl] at hy
    rcases E4.mp hy with q | q
    .exact q
    .exact absurd (G2.mp q) h
noncomputable def alg (K:PySem.W.Frag):Sp:=fun vs H Q _=>∃ (a:Addr) (ts:List Addr) (R:List Rl) (w:Str),vs=[.ref a,.str w]/\IsRules H a ts R/\R.length<=100/\(∀ z∈R,z.2.length<=100)/\∀ l H',H l=none->Same H H'->H' l=some (.lst ((rowsW R w).flatten.map V.str))->Q (.ref l) H'
theorem sW{w:Str}{z:Rl}(h:R[i]?=some z):(rowsW (R.take (i+1)) w).flatten=if z.1=w then (rowsW (R.take i) w).flatten++z.2 else (rowsW (R.take i) w).flatten:=by
 rw [xO h]
 by_cases e:z.1=w
 .rw [if_pos e,if_pos e,mL];simp
 .rw [if_neg e,if_neg e]
noncomputable def Q0 (R:List Rl):List Str:=(M3 R).flatMap (·.2)
theorem aeZ{z:Rl}(h:R[i]?=some z):Q0 (R.take (i+1))=Q0 (R.take i)++Q0 [z]:=by
 unfold Q0;rw [sH h,Z4]
theorem Y4{t:Addr}(hT:C6 K H t xs)(q:∀ p H',Same H H'->C6 K H' p (xs.take 2)->Q (.ref p) H'):rSlR K t none (some 2) H Q:=by
 by_cases h:xs.length<=2
 .refine rSlR.w hT ⟨rfl,?_⟩ (q t H (aN H) (by rw [Z2 h];exact hT));rw [show ((2:Int))=((2:Nat):Int) from rfl,HT.sIx_nat];lia
 .refine rSlR.t hT (fun e=>?_) fun p np=>q p _ (Same.new np) (.of ?_)
  .have:=e.2
   rw [show ((2:Int))=((2:Nat):Int) from rfl,HT.sIx_nat] at this;lia
  .rw [A5,show cutV xs none (some 2)=_ from eE xs 2]
theorem aiT(xs ys:List Str):O9 (.tuple (xs.map .str)) (.tuple (ys.map .str))=decide (xs=ys):=by rw [O9,wP]
theorem ajG{l:Str}{fs:List Str} : Q0 [(("great" : Str),l::fs)]=fs:=by
 unfold Q0;rw [sI]
 simp
theorem alh{z:Rl}(h:z.1≠("great" : Str)):Q0 [z]=[]:=by
 unfold Q0;rw [kS h];rfl
theorem ahT{z:Rl}{l:Str}(h:(z.1::z.2).take 2=[("great" : Str),l]):∃ fs,z=(("great" : Str),l::fs):=by
 obtain ⟨w,ps⟩:=z
 cases ps with
 | nil=>simp at h
 | cons y fs=>
  simp at h;obtain ⟨rfl,rfl⟩:=h;exact ⟨fs,rfl⟩
theorem af8{A:List Rl}{z:Rl}{l:Str}(h:(z.1::z.2).take 2≠[("great" : Str),l]):E3 (A++[z]) l=E3 A l:=by
 by_cases hg:z.1=("great" : Str)
 .obtain ⟨w,ps⟩:=z;obtain rfl:w=("great" : Str):=hg
  cases ps with
  | nil=>
   unfold E3;rw [gU,show M3 [(("great" : Str),[])]=[] by simp [M3],G7]
  | cons y fs=>
   rw [kT,if_neg (fun e=>h (by rw [e];rfl))]
 .unfold E3;rw [gU,kS hg,G7]
theorem MkI.base{d:Addr}{P:List Str}(S:Same H H1)(h:MkI H1 H2 d P F):MkI H H2 d P F:=⟨S.trans h.same,h.made⟩
theorem MkI.cut{d:Addr}{P:List Str}(nd:H d=none)(h:MkI H H2 d P F):∃ B,Same H B/\B d=none/\MkI B H2 d P F/\∀ a o,a≠d->H2 a=some o->B a=some o:=by
 refine ⟨cutH H2 [d],fun a o ha=>?_,by unfold cutH;exact if_pos (by simp),⟨sT _ _,h.made⟩,fun a o ne ha=>?_⟩
 .unfold cutH;rw [if_neg (fun e=>by rw [G2.mp e,nd] at ha;cases ha)];exact h.same _ _ ha
 .unfold cutH;rw [if_neg (fun e=>ne (G2.mp e))];exact ha
theorem RulG.over(G:RulG ns ls ms R)(hL:T0 R "row" ls)(hM:T0 R "marks" ms)(hp:p∈(rowsW R "over").flatten):stepF R ls ms p=[]:=by
 refine yM fun h=>?_
 obtain ⟨z,hz,e,hpz⟩:=mem_rowsW.mp hp;have ho:(p,("over" : Str))∈C7 R:=mem_pairs.mpr ⟨z,hz,by rw [W2.2.2 (.inr (.inr e))];exact hpz,by rw [e];decide +kernel⟩;have jo:=gW G.good.nc ho;have n1:("letter" : Str)≠"over"/\("mark" : Str)≠"over"/\("great" : Str)≠"over"/\("as" : Str)≠"over":=by decide +kernel
 have fin:∀ {j:Str},(p,j)∈C7 R->j≠"over"->False:=fun {j} hj hn=>hn ((gW G.good.nc hj).symm.trans jo)
 unfold allKs at h
 rcases E4.mp h with h | h
 .rcases E4.mp h with h | h
  .rcases E4.mp h with h | h
   .exact fin (mem_letter.mpr ((p0 hL).mp h)) n1.1
   .exact fin (mem_mark.mpr ((p0 hM).mp h)) n1.2.1
  .obtain ⟨y,_,hq⟩:=j9.mp h;obtain ⟨e2,he,_,hf⟩:=forms_mem.mp hq
   have:p∈(M3 R).flatMap (·.2):=j9.mpr ⟨e2,he,hf⟩
   rw [<- aU] at this;obtain ⟨⟨q,j⟩,hq2,rfl⟩:=E2.mp this;obtain ⟨h1,h2⟩:=Q2.mp hq2;exact fin h1 (by rw [show j=("great" : Str) by simpa using h2];exact n1.2.2.1)
 .rw [<- gX] at h;obtain ⟨⟨q,j⟩,hq,rfl⟩:=E2.mp h;obtain ⟨h1,h2⟩:=Q2.mp hq;exact fin h1 (by rw [show j=("as" : Str) by simpa using h2];exact n1.2.2.2)
theorem RulG.blank(G:RulG ns ls ms R)(hL:T0 R "row" ls)(hM:T0 R "marks" ms):stepF R ls ms " "=[]:=by
 refine yM fun h=>?_
 have m8:∀ p∈allKs R ls ms,p∈(C7 R).map (·.1):=fun p hp=>by
  unfold allKs at hp
  rcases E4.mp hp with hp | hp
  .rcases E4.mp hp with hp | hp
   .rcases E4.mp hp with hp | hp
    .exact E2.mpr ⟨_,mem_letter.mpr ((p0 hL).mp hp),rfl⟩
    .exact E2.mpr ⟨_,mem_mark.mpr ((p0 hM).mp hp),rfl⟩
   .obtain ⟨y,_,hp⟩:=j9.mp hp;obtain ⟨e,he,_,hf⟩:=forms_mem.mp hp
    have:p∈(M3 R).flatMap (·.2):=j9.mpr ⟨e,he,hf⟩
    rw [<- aU] at this;obtain ⟨q,hq,rfl⟩:=E2.mp this;exact E2.mpr ⟨q,(Q2.mp hq).1,rfl⟩
  .rw [<- gX] at hp;obtain ⟨q,hq,rfl⟩:=E2.mp hp;exact E2.mpr ⟨q,(Q2.mp hq).1,rfl⟩
 exact G.good.nb (m8 _ h)
theorem ali(R:List Rl)(w:Str)(hf:∀ z∈R,z.1=w->z.2=[]):((R.map ruleD).any fun e=>O9 e (ruleD (w,[])))=hasW R w:=by
 unfold hasW;rw [List.any_map,aK,mS,mS];have key:∀ z:Rl,O9 (ruleD z) (ruleD (w,[]))=decide (z.1::z.2=[w]):=fun z=>by
  unfold ruleD;exact aiT _ _
 constructor
 .rintro ⟨z,hz,h⟩;refine ⟨z,hz,?_⟩;have h:O9 (ruleD z) (ruleD (w,[]))=true:=h;rw [key,decide_eq_true_eq] at h;exact decide_eq_true (k4.inj h).1
 .rintro ⟨z,hz,h⟩;have h:z.1=w:=by simpa using h
  refine ⟨z,hz,?_⟩;show O9 (ruleD z) (ruleD (w,[]))=true;rw [key,decide_eq_true_eq,h,hf z hz h]
theorem RulG.flag(G:RulG ns ls ms R){w:Str}(hw:flagW w):∀ z∈R,z.1=w->z.2=[]:=fun z hz e=>by
 have n:=hw.no
 rcases G.each hz with rfl | rfl | o | o
 .exact absurd e.symm n.1
 .exact absurd e.symm n.2.1
 .rcases o with ⟨e2,_⟩ | ⟨e2,_⟩ | ⟨e2,_⟩
  .exact absurd (e.symm.trans e2) n.2.2.1
  .exact absurd (e.symm.trans e2) n.2.2.2.1
  .exact absurd (e.symm.trans e2) n.2.2.2.2
 .exact o.1
theorem RulG.names(G:RulG ns ls ms R)(p:Str):p∈(C7 R).map (·.1)↔p∈ls++ms++asKs R++Q0 R++(rowsW R "over").flatten:=by
 have app:p∈ls++ms++asKs R++Q0 R++(rowsW R "over").flatten↔p∈ls\/p∈ms\/p∈asKs R\/p∈Q0 R\/p∈(rowsW R "over").flatten:=by
  simp only [E4,or_assoc]
 rw [app];have gA:∀ q,q∈Q0 R↔(q,("great" : Str))∈C7 R:=fun q=>by
  unfold Q0;rw [<- aU,E2]
  constructor
  .rintro ⟨⟨x,j⟩,hx,rfl⟩;obtain ⟨h1,h2⟩:=Q2.mp hx;rw [show j=("great" : Str) by simpa using h2] at h1;exact h1
  .exact fun h=>⟨_,Q2.mpr ⟨h,by simp⟩,rfl⟩
 have aA:∀ q,q∈asKs R↔(q,("as" : Str))∈C7 R:=fun q=>by
  rw [<- gX,E2]
  constructor
  .rintro ⟨⟨x,j⟩,hx,rfl⟩;obtain ⟨h1,h2⟩:=Q2.mp hx;rw [show j=("as" : Str) by simpa using h2] at h1;exact h1
  .exact fun h=>⟨_,Q2.mpr ⟨h,by simp⟩,rfl⟩
 constructor
 .intro h;obtain ⟨⟨q,j⟩,hq,rfl⟩:=E2.mp h;obtain ⟨z,hz,ht,rfl⟩:=mem_pairs.mp hq;have jw:=nN (gS ht)
  rcases gS ht with e | e | e | e | e
  .rw [jw.2.2.1.mpr e] at hq;exact .inl (G.letter.mp hq)
  .rw [jw.2.2.2.1.mpr e] at hq;exact .inr (.inl (G.mark.mp hq))
  .rw [jw.1.mpr e] at hq;exact .inr (.inr (.inr (.inl ((gA _).mpr hq))))
  .rw [jw.2.1.mpr e] at hq;exact .inr (.inr (.inl ((aA _).mpr hq)))
  .exact .inr (.inr (.inr (.inr (mem_rowsW.mpr ⟨z,hz,e,by rw [W2.2.2 (.inr (.inr e))] at ht;exact ht⟩))))
 .rintro (h | h | h | h | h)
  .exact E2.mpr ⟨_,G.letter.mpr h,rfl⟩
  .exact E2.mpr ⟨_,G.mark.mpr h,rfl⟩
  .exact E2.mpr ⟨_,(aA p).mp h,rfl⟩
  .exact E2.mpr ⟨_,(gA p).mp h,rfl⟩
  .obtain ⟨z,hz,e,hp⟩:=mem_rowsW.mp h;exact E2.mpr ⟨(p,jobD z.1),mem_pairs.mpr ⟨z,hz,by rw [W2.2.2 (.inr (.inr e))];exact hp,rfl⟩,rfl⟩
theorem amV{w:Str} : (∀ z∈R,z.2.length<=n)->(rowsW R w).flatten.length<=n*R.length:=by
 intro h
 induction R with
 | nil=>exact F9 _
 | cons z R ih=>
  have i1:=ih fun y hy=>h y (M6 _ hy)
  have i2:=h z O0;have e:rowsW (z::R) w=rowsW [z] w++rowsW R w:=v6 [z] R w;rw [e,mL,C1,L1,Nat.mul_add,Nat.mul_one]
  have:(rowsW [z] w).flatten.length<=n:=by
   unfold rowsW
   by_cases hz:z.1=w
   .rw [aE (by simpa using hz)];simpa using i2
   .rw [bR (by simpa using hz)];simp
  lia
noncomputable def UnT (H:Hp) (e:Addr×Addr) (u:E1):Prop:=H e.1=some (.tup [.int u.1,.int u.2.1,.ref e.2,.int u.2.2.2])/\H e.2=some (.tup (u.2.2.1.map V.int))
structure UnJ(H0 H:Hp)(l:Addr)(es:List (Addr×Addr))(U:List E1):Prop where
 same:Same H0 H
 new:H0 l=none
 top:H l=some (.lst (es.map fun e=>V.ref e.1))
 row:Paired (UnT H) es U
noncomputable def alj (K:PySem.W.Frag):Sp:=fun vs H Q _=>∃ (a:Addr) (ts:List Addr) (R:List Rl) (ns:List Int) (ls ms:List Str),vs=[.ref a]/\IsRules H a ts R/\RulG ns ls ms R/\T0 R "row" ls/\T0 R "marks" ms/\
 ∀ d ks H',H d=none->Same H H'->IsMk H' d ks (stepF R ls ms)->(∀ p,p∈ks↔p∈D7 R)->ks.length<=100000->Q (.ref d) H'
noncomputable def ag3 (K:PySem.W.Frag):Sp:=fun vs H Q _=>∃ (a d:Addr) (ts:List Addr) (R:List Rl) (ns:List Int) (ls ms P:List Str) (H0:Hp),vs=[.ref a,.ref d]/\H0 d=none/\IsRules H a ts R/\IsRules H0 a ts R/\RulG ns ls ms R/\T0 R "row" ls/\T0 R "marks" ms/\MkI H0 H d P (stepF R ls ms)/\(∀ p∈ls,p∈P)/\P.length<=10000/\
 ∀ H',MkI H0 H' d (P++Q0 R) (stepF R ls ms)->Q .non H'
noncomputable def RunP (p:Str):Prop:=p.cps.toList≠[]/\∀ c∈p.cps.toList,figO c=true
noncomputable def eL (w:Bool) (ks:List Str) (p:Str):Prop:=p∈ks\/w=true/\RunP p
noncomputable def cM (w:Bool) (ks:List Str) (p:Str):Prop:=p∈ks\/(w=true/\RunP p)/\p.length<=14
noncomputable abbrev flatP (ps:List Str):List Nat:=ps.flatMap fun p=>p.cps.toList
theorem nU(p:Str)(ps:List Str):flatP (p::ps)=p.cps.toList++flatP ps:=rfl
theorem ag4{w:Bool}(fE:w=true->∀ p∈ks,∀ c∈p.cps.toList,figO c=false)(h2:∀ p∈ks,(∃ c,p=one c)\/∃ c d,p=L8 c d)(hw:w=true):∀ ps:List Str,(∀ p∈ps,eL w ks p)->∃ qs:List Str,(∀ p∈qs,eL w ks p)/\(flatP ps).dropWhile figO=flatP qs
 | [],_=>⟨[],by simp,rfl⟩
 | p::ps,h=>by
  rcases h p O0 with hp | ⟨_,hr⟩
  .refine ⟨p::ps,h,?_⟩
   have:=fE hw p hp
   rcases h2 p hp with ⟨c,rfl⟩ | ⟨c,d,rfl⟩
   .show (c::flatP ps).dropWhile figO=_;rw [List.dropWhile_cons_of_neg (by rw [this c (by show c∈[c];simp)];simp)];rfl
   .show (c::d::flatP ps).dropWhile figO=_;rw [List.dropWhile_cons_of_neg (by rw [this c (by rw [p5];simp)];simp)];rfl
  .obtain ⟨qs,h3,h4⟩:=ag4 fE h2 hw ps fun q hq=>h q (M6 _ hq)
   refine ⟨qs,h3,?_⟩;rw [nU,List.dropWhile_append_of_pos hr.2];exact h4
theorem afE{w:Bool}(fE:w=true->∀ p∈ks,∀ c∈p.cps.toList,figO c=false)(P:∀ c d e,one c∈ks->L8 c d∈ks->L8 d e∈ks->one e∈ks)(h2:∀ p∈ks,(∃ c,p=one c)\/∃ c d,p=L8 c d):∀ (n:Nat) (ps:List Str),(∀ p∈ps,eL w ks p)->(flatP ps).length<=n->(cutF w ks (flatP ps)).1=(flatP ps).length
 | n,[],_,_=>by rw [show flatP []=[] from rfl,nR];rfl
 | 0,p::ps,hp,hn=>by
  exfalso
  rw [nU,C1] at hn
  rcases hp p O0 with h | ⟨_,h,_⟩
  .rcases h2 p h with ⟨c,rfl⟩ | ⟨c,d,rfl⟩
   .rw [gZ] at hn;simp at hn
   .rw [p5] at hn;simp at hn
  .have:=List.length_pos_iff.mpr h
   lia
 | n+1,p::ps,hp,hn=>by
  have go:∀ (y:Str) (qs:List Str),(∀ q∈qs,eL w ks q)->1<=y.length->flatP (p::ps)=y.cps.toList++flatP qs->partF w ks (flatP (p::ps))=some y->(cutF w ks (flatP (p::ps))).1=(flatP (p::ps)).length:=fun y qs hq E6 el hpf=>by
   obtain ⟨rest,e1,e2,e3⟩:=v7 hpf;have er:rest=flatP qs:=List.append_cancel_left (e1.symm.trans el);have ln:=congrArg Z8 el;rw [C1,lenL] at ln;have i1:=afE fE P h2 n qs hq 'a';rw [e2,er];show (cutF w ks _).1+y.length=_;rw [i1];lia
  have pF:∀ c l,one c∈ks\/(∃ d,L8 c d∈ks)->partF w ks (c::l)=partG ks (c::l):=fun c l h=>by
   rw [eK,if_neg];intro q;rw [U4] at q
   rcases h with h | ⟨d,h⟩
   .rw [fE q.1 _ h c (by show c∈[c];simp)] at q;exact absurd q.2 (by simp)
   .rw [fE q.1 _ h c (by rw [p5];simp)] at q;exact absurd q.2 (by simp)
  have X7:∀ q∈ps,eL w ks q:=fun q hq=>hp q (M6 _ hq)
  rcases hp p O0 with X8 | ⟨uS,hr⟩
  .rcases h2 p X8 with ⟨c,rfl⟩ | ⟨c,d,rfl⟩
   .have ef:flatP (one c::ps)=c::flatP ps:=rfl
    cases ps with
    | nil=>exact go (one c) [] (by simp) (B3 1) rfl (by rw [ef,show flatP []=[] from rfl,pF c [] (.inl X8),eJ,if_pos X8])
    | cons p2 qs=>
     have bK:∀ q∈qs,eL w ks q:=fun q hq=>X7 q (M6 _ hq)
     rcases X7 p2 O0 with X4 | ⟨uS,hr⟩
     .rcases h2 p2 X4 with ⟨d,rfl⟩ | ⟨d,e,rfl⟩
      .have iT:flatP (one c::one d::qs)=c::d::flatP qs:=rfl
       by_cases U7:L8 c d∈ks
       .exact go (L8 c d) qs bK (by show 1<=2;decide) rfl (by rw [iT,pF _ _ (.inl X8),c0,if_pos U7])
       .exact go (one c) (one d::qs) X7 (B3 1) rfl (by rw [iT,pF _ _ (.inl X8),c0,if_neg U7,if_pos X8])
      .have iT:flatP (one c::L8 d e::qs)=c::d::e::flatP qs:=rfl
       by_cases U7:L8 c d∈ks
       .have he:=P c d e X8 U7 X4;exact go (L8 c d) (one e::qs) (fun q hq=>by rcases F6.mp hq with h | h;rw [h];exact .inl he;exact bK q h) (by show 1<=2;decide) rfl (by rw [iT,pF _ _ (.inl X8),c0,if_pos U7])
       .exact go (one c) (L8 d e::qs) X7 (B3 1) rfl (by rw [iT,pF _ _ (.inl X8),c0,if_neg U7,if_pos X8])
     .obtain ⟨f,rr,hf⟩:∃ f rr,p2.cps.toList=f::rr:=by
       cases e:p2.cps.toList with
       | nil=>exact absurd e hr.1
       | cons f rr=>exact ⟨f,rr,rfl⟩
      have fF:figO f=true:=hr.2 f (by rw [hf];simp);have iT:flatP (one c::p2::qs)=c::f::(rr++flatP qs):=by rw [nU,nU,hf];rfl
      have U7:L8 c f∉ks:=fun h=>by
       have:=fE uS _ h f (by rw [p5];simp)
       rw [fF] at this;cases this
      exact go (one c) (p2::qs) X7 (B3 1) rfl (by rw [iT,pF _ _ (.inl X8),c0,if_neg U7,if_pos X8])
   .have ef:flatP (L8 c d::ps)=c::d::flatP ps:=rfl;exact go (L8 c d) ps X7 (by show 1<=2;decide) rfl (by rw [ef,pF _ _ (.inr ⟨d,X8⟩),c0,if_pos X8])
  .obtain ⟨qs,h3,h4⟩:=ag4 fE h2 uS (p::ps) hp;obtain ⟨f,rr,hf⟩:∃ f rr,p.cps.toList=f::rr:=by
    cases e:p.cps.toList with
    | nil=>exact absurd e hr.1
    | cons f rr=>exact ⟨f,rr,rfl⟩
   have fF:figO f=true:=hr.2 f (by rw [hf];simp);have ef:flatP (p::ps)=f::(rr++flatP ps):=by rw [nU,hf];rfl
   refine go ⟨((flatP (p::ps)).takeWhile figO).toArray⟩ qs h3 ?_ ?_ ?_
   .rw [<- lenL];show 1<=((flatP (p::ps)).takeWhile figO).length;rw [ef,qZ fF]
    simp
   .show flatP (p::ps)=(flatP (p::ps)).takeWhile figO++flatP qs;rw [<- h4,List.takeWhile_append_dropWhile]
   .rw [ef,eK,uS,fF,Bool.and_self,if_pos rfl]
theorem kZ(hp:p∈D7 R):p=" "\/p∈(C7 R).map (·.1):=by
 unfold D7 U6 at hp
 rcases E4.mp hp with h | h
 .exact .inr ((kO _ _).mp h)
 .by_cases hb:hasW R "blanks"=true
  .rw [if_pos hb] at h;exact .inl (G2.mp h)
  .rw [if_neg hb] at h;cases h
theorem yU(hp:p∈(C7 R).map (·.1)):p∈D7 R:=T8 _ ((kO _ _).mpr hp)
theorem sX:(" " : Str)=one 32:=by decide +kernel
theorem ag5(G:RulG ns ls ms R):∀ p∈D7 R,(∃ c,p=one c)\/∃ c d,p=L8 c d:=fun p hp=>by
 rcases kZ hp with rfl | h
 .exact .inl ⟨32,sX⟩
 .obtain ⟨k,hk⟩:=G.pc h;exact ajF hk
theorem aiU{c d:Nat}(h:L8 c d∈D7 R):L8 c d∈(C7 R).map (·.1):=by
 rcases kZ h with e | h
 .rw [sX] at e
  have:=congrArg (fun q:Str=>q.cps.toList.length) e
  simp [p5,gZ] at this
 .exact h
theorem ag6(G:RulG ns ls ms R):∀ c d e,one c∈D7 R->L8 c d∈D7 R->L8 d e∈D7 R->one e∈D7 R:=fun c d e h1 h2 h3=>by
 have h2:=aiU h2;have h3:=aiU h3
 rcases kZ h1 with q | h1
 .exfalso
  rw [sX] at q
  have:c=32:=by
   have:=congrArg (fun q:Str=>q.cps.toList) q
   simpa [gZ] using this
  subst this;obtain ⟨k,hk⟩:=G.pc h2;have ok:=hk.ok.1;unfold nG at ok;rw [U4,List.all_eq_true] at ok
  have:=ok.2 32 (by rw [p5];simp)
  exact absurd this (by decide)
 .exact yU (G.closed h1 h2 h3)
theorem alm(G:RulG ns ls ms R):hasW R "figures"=true->∀ p∈D7 R,∀ c∈p.cps.toList,figO c=false:=fun hw p hp c hc=>by
 rcases kZ hp with rfl | h
 .rw [sX,gZ] at hc;rw [G2.mp hc];decide
 .obtain ⟨⟨q,j⟩,hq,rfl⟩:=E2.mp h;obtain ⟨i,hi,e⟩:=Z3.mp hq;exact (G.good.nc i q j (by rw [G5 hi,e])).2.2.1 hw c hc
theorem ajH(G:RulG ns ls ms R)(hz:z.cps.toList=flatP ps)(hp:∀ p∈ps,eL (hasW R "figures") (D7 R) p):c9 (hasW R "figures") (D7 R) z:=by
 unfold c9;rw [hz,afE (alm G) (ag6 G) (ag5 G) _ ps hp (B3 _),<- hz,lenL]
theorem ao5(h:n<10 ^ 12)(hy:y.length<=2)(hyf:∀ c∈y.cps.toList,figO c=true):RunP (y++Str.ofString (toString (n:Int)))/\(y++Str.ofString (toString (n:Int))).length<=14:=by
 have e:(y++Str.ofString (toString (n:Int))).cps.toList=y.cps.toList++(Nat.toDigits 10 n).map Char.toNat:=by
  have e1:(Str.ofString (toString (n:Int))).cps.toList=(Nat.toDigits 10 n).map Char.toNat:=by
   rw [Str.ofString_eq_toList];show (toString (n:Int)).toList.map Char.toNat=_
   have:toString (n:Int)=Nat.repr n:=rfl
   rw [this];simp [Nat.repr]
  rw [Str.cps_append,Array.toList_append,e1]
 have hl:=aeW 11 (n+1) n [] h;refine ⟨⟨?_,fun c hc=>?_⟩,?_⟩
 .rw [e];intro q
  have:=(List.append_eq_nil_iff.mp q).2
  exact absurd (List.map_eq_nil_iff.mp this) Nat.toDigits_ne_nil
 .rw [e] at hc
  rcases E4.mp hc with hc | hc
  .exact hyf c hc
  .obtain ⟨x,hx,rfl⟩:=E2.mp hc;have hd:=Nat.isDigit_of_mem_toDigits (by decide) (by decide) hx;unfold Char.isDigit at hd;unfold figO;simp only [U4,decide_eq_true_eq,ge_iff_le] at hd ⊢
   exact ⟨hd.1,hd.2⟩
 .rw [<- lenL,e,C1,A6,lenL]
  have:(Nat.toDigits 10 n).length<=12:=by simpa [Nat.toDigits] using hl
  lia
theorem q_pow : QOp X (binaryOp .Pow) (rI CPow fun i j=>.int (i ^ j.toNat)):=⟨aqB⟩
noncomputable def aiV (K:PySem.W.Frag):Sp:=fun vs H Q _=>∃ (d c:Addr) (w:Bool) (ks:List Str) (f:Str->V) (cs:List Int),vs=[.ref d,.bl w,.ref c]/\H d=some (.dK (B5 ks f))/\1<=ks.length/\ks.length<=100000/\D9 K H c (cs.map V.int)/\cs.length<=30/\
 ∀ l H' (ps:List Str),H l=none->Same H H'->H' l=some (.lst (ps.map V.str))->(∀ p∈ps,cM w ks p)->ps.length<=cs.length->Q (.ref l) H'
theorem aln{E:List (Str×Str)}{rank:Str->Nat}(hr:∀ e∈E,rank e.1<rank e.2)(hE:∀ e∈E,e.1∈ts):∀ (n:Nat) (line:List Str),(ts.filter fun p=>!decide (p∈line)).length<=n->R9 E ts line->∃ L,R9 E ts L/\∀ p∈ts,p∈L:=by
 intro n
 induction n with
 | zero=>
  intro line h r;refine ⟨line,r,fun p hp=>?_⟩;have h0:=q9.mp (Nat.le_zero.mp h)
  have:=fY.mp h0 p hp
  simpa using this
 | succ n ih=>
  intro line h r
  by_cases hw:∃ p∈ts,p∉line
  .obtain ⟨q,hq⟩:=aiC hr hE hw;obtain ⟨h1,h2,_⟩:=gQ hq;refine ih (line++[q]) ?_ (r.snoc hq);have e:(ts.filter fun p=>!decide (p∈line++[q]))=(ts.filter fun p=>!decide (p∈line)).filter fun p=>!decide (p=q):=by
    rw [List.filter_filter];refine mP fun p _=>?_
    by_cases a:p∈line <;> by_cases b:p=q <;> simp [a,b]
   have K4:q∈ts.filter fun p=>!decide (p∈line):=Q2.mpr ⟨h1,by simp [h2]⟩
   have:((ts.filter fun p=>!decide (p∈line)).filter fun p=>!decide (p=q)).length<(ts.filter fun p=>!decide (p∈line)).length:=by
    refine Nat.lt_of_le_of_ne (fZ _ _) fun e2=>?_
    have:=mM.mp ((List.length_filter_eq_length_iff (p:=fun p=>!decide (p=q))).mp e2 |> fun h=>mM.mpr h) q K4
    simp at this
   rw [e];lia
  .exact ⟨line,r,fun p hp=>Classical.byContradiction fun h=>hw ⟨p,hp,h⟩⟩
theorem RulG.lines(G:RulG ns ls ms R):T0 R "row" ls/\T0 R "marks" ms:=by
 have g:=G.good;obtain ⟨L,h1,h2⟩:=aln (rank:=fun x=>ls.idxOf x) g.a1 (fun e he=>(xJ he).1) _ [] (B3 _) (R9.nil _ (toldL (rowsW R "row")));obtain ⟨M,h3,h4⟩:=aln (rank:=fun x=>ms.idxOf x) g.a2 (fun e he=>(xJ he).1) _ [] (B3 _) (R9.nil _ (toldL (rowsW R "marks")));have e1:=G.lets ⟨h1,h2⟩;have e2:=G.mrks ⟨h3,h4⟩;rw [<- e1,<- e2];exact ⟨⟨h1,h2⟩,h3,h4⟩
noncomputable def tRev (K:PySem.W.Frag) (te:TE) (tk:TO):TE:=fun Y H Q=>te Y H fun x H1=>tk Y H1 fun k H2=>k=some (-1)/\∃ a xs,x=.ref a/\D9 K H2 a xs/\∀ p,H2 p=none->Q (.ref p) (A0 H2 p (.lst xs.reverse))
theorem ao6{tk:TO} : tRev K te tk Y H Q=te Y H fun x H1=>tk Y H1 fun k H2=>k=some (-1)/\∃ a xs,x=.ref a/\D9 K H2 a xs/\∀ p,H2 p=none->Q (.ref p) (A0 H2 p (.lst xs.reverse)):=rfl
end L2
namespace PySem
end PySem
namespace L2
open PySem PySem.Spec PyProof.Rows
noncomputable def tLRev (ta:TA):TE:=fun Y H Q=>ta Y H fun vs H1=>∃ (l:Addr) (xs:List V),vs=[.ref l]/\H1 l=some (.lst xs)/\∀ p,H1 p=none->Q (.ref p) (A0 H1 p (.lst xs.reverse))
theorem ao7 : tLRev ta Y H Q=ta Y H fun vs H1=>∃ (l:Addr) (xs:List V),vs=[.ref l]/\H1 l=some (.lst xs)/\∀ p,H1 p=none->Q (.ref p) (A0 H1 p (.lst xs.reverse)):=rfl
noncomputable def aW (U:List E1):Nat:=(U.map fun u=>u.2.2.1.length).sum
theorem ahU(U:List E1)(s:Tr):aW (addS U s)<=aW U+1:=by
 unfold addS
 by_cases h:s.1=0
 .rw [if_pos h]
  by_cases hU:U=[]
  .subst hU;unfold addM aW
   simp
  .obtain ⟨U',u,rfl⟩:=yQ hU;unfold addM;rw [List.getLast?_append,List.getLast?_singleton];simp [aW];lia
 .rw [if_neg h];simp [aW]
theorem ae0:∀ (ss:List Tr) (U:List E1),aW (ss.foldl addS U)<=aW U+ss.length
 | [],U=>B3 _
 | s::ss,U=>by
  rw [List.foldl_cons,L1];have h1:=ae0 ss (addS U s);have h2:=ahU U s;lia
theorem ag7(hs:∀ y,(S y).length<=15)(ps:List Str):aW (P5 S ps)<=15*ps.length:=by
 have h0:(ps.flatMap S).length<=15*ps.length:=by
  induction ps with
  | nil=>exact B3 _
  | cons p ps ih=>
   rw [r8,C1,L1]
   have:=hs p
   lia
 have h1:=ae0 (ps.flatMap S) [];unfold P5;have h2:aW []=0:=rfl;lia
theorem afF{α β:Type}{F:α->β->Prop} : ∀ {as:List α} {bs:List β},Paired F as bs->Paired F as.reverse bs.reverse
 | _,_,.nil=>.nil
 | _,_,.cons h t=>by
  rw [List.reverse_cons,List.reverse_cons];exact Paired.snoc (afF t) h
theorem ag8(G:RulG ns ls ms R)(cY:∀ x,x∈ks↔x∈D7 R)(X7:∀ p∈ps,cM (hasW R "figures") ks p) :
  (ps.map (·.length)).sum<=14*ps.length/\(Str.join (Str.ofString "") ps).length<=14*ps.length/\(Str.join (Str.ofString "") ps).cps.toList=flatP ps/\c9 (hasW R "figures") (D7 R) (Str.join (Str.ofString "") ps):=by
 have iU:∀ p∈ps,cM (hasW R "figures") (D7 R) p:=fun p hp=>(X7 p hp).imp (cY p).mp id
 have X8:∀ p∈ps,eL (hasW R "figures") (D7 R) p:=fun p hp=>(iU p hp).imp id And.left
 have hp14:∀ p,cM (hasW R "figures") (D7 R) p->p.length<=14:=fun p hp=>by
  rcases hp with h | ⟨_,h⟩
  .rcases ag5 G p h with ⟨c,rfl⟩ | ⟨c,d,rfl⟩
   .show 1<=14;decide
   .show 2<=14;decide
  .exact h
 have pQ:(ps.map (·.length)).sum<=14*ps.length:=by
  clear X7 X8
  induction ps with
  | nil=>exact B3 _
  | cons p ps ih=>
   have:=ih fun q hq=>iU q (M6 _ hq)
   have:=hp14 p (iU p O0)
   simp only [G1,List.sum_cons,L1];lia
 have hzj:(Str.join (Str.ofString "") ps).cps.toList=flatP ps:=ag0 ps;have i8:(flatP ps).length=(ps.map (·.length)).sum:=by
  rw [List.length_flatMap];exact congrArg List.sum (jL fun p _=>lenL p)
 exact ⟨pQ,by rw [<- lenL,hzj,i8];exact pQ,hzj,ajH G hzj X8⟩
theorem RulG.known_len(G:RulG ns ls ms R):(D7 R).length<=1000:=by
 unfold D7;rw [C1];have h1:=xN (C7 R);have h2:=yH (n:=19) fun z hz=>G.zl hz
 have h3:(U6 R).length<=1:=by unfold U6;split <;> simp
 have h4:=G.len;lia
theorem RulG.known_pos(G:RulG ns ls ms R)(cY:∀ x,x∈ks↔x∈D7 R):1<=ks.length:=by
 have h0:=G.l0;obtain ⟨l,hl⟩:∃ l,l∈ls:=by
  cases ls with
  | nil=>simp at h0
  | cons l r=>exact ⟨l,O0⟩
 have:=(cY l).mpr (yU (E2.mpr ⟨_,G.letter.mpr hl,rfl⟩))
 exact List.length_pos_of_mem this
theorem ae1(hs:∀ y,(S y).length<=15){w:Bool}(hy:y.length<=500) :
  (P5 S (cutF w ks y.cps.toList).2).length<=10000/\(∀ u∈P5 S (cutF w ks y.cps.toList).2,u.2.2.1.length<=10000)/\aW (P5 S (cutF w ks y.cps.toList).2)<=100000:=by
 have h1:=sU hs (cutF w ks y.cps.toList).2;have h2:=(kY (w:=w) (g:=ks) _ y.cps.toList (B3 _)).2.1;have h3:=ag7 hs (cutF w ks y.cps.toList).2;rw [lenL] at h2;exact ⟨by lia,fun u hu=>by have:=h1.2 u hu;lia,by lia⟩
end L2
namespace PySem.SeqAt
open AutoSeq1 (wpAny_loadPart')
open MeetsSeq MeetsSeq2 MeetsSeq3 SeqRoads2
noncomputable def RcLt (A:Around) (s:Shared) (y x:Value) (b:Bool):Prop:=
 ∀ (prog:Program) (w:World) (E:Value->Shared->Prop) (Q:Value->Shared->Prop),Q (.bool b) s->wpAny (model prog w) A (richCompare .Lt y x) Q E s
theorem alo{α:Type}[DecidableEq α][LT α][DecidableLT α](y0:∀ a:α,¬ a<a){xs ys:List α}(h1:i<xs.length)(h2:i<ys.length) :
  decide (xs.drop i<ys.drop i)=if decide (xs[i]=ys[i])=true then decide (xs.drop (i+1)<ys.drop (i+1)) else decide (xs[i]<ys[i]):=by
 rw [aD h1,aD h2]
 by_cases e:xs[i]=ys[i]
 .rw [if_pos (decide_eq_true e)];refine decide_eq_decide.mpr ?_;rw [List.cons_lt_cons_iff,e];exact ⟨fun h=>h.elim (fun h=>absurd h (y0 _)) (fun h=>h.2),fun h=>.inr ⟨rfl,h⟩⟩
 .rw [if_neg (by simpa using e)];refine decide_eq_decide.mpr ?_;rw [List.cons_lt_cons_iff];exact ⟨fun h=>h.elim id fun h=>absurd h.1 e,.inl⟩
theorem anx{α:Type}[LT α][DecidableEq α][DecidableLT α]{ys:List α}{m':Nat}(hx:m=m')(hy:n=ys.length)(hi:i=m):decide ([]<ys.drop i)=decide (m<n):=by
 refine decide_eq_decide.mpr ?_;cases e:ys.drop i with
 | nil=>
  have:=List.drop_eq_nil_iff.mp e
  exact ⟨fun h=>absurd h (List.not_lt_nil _),fun h=>by lia⟩
 | cons a r=>
  have:i<ys.length:=by
   rcases Nat.lt_or_ge i ys.length with h | h
   .exact h
   .rw [jI h] at e;cases e
  exact ⟨fun _=>by lia,fun _=>List.nil_lt_cons _ _⟩
theorem alp{α:Type}[DecidableEq α][LT α][DecidableLT α](y0:∀ a:α,¬ a<a)(l b:Addr)(items items2:Array Value)(n n2:Nat)(dd m6:Option Addr)(sl Y4:Array (Option Value))(xs ys:List α)(hx:items.size=xs.length)(hy:items2.size=ys.length)(k:Nat) :
  ∀ i:Nat,items.size-i=k->i<=items.size->i<=items2.size->Meets (Builtin.«list.__eq__.loop» ⟨[.ref l,.ref b,rawInt i,rawInt 0],[]⟩)
   (fun A R s=>s.heap.get? l=some { cls:=.type "list",dict:=dd,data:=.seq items n,slots:=sl }/\s.heap.get? b=some { cls:=.type "list",dict:=m6,data:=.seq items2 n2,slots:=Y4 }/\
    (∀ j (h1:j<items.size) (h2:j<items2.size) (g1:j<xs.length) (g2:j<ys.length),EqAt A.in1 s items[j] items2[j] (decide (xs[j]=ys[j]))/\RcLt A.in1 s items[j] items2[j] (decide (xs[j]<ys[j])))/\
    R (.ok (.ret (.bool (decide (xs.drop i<ys.drop i))))) s):=by
 induction k with
 | zero=>
  intro i hk l1 l2 prog w A R s h;obtain ⟨hp,g,d,tk,os⟩:=s;obtain ⟨hl,hb,he,h⟩:=h
  wp_walk using wpAny_loadPart' hl,wpAny_loadPart' hb
  have cX:items[((i:Nat):Int).toNat]?=none:=by simp;lia
  rw [cX]
  wp_walk using wpAny_loadPart' hl,wpAny_loadPart' hb
  show R (.ok (.ret (.bool (decide (items.size<items2.size))))) _;have e:decide (xs.drop i<ys.drop i)=decide (items.size<items2.size):=by
   rw [jI (as:=xs) 'a'];exact anx hx hy 'a'
  rw [e] at h;exact h
 | succ k ih=>
  intro i hk l1 l2 prog w A R s h;obtain ⟨hp,g,d,tk,os⟩:=s;obtain ⟨hl,hb,he,h⟩:=h
  wp_walk using wpAny_loadPart' hl,wpAny_loadPart' hb
  have C9:i<items.size:=by lia
  have cX:items[((i:Nat):Int).toNat]?=some items[i]:=by simp [C9]
  by_cases pR:i<items2.size
  .have i7:items2[((i:Nat):Int).toNat]?=some items2[i]:=by simp [pR]
   have hc:((i:Int)+1)=((i+1:Nat):Int):=by push_cast;rfl
   rw [cX,i7];obtain ⟨h1,h2⟩:=he i C9 pR 'a' 'a';rw [alo y0 'a' 'a'] at h;refine wpAny_bind (h1 prog w _ _ ?_);cases f6:decide (xs[i]'(by lia)=ys[i]'(by lia)) with
   | true=>
    rw [f6,if_pos rfl] at h
    wp_walk
    rw [hc];exact ⟨plainId_quiet plain_eq_loop _,codeAny_builtin entry_eq_loop (by
     rw [Around.under_plainId plain_eq_loop _];exact ih (i+1) 'a' 'a' 'a' prog w A R _ ⟨hl,hb,he,h⟩)⟩
   | false=>
    rw [f6,if_neg (by decide)] at h
    wp_walk using wpAny_loadPart' hl,wpAny_loadPart' hb
    rw [cX,i7];refine wpAny_bind (h2 prog w _ _ ?_)
    wp_walk
    exact h
  .have i7:items2[((i:Nat):Int).toNat]?=none:=by simp;lia
   rw [cX,i7]
   wp_walk using wpAny_loadPart' hl,wpAny_loadPart' hb
   show R (.ok (.ret (.bool (decide (items.size<items2.size))))) _;have e:decide (xs.drop i<ys.drop i)=decide (items.size<items2.size):=by
    rw [jI (as:=ys) 'a'];refine decide_eq_decide.mpr ?_;exact ⟨fun h=>absurd h (List.not_lt_nil _),fun h=>by lia⟩
   rw [e] at h;exact h
theorem alq{α:Type}[DecidableEq α][LT α][DecidableLT α](y0:∀ a:α,¬ a<a)(l b:Addr)(items items2:Array Value)(n n2:Nat)(dd m6:Option Addr)(sl Y4:Array (Option Value))(xs ys:List α)(hx:items.size=xs.length)(hy:items2.size=ys.length) :
  Meets (Builtin.«list.__lt__» ⟨[.ref l,.ref b],[]⟩)
   (fun A R s=>s.heap.get? l=some { cls:=.type "list",dict:=dd,data:=.seq items n,slots:=sl }/\s.heap.get? b=some { cls:=.type "list",dict:=m6,data:=.seq items2 n2,slots:=Y4 }/\
    (∀ j (h1:j<items.size) (h2:j<items2.size) (g1:j<xs.length) (g2:j<ys.length),EqAt A.in1 s items[j] items2[j] (decide (xs[j]=ys[j]))/\RcLt A.in1 s items[j] items2[j] (decide (xs[j]<ys[j])))/\
    R (.ok (.ret (.bool (decide (xs<ys))))) s):=by
 intro prog w A R s h;obtain ⟨hp,g,d,tk,os⟩:=s;obtain ⟨hl,hb,he,h⟩:=h;have f3:=AutoSeq1.sub_list_list
 wp_walk using wpAny_loadPart' hl,wpAny_loadPart' hb
 exact ⟨plainId_quiet plain_eq_loop _,codeAny_builtin entry_eq_loop (by
  rw [Around.under_plainId plain_eq_loop _];exact alp y0 l b items items2 n n2 dd m6 sl Y4 xs ys hx hy _ 0 rfl (F9 _) (F9 _) prog w A R _ ⟨hl,hb,he,h⟩)⟩
theorem ajI{α:Type}[DecidableEq α][LT α][DecidableLT α](y0:∀ a:α,¬ a<a)(l b:Addr)(items items2:Array Value)(n n2:Nat)(dd m6:Option Addr)(sl Y4:Array (Option Value))(xs ys:List α)(hx:items.size=xs.length)(hy:items2.size=ys.length) :
  Meets (Builtin.«tuple.__lt__» ⟨[.ref l,.ref b],[]⟩)
   (fun A R s=>s.heap.get? l=some { cls:=.type "tuple",dict:=dd,data:=.seq items n,slots:=sl }/\s.heap.get? b=some { cls:=.type "tuple",dict:=m6,data:=.seq items2 n2,slots:=Y4 }/\
    (∀ j (h1:j<items.size) (h2:j<items2.size) (g1:j<xs.length) (g2:j<ys.length),EqAt A.in1 s items[j] items2[j] (decide (xs[j]=ys[j]))/\RcLt A.in1 s items[j] items2[j] (decide (xs[j]<ys[j])))/\
    R (.ok (.ret (.bool (decide (xs<ys))))) s):=
 .of_wp fun prog w A R s h=>by
  obtain ⟨hp,g,d,tk,os⟩:=s;obtain ⟨hl,hb,he,h⟩:=h;have f2:=AutoSeq1.sub_tuple_tuple;have hZ:(items.toList.zip items2.toList).length=min items.size items2.size:=by simp
  wp_walk using wpAny_loadPart' hl,wpAny_loadPart' hb,wpAny_forIn_list _ (fun rest b s'=>b.1=none/\s'=⟨hp,g,d,tk,os⟩/\∃ i,rest=(items.toList.zip items2.toList).drop i/\i<=min items.size items2.size/\
   R (.ok (.ret (.bool (decide (xs.drop i<ys.drop i))))) ⟨hp,g,d,tk,os⟩) _
  case turn=>
   rintro ⟨y,x⟩ rest b s' ⟨f6,rfl,i,hz,hi,hR⟩;have C9:i<(items.toList.zip items2.toList).length:=by
    rcases Nat.lt_or_ge i (items.toList.zip items2.toList).length with h' | h'
    .exact h'
    .rw [mJ h'] at hz;cases hz
   have hm:i<min items.size items2.size:=hZ ▸ C9;have h1:i<items.size:=Q9 hm (dW _ _);have h2:i<items2.size:=Q9 hm (Nat.min_le_right _ _);rw [aD C9] at hz
   injection hz with hyx V7
   have uT:y=items[i]:=by have:=congrArg Prod.fst hyx;simpa using this
   have hx':x=items2[i]:=by have:=congrArg Prod.snd hyx;simpa using this
   subst uT hx';rw [alo y0 'a' 'a'] at hR;obtain ⟨q1,q2⟩:=he i h1 h2 'a' 'a';refine wpAny_bind (q1 prog w _ _ ?_);cases uT:decide (xs[i]'(by lia)=ys[i]'(by lia)) with
   | true=>
    rw [uT,if_pos rfl] at hR
    wp_walk
    exact ⟨rfl,rfl,i+1,V7,hm,hR⟩
   | false=>
    rw [uT,if_neg (by decide)] at hR;refine wpAny_ite_split (fun _=>?_) (fun fB=>absurd rfl fB);refine wpAny_bind (wpAny_rule ?_);refine wpAny_bind (q2 prog w _ _ ?_)
    wp_walk
    exact ⟨_,rfl,hR⟩
  case fin=>
   rintro ⟨b1,b2⟩ s' ⟨f6,rfl,i,hz,hi,hR⟩;simp only at f6;subst f6;have uU:min items.size items2.size<=i:=by
    rcases Nat.lt_or_ge i (items.toList.zip items2.toList).length with h' | h'
    .rw [aD h'] at hz;cases hz
    .exact hZ ▸ h'
   have e:decide (xs.drop i<ys.drop i)=decide (items.size<items2.size):=by
    by_cases hc:items.size<=i
    .rw [jI (as:=xs) 'a'];exact anx hx hy 'a'
    .rw [jI (as:=ys) 'a'];refine decide_eq_decide.mpr ?_;exact ⟨fun h=>absurd h (List.not_lt_nil _),fun h=>by lia⟩
   rw [e] at hR
   wp_walk
   exact ⟨_,rfl,by simpa [Builtin.Tuple.tupleCompareSizes] using hR⟩
  case h=>
   exact ⟨rfl,rfl,0,rfl,F9 _,h⟩
section
variable {A:Around} {s:Shared}
theorem RcLt.lists{α:Type}[DecidableEq α][LT α][DecidableLT α](y0:∀ a:α,¬ a<a){l:Addr}{xs ys:List α}(hl:s.heap.IsList l items)(hb:s.heap.IsList b items2)(hx:items.size=xs.length)(hy:items2.size=ys.length)(hu:A.units<cLine)(he:∀ j (h1:j<items.size) (h2:j<items2.size) (g1:j<xs.length) (g2:j<ys.length),EqAt A.in1 s items[j] items2[j] (decide (xs[j]=ys[j]))/\RcLt A.in1 s items[j] items2[j] (decide (xs[j]<ys[j]))):RcLt A s (.ref l) (.ref b) (decide (xs<ys)):=fun prog w E Q h=>by
 obtain ⟨⟨cls,dd,data,sl⟩,ho,hc,n,hd⟩:=id hl;obtain ⟨⟨cls2,m6,data2,Y4⟩,bG,Y9,n2,T7⟩:=id hb;simp only at hc hd Y9 T7;subst hc hd Y9 T7;exact richCompare_meets_room (op:=.Lt) ⟨_,ho,rfl⟩ ⟨_,bG,rfl⟩ F.slot_list_lt F.entry_list_lt (F.args_list_lt_2 _ _) (alq y0 l b items items2 n n2 dd m6 sl Y4 xs ys hx hy)
  ⟨ho,bG,he,show Value.bool (decide (xs<ys))≠Value.notImplemented/\Q (.bool (decide (xs<ys))) s from ⟨(fun x=>nomatch x),h⟩⟩ hu
theorem RcLt.tuples{α:Type}[DecidableEq α][LT α][DecidableLT α](y0:∀ a:α,¬ a<a){l:Addr}{xs ys:List α}(hl:s.heap.IsTuple l items)(hb:s.heap.IsTuple b items2)(hx:items.size=xs.length)(hy:items2.size=ys.length)(hu:A.units<cLine)(he:∀ j (h1:j<items.size) (h2:j<items2.size) (g1:j<xs.length) (g2:j<ys.length),EqAt A.in1 s items[j] items2[j] (decide (xs[j]=ys[j]))/\RcLt A.in1 s items[j] items2[j] (decide (xs[j]<ys[j]))):RcLt A s (.ref l) (.ref b) (decide (xs<ys)):=fun prog w E Q h=>by
 obtain ⟨⟨cls,dd,data,sl⟩,ho,hc,n,hd⟩:=id hl;obtain ⟨⟨cls2,m6,data2,Y4⟩,bG,Y9,n2,T7⟩:=id hb;simp only at hc hd Y9 T7;subst hc hd Y9 T7;exact richCompare_meets_room (op:=.Lt) ⟨_,ho,rfl⟩ ⟨_,bG,rfl⟩ F.slot_tuple_lt F.entry_tuple_lt (F.args_tuple_lt_2 _ _) (ajI y0 l b items items2 n n2 dd m6 sl Y4 xs ys hx hy)
  ⟨ho,bG,he,show Value.bool (decide (xs<ys))≠Value.notImplemented/\Q (.bool (decide (xs<ys))) s from ⟨(fun x=>nomatch x),h⟩⟩ hu
theorem RcLt.int_int(a:Int)(t:Tok)(b:Int)(u:Tok):RcLt A s (.int a t) (.int b u) (decide (a<b)):=fun prog w E Q h=>PySem.P.lt_int h
end
end PySem.SeqAt
namespace L2
open PySem PySem.Spec PyProof.Rows
theorem yV{s:Shared}{its2:List Value}{xs ys:List Int}(r1:Vals (xs.map V.int) its)(r2:Vals (ys.map V.int) its2) :
  ∀ j (h1:j<its.toArray.size) (h2:j<its2.toArray.size) (g1:j<xs.length) (g2:j<ys.length),SeqAt.EqAt A s its.toArray[j] its2.toArray[j] (decide (xs[j]=ys[j]))/\SeqAt.RcLt A s its.toArray[j] its2.toArray[j] (decide (xs[j]<ys[j])):=by
 intro j h1 h2 g1 g2;obtain ⟨t,e1⟩:=sG (rL r1) (j:=j) (z:=xs[j]) (by simp);obtain ⟨u,e2⟩:=sG (rL r2) (j:=j) (z:=ys[j]) (by simp);have q1:its.toArray[j]=.int xs[j] t:=by have:=(I0.mp e1).2;simpa using this
 have q2:its2.toArray[j]=.int ys[j] u:=by have:=(I0.mp e2).2;simpa using this
 rw [q1,q2];refine ⟨?_,SeqAt.RcLt.int_int _ _ _ _⟩
 have:=SeqAt.EqAt.int_int (A:=A) (s:=s) xs[j] t ys[j] u
 rwa [show (xs[j]==ys[j])=decide (xs[j]=ys[j]) by rw [Bool.beq_eq_decide_eq]] at this
noncomputable def rLtR (K:PySem.W.Frag) (a b:Addr) (H:Hp) (Q:VK):Prop:=
 (∃ xs ys:List Int,D9 K H a (xs.map V.int)/\D9 K H b (ys.map V.int)/\Q (.bl (decide (xs<ys))) H)\/
 (∃ xs ys:List Int,C6 K H a (xs.map V.int)/\C6 K H b (ys.map V.int)/\Q (.bl (decide (xs<ys))) H)\/
 ∃ (as bs:List Addr) (xs ys:List (List Int)),D9 K H a (as.map V.ref)/\D9 K H b (bs.map V.ref)/\Paired (fun c x=>C6 K H c (x.map V.int)) as xs/\Paired (fun c x=>C6 K H c (x.map V.int)) bs ys/\Q (.bl (decide (xs<ys))) H
noncomputable def rLtK (K:PySem.W.Frag):V->V->Hp->VK->Prop
 | .int i,.int j,H,Q=>Q (.bl (decide (i<j))) H
 | .str i,.str j,H,Q=>Q (.bl (decide (i.cps.toList<j.cps.toList))) H
 | .ref a,.ref b,H,Q=>rLtR K a b H Q
 | _,_,_,_=>False
theorem q_ltK(hu:X.A.units+64<cLine)(hK:X.K=K:=by rfl):QOp X (compareOp .Lt) (rLtK K):=⟨by
 subst hK;sleep 0;have u0:X.A.units<cLine:=by lia
 have u1:X.A.in1.units<cLine:=by rw [show X.A.in1.units=X.A.units+1 from rfl];lia
 have u2:X.A.in1.in1.units<cLine:=by rw [show X.A.in1.in1.units=X.A.units+2 from rfl];lia
 cases x <;> cases y <;> try exact h.elim
 .exact op_lt pins s Y H _ _ v u Q I rx ry ⟨_,_,rfl,rfl,h⟩
 .exact agl pins s Y H _ _ v u Q I rx ry ⟨_,_,rfl,rfl,h⟩
 cases rx
 cases ry
 rcases h with ⟨xs,ys,h1,h2,q⟩ | ⟨xs,ys,h1,h2,q⟩ | ⟨as,bs,xs,ys,h1,h2,p1,p2,q⟩
 .obtain ⟨its,r1,l1,_⟩:=I.list h1;obtain ⟨its2,r2,l2,_⟩:=I.list h2;have e1:=r1.length;have e2:=r2.length;rw [A6] at e1 e2;exact SeqAt.RcLt.lists Int.lt_irrefl l1.isList l2.isList (by simpa using e1.symm) (by simpa using e2.symm) u0 (yV r1 r2) _ _ _ _ ⟨.bl _,H,I,rfl,q⟩
 .obtain ⟨its,r1,l1,_⟩:=I.tuple h1;obtain ⟨its2,r2,l2,_⟩:=I.tuple h2;have e1:=r1.length;have e2:=r2.length;rw [A6] at e1 e2;exact SeqAt.RcLt.tuples Int.lt_irrefl l1 l2 (by simpa using e1.symm) (by simpa using e2.symm) u0 (yV r1 r2) _ _ _ _ ⟨.bl _,H,I,rfl,q⟩
 .obtain ⟨its,r1,l1,_⟩:=I.list h1;obtain ⟨its2,r2,l2,_⟩:=I.list h2;have e1:=r1.length;have e2:=r2.length;rw [A6] at e1 e2;have f1:=Paired.length p1;have f2:=Paired.length p2;refine SeqAt.RcLt.lists (xs:=xs) (ys:=ys) (fun a=>List.lt_irrefl a) l1.isList l2.isList (by simp;lia) (by simp;lia) u0 (fun j h1 h2 g1 g2=>?_) _ _ _ _ ⟨.bl _,H,I,rfl,q⟩;have j1:j<as.length:=by lia
  have j2:j<bs.length:=by lia
  obtain ⟨v1,w1,z1⟩:=Vals.get (i:=j) (x:=.ref as[j]) r1 (by simp [j1]);obtain ⟨v2,w2,z2⟩:=Vals.get (i:=j) (x:=.ref bs[j]) r2 (by simp [j2]);have q1:its.toArray[j]=v1:=by have:=(I0.mp w1).2;simpa using this
  have q2:its2.toArray[j]=v2:=by have:=(I0.mp w2).2;simpa using this
  rw [q1,q2];obtain ⟨x1,y1,t1⟩:=Paired.at p1 (i:=j) (a:=as[j]) (by simp [j1]);obtain ⟨x2,y2,t2⟩:=Paired.at p2 (i:=j) (a:=bs[j]) (by simp [j2]);have o1:xs[j]=x1:=(I0.mp y1).2;have o2:ys[j]=x2:=(I0.mp y2).2;rw [o1,o2]
  constructor
  .obtain ⟨c1,us1,d1⟩:=(Dn.tup t1 aO).reads I rfl z1;obtain ⟨c2,us2,d2⟩:=(Dn.tup t2 aO).reads I rfl z2
   have:=SeqAt.eqAt_reads _ _ X.A.in1 s v1 v2 _ _ d1 d2 c1 c2 (by
    have hd:∀ zs:List Int,(PyData.tuple (zs.map f9)).depth=1:=fun zs=>by rw [U5,cI]
    have ui:X.A.in1.units=X.A.units+1:=rfl;rw [hd,hd];lia)
   rwa [O9,kA] at this
  .cases z1
   cases z2
   obtain ⟨i1,s1,m1,_⟩:=I.tuple t1;obtain ⟨i2,s2,m2,_⟩:=I.tuple t2;have k1:=s1.length;have k2:=s2.length;rw [A6] at k1 k2;exact SeqAt.RcLt.tuples Int.lt_irrefl m1 m2 (by simpa using k1.symm) (by simpa using k2.symm) u1 (yV s1 s2)⟩
section
variable {K:PySem.W.Frag} {H:Hp} {Q:VK}
theorem arR{i j:Int} : rLtK K (.int i) (.int j) H Q=Q (.bl (decide (i<j))) H:=rfl
theorem arS{i j:Str} : rLtK K (.str i) (.str j) H Q=Q (.bl (decide (i.cps.toList<j.cps.toList))) H:=rfl
theorem arT : rLtK K (.ref a) (.ref b) H Q=rLtR K a b H Q:=rfl
end
noncomputable def iDict (tl:TE):TI:=fun Y H R=>tl Y H fun x H1=>∃ a kvs,x=.ref a/\H1 a=some (.dK kvs)/\∀ o,R (cL a o kvs) (A0 H1 a (.frz o (.dK kvs)))
theorem ao8{l:Expr}(hl:PE X l tl):PI X tg l (iDict tl):=by
 intro pins s Y H R I h;refine C2 (hl pins s Y H _ I h) fun v s1 ⟨x,H1,I1,r1,q1⟩=>?_
 obtain ⟨a,kvs,rfl,e,q⟩:=q1
 cases r1
 obtain ⟨z,hd,vs,rel,dd⟩:=dk_of I1.hok e;obtain ⟨ep,L4⟩:=dd.dictAt;obtain ⟨o,es,ho,V7⟩:=id L4;refine wpAny_pyIter_dict hd L4 ?_;have NF:∀ o' v',X.H₀ a≠some (.frz o' v'):=fun o' v' z=>by
  have:=I1.base.frzs _ _ _ z
  rw [e] at this;cases this
 have I1':Inv X pins Y H1 { s1 with heap:=s1.heap.push { cls:=.type "dict_keyiterator",data:=.fields #[.ref a,.int 0 0,.int vs.length 0,.int ep 0] } }:=I1.kept (t':=s1.toks) fun b u e=>Heap.get?_push_of_some _ e
 have I2:=I1'.swap (u':=.frz o (.dK kvs)) e (fun _ q=>by cases q) (fun _ q=>by cases q) (fun _ q=>by cases q) NF ⟨Heap.get?_push_of_some _ ho,I1'.hok a _ e⟩;have T:Turn X.prog X.w X.K tg (cL a o kvs) [s1.heap.objs.size] s1.heap.objs.size (fun i h=>h.IsKeyIter s1.heap.objs.size a i vs.length ep):=agK a _ o kvs vs ep (fun h e=>⟨o,es,e,V7⟩) rel;have X6:A0 H1 a (.frz o (.dK kvs)) s1.heap.objs.size=none:=by rw [A9 (fun q=>by rw [<- q,I1.fresh] at e;cases e)];exact I1.fresh
 refine ⟨s1.heap.objs.size,[s1.heap.objs.size],_,_,_,rfl,I2,T,⟨_,Heap.get?_push_size _ rfl,rfl,rfl⟩,fun b hb=>?_,q o⟩;have e:b=s1.heap.objs.size:=by simpa using hb
 subst e;exact I1.fpOk (B3 _) X6
theorem alr{K:PySem.W.Frag}{l:Expr}(hl:QE X l tl):QI X tg l (iDict tl):=⟨ao8 hl.out⟩
theorem amW{R:It->Hp->Prop} : iDict tl Y H R=tl Y H fun x H1=>∃ a kvs,x=.ref a/\H1 a=some (.dK kvs)/\∀ o,R (cL a o kvs) (A0 H1 a (.frz o (.dK kvs))):=rfl
noncomputable def tThaw (te:TE):TE:=fun Y H Q=>∃ a kvs,H a=some (.dK kvs)/\te Y H fun v H'=>(∃ o,H' a=some (.frz o (.dK kvs)))/\Q v (A0 H' a (.dK kvs))
theorem ao9 : tThaw te Y H Q=∃ a kvs,H a=some (.dK kvs)/\te Y H fun v H'=>(∃ o,H' a=some (.frz o (.dK kvs)))/\Q v (A0 H' a (.dK kvs)):=rfl
section
variable {X:Cx} {pos pos':Pos} {tg e elt:Expr} {ifs:List Expr} {wi:TI} {k:Nat} {ixs:List Nat} {sc:Scope} {N':List Str} {g:TG} {tA:TT} {te:TE} {x:Str}
noncomputable def anz (ts:TS):TS:=fun D Y H=>∃ a kvs,H a=some (.dK kvs)/\ts (D.thaw a kvs) Y H
theorem ae2(hN:X.N.Nodup)(hiN:X.N[n]?=some x)(hx:o4 X.env.scope x)(C:CompOk X.N X.env.scope.names sc N' k ixs)(hi:QI X tg e wi)(hg:∀ C zw zt fp pins,QG (N3 X sc N' C zw zt fp pins) tg g)(hc:∀ C zw zt fp pins,QIfs (N3 X sc N' C zw zt fp pins) ifs tA)(he:∀ C zw zt fp pins,QE (N3 X sc N' C zw zt fp pins) elt te)(pA:swapsWith (.ListComp elt [⟨tg,e,ifs,0⟩] sc pos) (some (.Name x pos')) spos.line X.env=pure true:=by rfl)(L9:X.calm=true:=by rfl)(hf:X.fn x=true:=by rfl)(hs:∀ x,foldedSetIterable e X.env x=pure x:=by intro _;rfl) :
  QS X (.Assign [.Name x pos'] (.ListComp elt [⟨tg,e,ifs,0⟩] sc pos) spos) (anz (tAsg (tComp wi k ixs g tA te) (gName n))):=⟨by
 intro pins s Y H D I q;obtain ⟨a,kvs,e1,q⟩:=q;have NF:∀ o' v',X.H₀ a≠some (.frz o' v'):=fun o' v' z=>by
  have:=I.base.frzs _ _ _ z
  rw [e1] at this;cases this
 have thaw:∀ {σ':St} {H':Hp} {s':Shared},Inv X pins σ' H' s'->(∃ o,H' a=some (.frz o (.dK kvs)))->Inv X pins σ' (A0 H' a (.dK kvs)) s':=fun {σ' H' s'} I' ⟨o',e'⟩=>
  I'.swap e' (fun _ q=>by cases q) (fun _ q=>by cases q) (fun _ q=>by cases q) NF (I'.hok a _ e').2
 refine C2 ((cJ hN hiN hx C hi hg hc he pA L9 hf hs).out pins s Y H _ I q) fun f s7 q7=>?_
 cases f with
 | next=>obtain ⟨σ7,H7,I7,q7⟩:=q7;exact ⟨σ7,_,thaw I7 q7.1,q7.2⟩
 | cont=>obtain ⟨σ7,H7,I7,q7⟩:=q7;exact q7.elim
 | brk=>obtain ⟨σ7,H7,I7,q7⟩:=q7;exact q7.elim
 | ret v=>obtain ⟨x7,σ7,H7,I7,r7,q7⟩:=q7;exact ⟨x7,σ7,_,thaw I7 q7.1,r7,q7.2⟩⟩
theorem amX{ts:TS} : anz ts D Y H=∃ a kvs,H a=some (.dK kvs)/\ts (D.thaw a kvs) Y H:=rfl
end
theorem compD(fr:St)(X6:compStart 1 ixs Y=none::fr)(Pv:Addr->Nat->List V->Hp->Prop)(h0:∀ D,H1 D=none->Pv D 0 [] (A0 H1 D (.lst [])))(hl:∀ D i ys H,H1 D=none->i<=kvs.length->Pv D i ys H->H a=some (.frz o (.dK kvs)))(hs:∀ D i k v ys H,H1 D=none->i<kvs.length->kvs[i]?=some (k,v)->Pv D i ys H->H D=some (.lst ys)->ys.length<=i->c (some (kV k)::fr) H fun b H4=>
   if b=true then te (some (kV k)::fr) H4 fun y H5=>H5 D=some (.lst ys)/\ys.length<sizeLine/\CW kvs.length fr (Pv D) (i+1) (ys++[y]) (some (kV k)::fr) (A0 H5 D (.lst (ys++[y])))
   else H4 D=some (.lst ys)/\CW kvs.length fr (Pv D) (i+1) ys (some (kV k)::fr) H4)(hd:∀ D ys H,H1 D=none->Pv D kvs.length ys H->H D=some (.lst ys)->ys.length<=kvs.length->Q (.ref D) H):cH (cL a o kvs) 1 ixs (gName 0) c te Y Q H1:=by
 intro D hD;refine ⟨kvs.length,CW kvs.length fr (Pv D),⟨F9 _,F9 _,⟨none,X6⟩,h0 D hD⟩,?_⟩;rintro i ys σ2 H2 ⟨hi,hy,⟨v,rfl⟩,p⟩ hDy;have q:=hl D i ys H2 hD hi p
 by_cases C9:i<kvs.length
 .refine .inr ⟨C9,⟨q,C9⟩,fun x H' y=>?_⟩;obtain ⟨rfl,k,w,e,rfl⟩:=y;exact hs D i k w ys _ hD C9 e p hDy hy
 .have e:i=kvs.length:=by lia
  subst e;exact .inl ⟨⟨q,B3 _⟩,hd D ys H2 hD p hDy hy⟩
end L2
open L2 in
local macro_rules | `(tactic| walk_at "rd")=>`(tactic| simp only [↓anh,↓ap_c,↓aol,↓aq6,↓ami,↓aom,↓aon,↓aq7,↓aoo,↓aq8,↓aq9,↓aop,↓ap_op,↓aog,↓ap_tB,↓aq4,↓aq3,↓ap_or,↓aoj,↓aq5,↓aok,↓aoi,↓ap_if,↓amh,↓ap_cb,↓aot,↓arc,↓aou,↓ard,↓are,↓ap_sl,↓akt,↓aov,↓ari,↓aoF,↓amm,↓aoD,↓aoE,↓amn,↓amo,↓ap_bm,↓arf,↓ara,↓aor,↓aoq,↓amk,↓aos,↓ap_un,↓ap_rU,↓arb,↓arh,↓aow,↓aox,↓aoy,↓aoz,↓amj,↓aoA,↓aml,↓aoB,↓aoh,aoC,aoG,amp,amq,amr,↓ad_ii,↓ad_ss,↓ad_rr,↓mu_ii,↓mu_ri,↓eq_ii,↓eq_ss,↓eq_bb,↓eq_rx,↓eq_xr,↓ne_ii,↓ne_ss,↓ne_bb,↓ne_rx,↓ne_xr,↓L2.lt_ii,↓L2.lt_ss,↓le_ii,↓le_ss,↓gt_ii,↓gt_ss,↓ge_ii,↓ge_ss,↓in_xs,↓in_xr,↓sl_s,↓sl_r,↓len_s,↓len_r,↓arl,↓all_r,↓isi_t,↓ord_s,↓arq,↓amw,anm,↓amx,↓tup_r,↓aoL,↓arr,↓ars,↓aoM,↓aoN,↓amz,↓amA,↓aoH,↓aoI,↓ao6,↓ao7,↓ao9,↓amX,↓amW,↓arR,↓arS,↓arT,↓arO,↓arI,↓arH,↓aoY,↓akW,↓arK,↓arL,↓arM,↓any_r,↓amJ,↓aoT,↓aoU,↓arx,↓aoV,↓amL,↓aoO,↓amF,↓aoQ,↓amE,ams,agC,cxK,cxKn,cxKb,cxC,cxCn,cxCb,G1,bV,L1,Z5,Nat.sub_self,Nat.reduceAdd,Nat.reduceSub,Nat.zero_add,Nat.add_one_sub_one,List.replicate_zero,jK,G7,bT,gD,List.getElem?_cons_zero,List.getElem?_cons_succ,List.set_cons_zero,List.set_cons_succ,Option.some.injEq,Option.join_some,Option.join_none,exists_eq_left',exists_eq_left,exists_eq',exists_eq,reduceCtorEq,false_and,and_false,exists_false,exists_const,false_or,or_false,true_and,and_true,V.str.injEq,V.int.injEq,V.bl.injEq,V.ref.injEq,V.ty.injEq,k4.injEq,exists_and_left,exists_and_right,and_assoc,if_true,if_false,Bool.false_eq_true,Bool.not_true,Bool.not_false,ite_true,ite_false,Int.reduceLT,Int.reduceLE,F9])
namespace K63
open PySem PySem.Spec PyProof.Rows L2
set_option maxHeartbeats 4000000
noncomputable def top (i:Nat):Stmt:=PySem.Challenge.pw_sortlore_k63_whole_found.main.body.getD i (.Pass ⟨0,0,0,0⟩)
noncomputable abbrev aX:Stmt:=top 13
noncomputable abbrev g7:Stmt:=top 14
noncomputable abbrev aY:Stmt:=top 17
noncomputable abbrev U0:Stmt:=top 20
noncomputable abbrev sY:Stmt:=top 7
noncomputable abbrev nV:Stmt:=top 27
noncomputable abbrev sZ:Stmt:=top 28
noncomputable abbrev eM:Stmt:=top 29
noncomputable abbrev p6:Stmt:=top 30
noncomputable abbrev cN:Stmt:=top 31
noncomputable abbrev cO:Stmt:=top 32
noncomputable abbrev nW:Stmt:=top 33
noncomputable abbrev eN:Stmt:=top 34
noncomputable abbrev T3:Stmt:=top 35
noncomputable abbrev eO:Stmt:=jX (top 36) 0
noncomputable abbrev hV:Stmt:=jX (top 36) 1
noncomputable abbrev hX:Stmt:=jX (top 36) 2
noncomputable abbrev eP:Stmt:=jX (top 36) 3
noncomputable abbrev iA:Stmt:=top 8
noncomputable abbrev cP:Stmt:=top 9
noncomputable abbrev s_cut:Stmt:=top 10
noncomputable abbrev iB:Stmt:=jX (top 36) 4
noncomputable abbrev eQ:Stmt:=jX (top 36) 5
noncomputable abbrev nX:Stmt:=top 38
noncomputable abbrev nY:Stmt:=top 39
noncomputable abbrev nZ:Stmt:=top 40
noncomputable abbrev p7:Stmt:=top 41
noncomputable abbrev aZ:Stmt:=top 42
noncomputable abbrev p8:Stmt:=top 51
noncomputable abbrev Y8:Stmt:=top 52
noncomputable abbrev eR:Stmt:=top 11
noncomputable abbrev lA:Stmt:=top 44
noncomputable abbrev eS:Stmt:=top 45
noncomputable abbrev oA:Stmt:=top 46
noncomputable abbrev bA:Stmt:=top 47
noncomputable abbrev W3:Stmt:=top 48
noncomputable abbrev R1:Stmt:=top 49
noncomputable abbrev oB:Stmt:=top 54
noncomputable abbrev cQ:Stmt:=top 55
noncomputable abbrev W4:Stmt:=top 56
noncomputable abbrev iC:Stmt:=top 57
noncomputable abbrev lB:Stmt:=top 58
noncomputable abbrev T5:Stmt:=top 59
noncomputable abbrev e8:Stmt:=top 60
noncomputable abbrev cR:Stmt:=top 61
noncomputable abbrev l9:Stmt:=top 62
noncomputable abbrev m3:Stmt:=top 63
noncomputable abbrev g8:Stmt:=top 64
noncomputable abbrev lC:Stmt:=top 65
noncomputable abbrev X1:Stmt:=top 66
noncomputable abbrev s_law:Stmt:=top 67
noncomputable def visB (S:Scope) (x:Str):Bool:=decide (S.names.lookup x=some .local) || decide (S.names.lookup x=some .cell) || decide (S.names.lookup x=some .free)
theorem qvd{pos:Pos}{S:Scope}{x:Str}(hN:X.N=N)(hs:X.env.scope=S)(h:(decide (N[n]?=some x)&&visB S x && !(x==("__debug__" : Str)) && !(x==("__classdict__" : Str)))=true):QE X (.Name x pos) (tVar n):=by
 subst hN hs;simp only [visB,U4,Bool.or_eq_true,decide_eq_true_eq,Bool.not_eq_true'] at h;exact qe_v h.1.1.1 (h.1.1.2.elim (fun z=>z.elim .inl fun z=>.inr (.inl z)) fun z=>.inr (.inr z)) h.1.2 h.2
theorem len1{α:Type}{F:List α->Prop}(h:∀ a,F [a]):∀ us:List α,us.length=1->F us
 | [a],_=>h a
theorem len2{α:Type}{F:List α->Prop}(h:∀ a b,F [a,b]):∀ us:List α,us.length=2->F us
 | [a,b],_=>h a b
theorem len3{α:Type}{F:List α->Prop}(h:∀ a b c,F [a,b,c]):∀ us:List α,us.length=3->F us
 | [a,b,c],_=>h a b c
theorem len4{α:Type}{F:List α->Prop}(h:∀ a b c d,F [a,b,c,d]):∀ us:List α,us.length=4->F us
 | [a,b,c,d],_=>h a b c d
theorem len5{α:Type}{F:List α->Prop}(h:∀ a b c d e,F [a,b,c,d,e]):∀ us:List α,us.length=5->F us
 | [a,b,c,d,e],_=>h a b c d e
theorem G3{Q:List Str}{sc:Scope}(h1:sc.kind=.function:=by rfl)(h2:sc.isCoroutine=false:=by rfl)(h3:sc.isGenerator=false:=by rfl)(h4:N.Nodup:=by decide +kernel)(h5:N.take Q.length=Q:=by rfl)(h6:∀ x∈Q,sc.names.lookup x=some .local\/sc.names.lookup x=some .cell:=by decide +kernel)(h7:∀ y∈sc.names,y.2≠.free:=by decide +kernel):FnScope N Q sc:=⟨h1,h2,h3,h4,h5,h6,h7⟩
theorem Q7{kn:List (Str×NameKind)}{sc:Scope}(h1:sc.kind=.function:=by rfl)(h2:∀ x∈sc.names,x.2≠.cell:=by decide +kernel)(h3:∀ x∈sc.names,x.2=.local->sc.names.lookup x.1=some .local:=by decide +kernel)(h4:∀ x∈sc.names,x.2=.free->kn.lookup x.1=some .cell\/kn.lookup x.1=some .free:=by decide +kernel)(h5:∀ x∈sc.names,x.2=.free->sc.names.lookup x.1=some .free:=by decide +kernel)(h6:N'.length=k+ixs.length:=by rfl)(h7:ixs.map (fun i=>N[i]?)=(N'.drop k).map some:=by decide +kernel)(h8:∀ x∈N'.drop k,(x,NameKind.free)∈sc.names:=by decide +kernel):CompOk N kn sc N' k ixs:=⟨h1,h2,h3,h4,h5,h6,h7,h8⟩
theorem hm(r:Room k A)(h:j<=k:=by decide):Room j A:=r.mono h
structure DF(K:PySem.W.Frag)(n:Str)(s:Stmt):Prop where
 ex:∃ (f:Addr) (oc:Value) (od:Option Addr) (kV dc pm:Value) (an:Option Addr) (cd ct:Value) (sl:Array (Option Value)),R0 K mainGlobals n=some (some (.ref f))/\K.lookup f=some ⟨oc,od,.func (V4 n n (X0 s) (W0 s) (C3 s) .none kV dc pm an cd ct),sl⟩/\Y3 K cd n=true/\W8 K (.ref f)=true
theorem df_mk{n:Str}{s:Stmt}{kV dc:Value}{sl:Array (Option Value)}(a:R0 K mainGlobals n=some (some (.ref f)))(l:K.lookup f=some ⟨oc,od,.func (V4 n n (X0 s) (W0 s) (C3 s) .none kV dc pm an cd ct),sl⟩)(c:Y3 K cd n=true)(k:W8 K (.ref f)=true):DF K n s:=⟨f,oc,od,kV,dc,pm,an,cd,ct,sl,a,l,c,k⟩
theorem DF.go{P:Program}{w:World}{base:Heap}{n:Str}{s:Stmt}(d:DF K n s)(X:K.In h)(G:h.Ns mainGlobals mg)(_:K.In base)(ok:∀ {f fd},FunD K n n s f fd->FnOk P w K mg base E8 k f fd ps sp)(hl:∀ (kV dc pm:Value) (an:Option Addr) (cd ct:Value) (us:List Value),us.length=ps.length->bindArgs (V4 n n (X0 s) (W0 s) (C3 s) .none kV dc pm an cd ct) ⟨us,[]⟩=pure (ps.zip us):=by first | exact fun _ _ _ _ _ _=>len1 fun _=>rfl | exact fun _ _ _ _ _ _=>len2 fun _ _=>rfl | exact fun _ _ _ _ _ _=>len3 fun _ _ _=>rfl | exact fun _ _ _ _ _ _=>len4 fun _ _ _ _=>rfl | exact fun _ _ _ _ _ _=>len5 fun _ _ _ _ _=>rfl):FO P w K mg base k n ps [] sp:=by
 obtain ⟨f,oc,od,kV,dc,pm,an,cd,ct,sl,a,l,c,kp⟩:=d.ex;exact ⟨_,_,ok (u6 (st:=s) l c),f8 X G a,kp,[],.all (hl kV dc pm an cd ct),.nil⟩
structure Txt(P:Program)(w:World)(K:PySem.W.Frag)(mg:Str->Option Value)(C:Addr):Prop where
 cl:Cls K C
 na_figures:NoAttr K C "figures"
 na_behind:NoAttr K C "behind"
 na_jobs:NoAttr K C "jobs"
 na_letter_line:NoAttr K C "letter_line"
 na_mark_line:NoAttr K C "mark_line"
 na_made:NoAttr K C "made"
 b_any:mg "any"=none
 b_dict:mg "dict"=none
 b_enumerate:mg "enumerate"=none
 b_int:mg "int"=none
 b_isinstance:mg "isinstance"=none
 b_len:mg "len"=none
 b_list:mg "list"=none
 b_min:mg "min"=none
 b_range:mg "range"=none
 b_str:mg "str"=none
 b_tuple:mg "tuple"=none
 b_zip:mg "zip"=none
 g_MARK:∃ t,mg "MARK"=some (.int 0 t)
 g_LETTER:∃ t,mg "LETTER"=some (.int 2 t)
 g_FIGURES:∃ t,mg "FIGURES"=some (.int 1 t)
 x_JOBS:∃ a,mg "JOBS"=some (.ref a)/\ModD P w K a [((Sum.inr ("row" : Str):C5),V.str "letter"),((Sum.inr ("marks" : Str):C5),V.str "mark"),((Sum.inr ("great" : Str):C5),V.str "great"),((Sum.inr ("as" : Str):C5),V.str "as"),((Sum.inr ("over" : Str):C5),V.str "over")]
 x_AGAIN:∃ a,mg "AGAIN"=some (.ref a)/\∀ H:Hp,C6 K H a [V.str "letter",V.str "mark",V.str "over"]
theorem aha{d:Value}(h:(us++[d]).length=4):∃ u1 u2 u3,us=[u1,u2,u3]:=by
 match us,h with
 | [a,b,c],_=>exact ⟨a,b,c,rfl⟩
 | [],h=>simp at h
 | [_],h=>simp at h
 | [_,_],h=>simp at h
 | _::_::_::_::r,h=>simp at h
theorem als(h:(us++[]).length=4):∃ u1 u2 u3 u4,us=[u1,u2,u3,u4]:=by
 match us,h with
 | [a,b,c,d],_=>exact ⟨a,b,c,d,rfl⟩
 | [],h=>simp at h
 | [_],h=>simp at h
 | [_,_],h=>simp at h
 | [_,_,_],h=>simp at h
 | _::_::_::_::_::r,h=>simp at h
inductive LvD where
 | tt (xs:List (List Int))
 | ii (xs:List Int)
 | ss (z:Str)
deriving DecidableEq
noncomputable def LvD.kind:LvD->Nat
 | .tt _=>0
 | .ii _=>1
 | .ss _=>2
noncomputable def LvD.lt:LvD->LvD->Bool
 | .tt xs,.tt ys=>decide (xs<ys)
 | .ii xs,.ii ys=>decide (xs<ys)
 | .ss x,.ss y=>decide (x.cps.toList<y.cps.toList)
 | _,_=>false
noncomputable def LvAt (H:Hp) (v:V):LvD->Prop
 | .tt xs=>∃ (a:Addr) (as:List Addr),v=.ref a/\H a=some (.lst (as.map V.ref))/\Paired (fun c (x:List Int)=>H c=some (.tup (x.map V.int))) as xs
 | .ii xs=>∃ a:Addr,v=.ref a/\H a=some (.lst (xs.map V.int))
 | .ss z=>v=.str z
theorem LvAt.same{v:V}{d:LvD}(h:LvAt H v d)(S:Same H H'):LvAt H' v d:=by
 cases d with
 | tt xs=>obtain ⟨a,as,e,h1,h2⟩:=h;exact ⟨a,as,e,S _ _ h1,L0 h2 fun _ _ e=>S _ _ e⟩
 | ii xs=>obtain ⟨a,e,h1⟩:=h;exact ⟨a,e,S _ _ h1⟩
 | ss z=>exact h
theorem yW : ∀ {as:List Addr} {xs:List (List Int)},Paired (fun c (x:List Int)=>H c=some (.tup (x.map V.int))) as xs->DnAll K H (as.map V.ref) (xs.map fun x=>PyData.tuple (x.map f9))
 | _,_,.nil=>.nil
 | _,_,.cons h t=>.cons (.tup (.of h) aO) (yW t)
theorem aiW:∀ xs ys:List (List Int),R6 (xs.map fun x=>PyData.tuple (x.map f9)) (ys.map fun x=>PyData.tuple (x.map f9))=decide (xs=ys)
 | [],[]=>by simp [R6]
 | [],_::_=>by simp [R6]
 | _::_,[]=>by simp [R6]
 | x::xs,y::ys=>by
  rw [G1,G1,R6,O9,kA,aiW xs ys,aK]
  simp
theorem aiX:∀ xs:List (List Int),V9 (xs.map fun x=>PyData.tuple (x.map f9))<=1
 | []=>F9 _
 | x::xs=>by
  rw [G1,V9,U5,cI]
  have:=aiX xs
  lia
theorem LvAt.ne{v:V}{d d':LvD}(h:LvAt H v d)(h':LvAt H v' d')(hk:d.kind=d'.kind)(q:Q (.bl (!decide (d=d'))) H):rNeU K v v' H Q:=by
 cases d with
 | tt xs=>cases d' with
  | tt ys=>
   obtain ⟨a,as,rfl,h1,h2⟩:=h;obtain ⟨b,bs,rfl,h3,h4⟩:=h';refine ⟨_,_,.lst (.of h1) (yW h2),.lst (.of h3) (yW h4),?_,?_⟩
   .have:=aiX xs
    rw [U5];lia
   .rw [O9,aiW,show decide (xs=ys)=decide (LvD.tt xs=LvD.tt ys) by simp];exact q
  | _=>cases hk
 | ii xs=>cases d' with
  | ii ys=>
   obtain ⟨a,rfl,h1⟩:=h;obtain ⟨b,rfl,h3⟩:=h';refine ⟨_,_,.lst (.of h1) aO,.lst (.of h3) aO,by rw [U5,cI];lia,?_⟩;rw [O9,kA,show decide (xs=ys)=decide (LvD.ii xs=LvD.ii ys) by simp];exact q
  | _=>cases hk
 | ss x=>cases d' with
  | ss y=>
   cases h;cases h';show Q (.bl (!decide (x=y))) H;rw [show decide (x=y)=decide (LvD.ss x=LvD.ss y) by simp];exact q
  | _=>cases hk
theorem LvAt.lt{v:V}{d d':LvD}(h:LvAt H v d)(h':LvAt H v' d')(hk:d.kind=d'.kind)(q:Q (.bl (d.lt d')) H):rLtK K v v' H Q:=by
 cases d with
 | tt xs=>cases d' with
  | tt ys=>
   obtain ⟨a,as,rfl,h1,h2⟩:=h;obtain ⟨b,bs,rfl,h3,h4⟩:=h';exact .inr (.inr ⟨as,bs,xs,ys,.of h1,.of h3,L0 h2 fun _ _ e=>.of e,L0 h4 fun _ _ e=>.of e,q⟩)
  | _=>cases hk
 | ii xs=>cases d' with
  | ii ys=>
   obtain ⟨a,rfl,h1⟩:=h;obtain ⟨b,rfl,h3⟩:=h';exact .inl ⟨xs,ys,.of h1,.of h3,q⟩
  | _=>cases hk
 | ss x=>cases d' with
  | ss y=>cases h;cases h';exact q
  | _=>cases hk
theorem aeh : ∀ {es:List (Addr×Addr)} {U:List E1},Paired (fun e (u:E1)=>H1 e.1=some (.tup [.int u.1,.int u.2.1,.ref e.2,.int u.2.2.2])/\H1 e.2=some (.tup (u.2.2.1.map V.int))) es U->Paired (fun c (x:List Int)=>H1 c=some (.tup (x.map V.int))) (es.map (·.2)) (U.map fun u=>u.2.2.1)
 | _,_,.nil=>.nil
 | _,_,.cons h t=>.cons h.2 (aeh t)
noncomputable def W5 (b:Bool) (U:List E1) (z:Str):List LvD:=[.tt (U.map fun u=>[u.1,u.2.1]),.tt ((if b=true then U.reverse else U).map fun u=>u.2.2.1),.ii (U.map fun u=>u.2.2.2),.ss z]
noncomputable def IsLooks (H:Hp) (l:Addr) (ds:List LvD):Prop:=∃ vs:List V,H l=some (.lst vs)/\Paired (LvAt H) vs ds
theorem IsLooks.same{l:Addr}{ds:List LvD}(h:IsLooks H l ds)(S:Same H H'):IsLooks H' l ds:=
 let ⟨vs,h1,h2⟩:=h
 ⟨vs,S _ _ h1,L0 h2 fun _ _ e=>e.same S⟩
noncomputable def cmpD (d d':LvD):Int:=if d=d' then 0 else if d.lt d'=true then -1 else 1
noncomputable def cmpF (n:Nat) (ds ds':List LvD):Int:=(((o0 cmpD ds ds').take n).find? fun v=>v≠0).getD 0
noncomputable def alt (C:Addr):Sp:=fun vs H Q _=>∃ (x j ll ml md:Addr) (z:Str) (g:Str->Str) (R:List Rl) (L M:List Str),vs=[.ref x,.str z]/\IsOrd C H x j ll ml md g R L M/\(D7 R).length<=1000/\z.length<=500/\c9 (hasW R "figures") (D7 R) z/\(∀ y,(stepY R L M y).length<=15)/\
 ∀ l H',H l=none->Same H H'->IsLooks H' l (W5 (hasW R "behind") (P5 (stepY R L M) (cutF (hasW R "figures") (D7 R) z.cps.toList).2) z)->Q (.ref l) H'
noncomputable def lD (R:List Rl) (L M:List Str) (z:Str):List LvD:=W5 (hasW R "behind") (P5 (stepY R L M) (cutF (hasW R "figures") (D7 R) z.cps.toList).2) z
noncomputable def tD (C:Addr):Sp:=fun vs H Q _=>∃ (x j ll ml md:Addr) (z z':Str) (n:Nat) (g:Str->Str) (R:List Rl) (L M:List Str),vs=[.ref x,.str z,.str z',.int n]/\n<=4/\IsOrd C H x j ll ml md g R L M/\(D7 R).length<=1000/\z.length<=500/\z'.length<=500/\c9 (hasW R "figures") (D7 R) z/\c9 (hasW R "figures") (D7 R) z'/\(∀ y,(stepY R L M y).length<=15)/\
 ∀ H',Same H H'->Q (.int (cmpF n (lD R L M z) (lD R L M z'))) H'
theorem ahX(b b':Bool)(U U':List E1)(z z':Str)(i:Nat)(d d':LvD)(h:(W5 b U z)[i]?=some d)(h':(W5 b' U' z')[i]?=some d'):d.kind=d'.kind:=by
 match i with
 | 0=>cases h;cases h';rfl
 | 1=>cases h;cases h';rfl
 | 2=>cases h;cases h';rfl
 | 3=>cases h;cases h';rfl
 | i+4=>simp [W5] at h
theorem aiY{ds ds':List LvD}{d d':LvD}(hi:i<n)(h:ds[i]?=some d)(h':ds'[i]?=some d')(fG:∀ k<i,ds[k]?=ds'[k]?)(N0:d≠d'):cmpF n ds ds'=cmpD d d':=by
 have hz:(o0 cmpD ds ds')[i]?=some (cmpD d d'):=by rw [List.getElem?_zipWith,h,h']
 have hc:cmpD d d'≠0:=by
  unfold cmpD;rw [if_neg N0]
  split <;> decide
 have h0:∀ v∈(o0 cmpD ds ds').take i,v=0:=by
  intro v hv;obtain ⟨k,hk,e⟩:=rA.mp hv;have lV:k<i:=by lia
  have e2:(o0 cmpD ds ds')[k]?=some v:=by rw [G5 'a',e]
  rw [List.getElem?_zipWith,fG k lV] at e2
  cases q:ds'[k]? with
  | none=>rw [q] at e2;cases e2
  | some x=>
   rw [q] at e2
   have:cmpD x x=v:=by simpa using e2
   rw [<- this];exact if_pos rfl
 unfold cmpF;have e3:(o0 cmpD ds ds').take n=(o0 cmpD ds ds').take i++(cmpD d d'::((o0 cmpD ds ds').take n).drop (i+1)):=by
  have hl:i<((o0 cmpD ds ds').take n).length:=by
   have:=(I0.mp hz).1
   rw [E9];lia
  have e4:=V0 i ((o0 cmpD ds ds').take n);rw [List.take_take,bX (gE hi)] at e4
  conv=>lhs;rw [<- e4]
  rw [aD hl]
  have:((o0 cmpD ds ds').take n)[i]=cmpD d d':=by
   rw [List.getElem_take];exact (I0.mp hz).2
  rw [this]
 rw [e3,List.find?_append,List.find?_eq_none.mpr (fun v hv=>by simp [h0 v hv])];simp [hc]
theorem ahb{ds ds':List LvD}(fG:∀ k<n,ds[k]?=ds'[k]?):cmpF n ds ds'=0:=by
 unfold cmpF
 have:((o0 cmpD ds ds').take n).find? (fun v=>v≠0)=none:=List.find?_eq_none.mpr fun v hv=>by
  obtain ⟨k,hk,e⟩:=rA.mp hv;have e2:(o0 cmpD ds ds')[k]?=some v:=by rw [G5 'a',e]
  rw [List.getElem?_zipWith,fG k 'a'] at e2
  cases q:ds'[k]? with
  | none=>rw [q] at e2;cases e2
  | some x=>
   rw [q] at e2
   have:cmpD x x=v:=by simpa using e2
   rw [<- this];simp [cmpD]
 rw [this];rfl
noncomputable def bareL (ss:List Tr):List Int:=(ss.filter fun s=>s.1=2).map (·.2.1)
theorem alu{ss:List Tr}(ha:H a=some (.dK kvs))(h:StepL H r ss):StepL (cutH H [a]) r ss:=by
 obtain ⟨ts,h1,h2⟩:=h.ex;have ne:∀ {c o},H c=some o->o≠.dK kvs->cutH H [a] c=some o:=fun {c o} e no=>by
  unfold cutH;rw [if_neg (fun q=>by rw [G2.mp q,ha] at e;exact no (Option.some.inj e).symm)];exact e
 exact ⟨ts,ne h1 (by simp),L0 h2 fun _ _ e=>ne e (by simp [tupT])⟩
noncomputable def anA (K:PySem.W.Frag):Sp:=fun vs H Q _=>∃ (d:Addr) (y:Str) (ks:List Str) (ad:Str->Addr) (ss:List Tr),vs=[.ref d,.str y]/\Rd H d (.dK (B5 ks fun y=>.ref (ad y)))/\y∈ks/\StepL H (ad y) ss/\ss.length<=15/\∀ l H',H l=none->Same H H'->H' l=some (.lst ((bareL ss).map V.int))->Q (.ref l) H'
theorem ae3{p:Addr}{x:Str}(hp:H2 p=some (.lst (ps.map V.str)))(hl:ps.length<=1000)(pS:m<=k)(fin:∀ l H3 (qs:List Str),Same H2 H3->H2 l=none->H3 l=some (.lst (qs.map V.str))->(∀ y∈qs,y∈ps\/y=x)->qs.length<=ps.length+1->Q (.ref l) H3) :
  rSlR K p none (some (m:Int)) H2 fun x1 H1=>1<=sizeLine/\∀ p2,H1 p2=none->rAddU K x1 (.ref p2) (A0 H1 p2 (.lst [V.str x])) fun x2 H1=>rSlR K p (some (k:Int)) none H1 fun y H2=>rAddU K x2 y H2 Q:=by
 refine rSlR.l (.of hp) fun a1 n1=>⟨by decide,fun a2 n2=>?_⟩
 rw [eE,<- s0] at n2 ⊢
 have S1:Same H2 (A0 H2 a1 (.lst ((ps.take m).map V.str))):=Same.new n1;have h1:A0 H2 a1 (.lst ((ps.take m).map V.str)) a1=some (.lst ((ps.take m).map V.str)):=A5;generalize A0 H2 a1 (.lst ((ps.take m).map V.str))=H3 at S1 h1 n2;have S2:Same H3 (A0 H3 a2 (.lst ([x].map V.str))):=Same.new n2;have h2:A0 H3 a2 (.lst ([x].map V.str)) a2=some (.lst ([x].map V.str)):=A5;show rAddU K (.ref a1) (.ref a2) (A0 H3 a2 (.lst ([x].map V.str))) _;generalize A0 H3 a2 (.lst ([x].map V.str))=H4 at S2 h2;refine rAddR.l (S2 _ _ h1) h2 (by simp only [A6,E9,O4];exact P7 'a') fun a3 n3=>?_
 rw [<- D8];have S3:Same H4 (A0 H4 a3 (.lst ((ps.take m++[x]).map V.str))):=Same.new n3;have h3:A0 H4 a3 (.lst ((ps.take m++[x]).map V.str)) a3=some (.lst ((ps.take m++[x]).map V.str)):=A5;generalize A0 H4 a3 (.lst ((ps.take m++[x]).map V.str))=H5 at S3 h3;have y3:=S1.trans (S2.trans S3);refine rSlR.l (.of (y3 _ _ hp)) fun a4 n4=>?_
 rw [o7,<- W7];refine rAddR.l (D3 h3 n4) A5 (by simp only [A6,C1,E9,U3,O4];exact P7 'a') fun a5 n5=>?_
 rw [<- D8];refine fin a5 _ (ps.take m++[x]++ps.drop k) (y3.trans ((Same.new n4).trans (Same.new n5))) ((y3.trans (Same.new n4)).free n5) A5 (fun y hy=>?_) (by simp only [C1,E9,U3,O4];lia)
 rcases E4.mp hy with h | h
 .rcases E4.mp h with h | h
  .exact .inl (jJ h)
  .exact .inr (G2.mp h)
 .exact .inl (mK h)
theorem ahY{p:Addr}(hp:H2 p=some (.lst (ps.map V.str)))(hl:ps.length<=1000)(pS:m<=k)(fin:∀ l H3 (qs:List Str),Same H2 H3->H2 l=none->H3 l=some (.lst (qs.map V.str))->(∀ y∈qs,y∈ps)->qs.length<=ps.length+1->Q (.ref l) H3) :
  rSlR K p none (some (m:Int)) H2 fun x2 H1=>rSlR K p (some (k:Int)) none H1 fun y H2=>rAddU K x2 y H2 Q:=by
 refine rSlR.l (.of hp) fun a1 n1=>?_
 rw [eE,<- s0];have S1:Same H2 (A0 H2 a1 (.lst ((ps.take m).map V.str))):=Same.new n1;have h1:A0 H2 a1 (.lst ((ps.take m).map V.str)) a1=some (.lst ((ps.take m).map V.str)):=A5;generalize A0 H2 a1 (.lst ((ps.take m).map V.str))=H3 at S1 h1;refine rSlR.l (.of (S1 _ _ hp)) fun a4 n4=>?_
 rw [o7,<- W7];refine rAddR.l (D3 h1 n4) A5 (by simp only [A6,E9,U3];exact P7 'a') fun a5 n5=>?_
 rw [<- D8];refine fin a5 _ (ps.take m++ps.drop k) (S1.trans ((Same.new n4).trans (Same.new n5))) ((S1.trans (Same.new n4)).free n5) A5 (fun y hy=>?_) (by simp only [C1,E9,U3];lia)
 rcases E4.mp hy with h | h
 .exact jJ h
 .exact mK h
noncomputable def ahc (K:PySem.W.Frag):Sp:=fun vs H Q _=>∃ (d p:Addr) (c:Int) (ks ps:List Str) (F:Str->List Tr),vs=[.ref d,.ref p,.int c]/\IsMk H d ks F/\(∀ y,(F y).length<=15)/\1<=ks.length/\ks.length<=100000/\(∀ x∈ks,W9 x=true)/\H p=some (.lst (ps.map V.str))/\ps.length<=1000/\
 ∀ l H' (qs:List Str),H l=none->Same H H'->H' l=some (.lst (qs.map V.str))->(∀ q∈qs,q∈ps\/q∈ks)->qs.length<=ps.length+1->Q (.ref l) H'
theorem alv{ds ds':List LvD}(h:cmpF n ds ds'=0)(l1:n<=ds.length)(l2:n<=ds'.length):∀ k,k<n->ds[k]?=ds'[k]?:=by
 intro i
 induction i using Nat.strongRecOn with
 | ind i ih=>
  intro hi;have q1:i<ds.length:=by lia
  have q2:i<ds'.length:=by lia
  by_cases hd:ds[i]=ds'[i]
  .rw [G5 q1,G5 q2,hd]
  .rw [aiY hi (G5 q1) (G5 q2) (fun k hk=>ih k hk 'a') hd] at h;unfold cmpD at h;rw [if_neg hd] at h
   split at h <;> cases h
noncomputable def X2 (zs:List Str):Nat:=(zs.map (·.length)).sum
theorem amY(h:zs[i]?=some z):X2 (zs.take (i+1))=X2 (zs.take i)+z.length:=by
 unfold X2;rw [K7 h,D8,List.sum_append]
 simp
noncomputable def bB (zs:List Str) (n:Nat):List Int:=(aI n).map fun k=>((X2 (zs.take k):Nat):Int)
theorem aiZ(zs:List Str)(n:Nat):bB zs (n+1)=bB zs n++[((X2 (zs.take n):Nat):Int)]:=by
 unfold bB;rw [List.range_succ,D8];rfl
theorem yX(zs:List Str)(n:Nat):(bB zs n).length=n:=by unfold bB;rw [A6,List.length_range]
theorem yY(zs:List Str)(h:k<n):(bB zs n)[k]?=some ((X2 (zs.take k):Nat):Int):=by
 unfold bB;rw [O7,List.getElem?_range h];rfl
noncomputable def yZ (K:PySem.W.Frag):Sp:=fun vs H Q _=>∃ (a:Addr) (zs:List Str),vs=[.ref a]/\D9 K H a (zs.map V.str)/\zs.length<=1000/\(∀ z∈zs,z.length<=1000)/\∀ l H',H l=none->Same H H'->H' l=some (.lst ((bB zs (zs.length+1)).map V.int))->Q (.ref l) H'
noncomputable def dueB (ms zs:List Str) (i:Nat):Bool:=match zs[i]? with
 | some z=>!decide (z∈ms)
 | none=>false
noncomputable def dueL (ms zs:List Str):Nat->List Int
 | 0=>[0]
 | i+1=>if (dueB ms zs i&&decide (0<i))=true then dueL ms zs i++[((X2 (zs.take i):Nat):Int)] else dueL ms zs i
noncomputable def dueF (ms zs:List Str):List Int:=if zs.length=0 then [0] else dueL ms zs zs.length++[((X2 zs:Nat):Int)]
noncomputable def jntB (ms zs:List Str) (i:Nat):Bool:=decide (i=0) || decide (i=zs.length) || dueB ms zs i
noncomputable def jntL (ms zs:List Str):Nat->List Int
 | 0=>[]
 | i+1=>if jntB ms zs i=true then jntL ms zs i++[((X2 (zs.take i):Nat):Int)] else jntL ms zs i
theorem ai0(ms zs:List Str):∀ i,(jntL ms zs i).length<=i
 | 0=>B3 _
 | i+1=>by
  unfold jntL
  have:=ai0 ms zs i
  split
  .rw [C1,O4];lia
  .lia
theorem alx(ms zs:List Str):∀ i,i<zs.length->jntL ms zs (i+1)=dueL ms zs (i+1)
 | 0,h=>by
  unfold jntL dueL;rw [if_pos (by simp [jntB]),if_neg (by simp)];rfl
 | i+1,h=>by
  have ih:=alx ms zs i 'a';unfold jntL dueL;rw [ih];have e:jntB ms zs (i+1)=(dueB ms zs (i+1)&&decide (0<i+1)):=by
   unfold jntB;rw [decide_eq_false 'a',decide_eq_false 'a',decide_eq_true 'a']
   simp
  rw [e]
theorem aly(ms zs:List Str):jntL ms zs (zs.length+1)=dueF ms zs:=by
 unfold dueF
 by_cases h:zs.length=0
 .rw [if_pos h,h];unfold jntL;rw [if_pos (by simp [jntB])]
  have:zs=[]:=q9.mp h
  subst this;rfl
 .rw [if_neg h];obtain ⟨n,hn⟩:∃ n,zs.length=n+1:=⟨zs.length-1,by lia⟩
  have:=alx ms zs n 'a'
  rw [<- hn] at this;rw [jntL,if_pos (by simp [jntB]),this,K9]
theorem amZ(G:RulG ns ls ms R)(p:Str):(if p∈keysP (C7 R)++U6 R then jobG (g6 R) p else V.non)=V.str "mark"↔p∈ms:=by
 constructor
 .intro h
  by_cases hk:p∈keysP (C7 R)++U6 R
  .rw [if_pos hk] at h;unfold jobG at h
   by_cases hb:p=" "
   .rw [if_pos hb] at h;exact absurd (V.str.inj h) 'c'
   .rw [if_neg hb] at h
    rcases kZ hk with e | hp
    .exact absurd e hb
    .obtain ⟨⟨q,j⟩,hq,rfl⟩:=E2.mp hp;rw [G.job hq] at h
     have:j="mark":=V.str.inj h
     subst this;exact G.mark.mp hq
  .rw [if_neg hk] at h;cases h
 .intro h;have hp:=G.mark.mpr h;have hm:p∈(C7 R).map (·.1):=E2.mpr ⟨_,hp,rfl⟩;have hk:p∈keysP (C7 R)++U6 R:=yU hm;have hb:p≠" ":=fun e=>by
   obtain ⟨k,hk⟩:=G.pc hm;rw [e] at hk;exact hk.blank
  rw [if_pos hk];unfold jobG;rw [if_neg hb,G.job hp]
theorem nS{w:Bool} : ∀ (n:Nat) (l:List Nat),l.length<=n->∀ y∈(cutF w g l).2,1<=y.length
 | n,l,h=>by
  intro y hy;cases e:partF w g l with
  | none=>rw [aV e] at hy;cases hy
  | some z=>
   obtain ⟨rest,h1,h2,h3⟩:=v7 e;rw [h2] at hy;have hl:z.length+rest.length=l.length:=by rw [h1,C1,lenL]
   rcases F6.mp hy with rfl | hy
   .exact h3
   .match n,h with
    | 0,h=>lia
    | n+1,h=>exact nS n rest 'a' y hy
noncomputable def spIsJ (C:Addr):Sp:=fun vs H Q _=>∃ (x j ll ml md a:Addr) (i:Nat) (zs:List Str) (ns:List Int) (R:List Rl) (L M:List Str),vs=[.ref x,.ref a,.int i]/\IsOrd C H x j ll ml md (g6 R) R L M/\RulG ns L M R/\H a=some (.lst (zs.map V.str))/\i<=zs.length/\Q (.bl (jntB M zs i)) H
noncomputable def ai1 (C:Addr):Sp:=fun vs H Q _=>∃ (x j ll ml md:Addr) (z:Str) (ns:List Int) (R:List Rl) (L M:List Str),vs=[.ref x,.str z]/\IsOrd C H x j ll ml md (g6 R) R L M/\RulG ns L M R/\z.length<=500/\c9 (hasW R "figures") (D7 R) z/\
 ∀ l H',H l=none->Same H H'->H' l=some (.lst ((dueF M (cutF (hasW R "figures") (D7 R) z.cps.toList).2).map V.int))->Q (.ref l) H'
theorem alz{w:Bool}{rest rest2:List Nat}(h:partF w g (y.cps.toList++rest)=some y)(hp:rest2 <+: rest):partF w g (y.cps.toList++rest2)=some y:=by
 obtain ⟨_,_,hy⟩:=yK h;rw [<- lenL] at hy;obtain ⟨c,ys,e⟩:∃ c ys,y.cps.toList=c::ys:=by
  cases q:y.cps.toList with
  | nil=>rw [q] at hy;cases hy
  | cons c ys=>exact ⟨c,ys,rfl⟩
 obtain ⟨r3,rfl⟩:=hp;rw [e,gD,eK] at h ⊢
 by_cases hw:(w&&figO c)=true
 .rw [if_pos hw] at h ⊢
  have h1:=congrArg (fun s:Str=>s.cps.toList) (Option.some.inj h);have h2:(c::(ys++(rest2++r3))).takeWhile figO=c::ys:=by rw [<- e];exact h1
  have N4:∀ x∈c::ys,figO x=true:=fun x hx=>by
   rw [<- h2] at hx;exact List.all_eq_true.mp List.all_takeWhile x hx
  have h3:(c::ys++(rest2++r3)).takeWhile figO=c::ys:=h2;rw [List.takeWhile_append_of_pos N4] at h3;have h4:(rest2++r3).takeWhile figO=[]:=by
   have:=congrArg Z8 h3
   rw [C1] at this;exact q9.mp 'a'
  have h5:rest2.takeWhile figO=[]:=by
   cases rest2 with
   | nil=>rfl
   | cons a r=>
    by_cases ha:figO a=true
    .rw [gD,qZ ha] at h4;cases h4
    .exact List.takeWhile_cons_of_neg ha
  have h6:(c::(ys++rest2)).takeWhile figO=c::ys:=by
   show (c::ys++rest2).takeWhile figO=c::ys;rw [List.takeWhile_append_of_pos N4,h5,G7]
  rw [h6,<- e]
 .rw [if_neg hw] at h ⊢
  cases ys with
  | cons d t=>
   rw [gD,c0] at h ⊢
   exact h
  | nil=>
   have hone:∀ d,y≠L8 c d:=fun d q=>by rw [q] at e;cases e
   cases rest2 with
   | cons d r=>
    rw [bT,gD,c0] at h;rw [bT,c0];exact h
   | nil=>
    rw [G7,eJ];rw [bT,bT] at h
    cases r3 with
    | nil=>rw [eJ] at h;exact h
    | cons d r=>
     rw [c0] at h
     by_cases q:L8 c d∈g
     .rw [if_pos q] at h;exact absurd (Option.some.inj h).symm (hone d)
     .rw [if_neg q] at h;exact h
noncomputable def flatZ (zs:List Str):List Nat:=zs.flatMap fun z=>z.cps.toList
theorem zA(z:Str)(zs:List Str):flatZ (z::zs)=z.cps.toList++flatZ zs:=rfl
theorem tE(xs ys:List Str):flatZ (xs++ys)=flatZ xs++flatZ ys:=by unfold flatZ;rw [Z4]
theorem alA{w:Bool}{rest:List Nat}(h:partF w g (y.cps.toList++rest)=some y):cutF w g (y.cps.toList++rest)=((cutF w g rest).1+y.length,y::(cutF w g rest).2):=by
 obtain ⟨r,e1,e2,_⟩:=v7 h;rw [e2,List.append_cancel_left e1]
theorem tF{w:Bool}{g:List Str} : ∀ (n:Nat) (l:List Nat),l.length<=n->flatZ (cutF w g l).2 <+: l
 | n,l,hl=>by
  cases h:partF w g l with
  | none=>rw [aV h];exact List.nil_prefix
  | some y=>
   obtain ⟨r,e1,e2,e3⟩:=v7 h;rw [e2,zA]
   cases n with
   | zero=>rw [e1,C1,lenL] at hl;lia
   | succ n=>
    have:=tF (w:=w) (g:=g) n r (by rw [e1,C1,lenL] at hl;lia)
    rw [e1];exact (List.prefix_append_right_inj _).mpr this
theorem ai2{w:Bool}{g:List Str} : ∀ (n:Nat) (l:List Nat),l.length<=n->∀ i,cutF w g (flatZ ((cutF w g l).2.take i))=((flatZ ((cutF w g l).2.take i)).length,(cutF w g l).2.take i)
 | n,l,hl,i=>by
  cases h:partF w g l with
  | none=>rw [aV h,List.take_nil];rfl
  | some y=>
   obtain ⟨r,e1,e2,e3⟩:=v7 h;rw [e2]
   cases i with
   | zero=>rfl
   | succ i=>
    cases n with
    | zero=>rw [e1,C1,lenL] at hl;lia
    | succ n=>
     have hr:r.length<=n:=by rw [e1,C1,lenL] at hl;lia
     have ih:=ai2 (w:=w) (g:=g) n r hr i;have hp:flatZ ((cutF w g r).2.take i) <+: r:=List.IsPrefix.trans (by
      conv=>rhs;rw [<- V0 i (cutF w g r).2,tE]
      exact List.prefix_append _ _) (tF n r hr)
     rw [e1] at h;rw [List.take_succ_cons,zA,alA (alz h hp),ih,C1,lenL,Nat.add_comm]
theorem ahd{w : Bool}{g : List Str} : ∀ (n : Nat) (l : List Nat), l.length <= n -> ∀ i, i <= (cutF w g l).2.length -> (cutF w g (l.drop (flatZ ((cutF w g l).2.take i)).length)).2 = (cutF w g l).2.drop i
  | n, l, hl, i, hi => by
    cases h : partF w g l with
    | none => rw [aV h] at hi ⊢; obtain rfl : i = 0 := by simpa using hi
              show (cutF w g (l.drop 0)).2 = _;rw [List.drop_zero, aV h]; rfl
    | some y =>
      obtain ⟨r, e1, e2, e3⟩ := v7 h;rw [e2] at hi ⊢
      cases i with
      | zero => show (cutF w g (l.drop 0)).2 = _
                rw [List.drop_zero, e2]; rfl
      | succ i =>
        cases n with
        | zero => rw [e1, C1, lenL] at hl; lia
        | succ n =>
          have hr : r.length <= n := by rw [e1, C1, lenL] at hl; lia
          have ih := ahd (w := w) (g := g) n r hr i (by simpa using hi);rw [List.take_succ_cons, zA, C1, e1, <- List.drop_drop, List.drop_left, mN];exact ih
theorem am0{w:Bool}(l:List Nat)(hij:i<=j)(hj:j<=(cutF w g l).2.length) :
  (l.drop (flatZ ((cutF w g l).2.take i)).length).take ((flatZ ((cutF w g l).2.take j)).length-(flatZ ((cutF w g l).2.take i)).length)=flatZ (((cutF w g l).2.take j).drop i)/\
  cutF w g (flatZ (((cutF w g l).2.take j).drop i))=((flatZ (((cutF w g l).2.take j).drop i)).length,((cutF w g l).2.take j).drop i):=by
 have hd:=ahd (w:=w) (g:=g) _ l (B3 _) i 'a';have e1:((cutF w g l).2.take j).drop i=((cutF w g l).2.drop i).take (j-i):=by rw [List.drop_take]
 have e2:(cutF w g l).2.take j=(cutF w g l).2.take i++((cutF w g l).2.take j).drop i:=by
  conv=>lhs;rw [<- V0 i ((cutF w g l).2.take j),List.take_take,bX hij]
 constructor
 .have hf:=tF (w:=w) (g:=g) _ l (B3 _);obtain ⟨t,ht⟩:=hf;generalize (cutF w g l).2=zs at *;rw [show (flatZ (zs.take j)).length=(flatZ (zs.take i)).length+(flatZ ((zs.take j).drop i)).length by rw [<- C1,<- tE,<- e2],mT]
  have:l=flatZ (zs.take i)++(flatZ ((zs.take j).drop i)++(flatZ (zs.drop j)++t)):=by
   rw [<- Q1,<- tE,<- e2,<- Q1,<- tE,V0,ht]
  conv=>lhs;rw [this]
  rw [List.drop_left,List.take_left]
 .rw [e1,<- hd];exact ai2 _ _ (B3 _) _
noncomputable def Grow (U V:List E1):Prop:=U.length<=V.length/\∀ k,k+1<U.length->V[k]?=U[k]?
theorem uaq(U:List E1):Grow U U:=⟨B3 _,fun _ _=>rfl⟩
theorem Grow.trans{V:List E1}(a:Grow U V)(b:Grow V W):Grow U W:=
 ⟨F8 a.1 b.1,fun k hk=>by rw [b.2 k (Q9 hk a.1),a.2 k hk]⟩
theorem alB(U:List E1)(s:Tr):Grow U (addS U s):=by
 unfold addS
 by_cases h:s.1=0
 .rw [if_pos h];unfold addM;cases e:U.getLast? with
  | none=>rw [List.getLast?_eq_none_iff.mp e];exact ⟨F9 _,fun k hk=>absurd hk (Nat.not_lt_zero _)⟩
  | some u=>
   refine ⟨by simp only [C1,List.length_dropLast,O4];lia,fun k hk=>?_⟩;rw [dQ (by rw [List.length_dropLast];lia),List.getElem?_dropLast,if_pos 'a']
 .rw [if_neg h];exact ⟨by rw [C1];lia,fun k hk=>dQ 'a'⟩
theorem zB:∀ (ts:List Tr) (U:List E1),Grow U (ts.foldl addS U)
 | [],U=>uaq U
 | t::ts,U=>(alB U t).trans (zB ts (addS U t))
noncomputable def seenK (s:Nat) (u:E1):List (List Int):=[[u.1,u.2.1],u.2.2.1,[u.2.2.2]].take s
theorem oC{α β γ δ:Type}{f:α->β}{g:α->γ}{h:α->δ}(q:∀ u v,f u=f v↔g u=g v/\h u=h v):∀ U V:List α,U.map f=V.map f↔U.map g=V.map g/\U.map h=V.map h
 | [],[]=>by simp
 | [],_::_=>by simp
 | _::_,[]=>by simp
 | u::U,v::V=>by
  have ih:=oC q U V;simp only [G1,k4.injEq];rw [ih,q u v];exact ⟨fun ⟨⟨a,b⟩,c,d⟩=>⟨⟨a,c⟩,b,d⟩,fun ⟨⟨a,c⟩,b,d⟩=>⟨⟨a,b⟩,c,d⟩⟩
theorem aqa{α β γ:Type}{f:α->β}{g:α->γ}(q:∀ u v,f u=f v↔g u=g v)(U V:List α):U.map f=V.map f↔U.map g=V.map g:=by
 have:=oC (f:=f) (g:=g) (h:=g) (fun u v=>(q u v).trans ⟨fun e=>⟨e,e⟩,fun e=>e.1⟩) U V
 exact this.trans ⟨fun e=>e.1,fun e=>⟨e,e⟩⟩
theorem am1(U V:List E1):U.map (seenK 1)=V.map (seenK 1)↔(U.map fun u=>[u.1,u.2.1])=V.map fun u=>[u.1,u.2.1]:=
 aqa (fun u v=>by simp [seenK]) U V
theorem am2(U V:List E1):U.map (seenK 2)=V.map (seenK 2)↔((U.map fun u=>[u.1,u.2.1])=V.map fun u=>[u.1,u.2.1])/\(U.map fun u=>u.2.2.1)=V.map fun u=>u.2.2.1:=
 oC (fun u v=>by simp [seenK]) U V
theorem afH(hs:3<=s)(U V:List E1):U.map (seenK s)=V.map (seenK s)↔((U.map fun u=>[u.1,u.2.1])=V.map fun u=>[u.1,u.2.1])/\((U.map fun u=>u.2.2.1)=V.map fun u=>u.2.2.1)/\(U.map fun u=>u.2.2.2)=V.map fun u=>u.2.2.2:=by
 have e:∀ u,seenK s u=[[u.1,u.2.1],u.2.2.1,[u.2.2.2]]:=fun u=>Z2 hs
 have h2:=oC (f:=seenK s) (g:=fun u=>[u.1,u.2.1]) (h:=fun u:E1=>(u.2.2.1,u.2.2.2)) (fun u v=>by simp [e]) U V;have h3:=oC (f:=fun u:E1=>(u.2.2.1,u.2.2.2)) (g:=fun u=>u.2.2.1) (h:=fun u=>u.2.2.2) (fun u v=>by simp) U V;rw [h2,h3]
theorem am3{ds ds':List LvD}(l1:n<=ds.length)(l2:n<=ds'.length):cmpF n ds ds'=0↔∀ k,k<n->ds[k]?=ds'[k]?:=⟨fun h=>alv h l1 l2,ahb⟩
theorem am4{bh:Bool}{U':List E1}(h1:1<=s)(h4:s<=4):cmpF s (W5 bh U z) (W5 bh U' z')=0↔U.map (seenK s)=U'.map (seenK s)/\(s=4->z=z'):=by
 rw [am3 h4 h4];have d0:(W5 bh U z)[0]?=(W5 bh U' z')[0]?↔(U.map fun u=>[u.1,u.2.1])=U'.map fun u=>[u.1,u.2.1]:=by
  show some (LvD.tt _)=some (LvD.tt _)↔_
  simp
 have d1:(W5 bh U z)[1]?=(W5 bh U' z')[1]?↔(U.map fun u=>u.2.2.1)=U'.map fun u=>u.2.2.1:=by
  show some (LvD.tt _)=some (LvD.tt _)↔_
  cases bh
  .simp
  .simp only [if_true,Option.some.injEq,LvD.tt.injEq,List.map_reverse,List.reverse_inj]
 have d2:(W5 bh U z)[2]?=(W5 bh U' z')[2]?↔(U.map fun u=>u.2.2.2)=U'.map fun u=>u.2.2.2:=by
  show some (LvD.ii _)=some (LvD.ii _)↔_
  simp
 have d3:(W5 bh U z)[3]?=(W5 bh U' z')[3]?↔z=z':=by
  show some (LvD.ss _)=some (LvD.ss _)↔_
  simp
 rcases (show s=1\/s=2\/s=3\/s=4 by lia) with rfl | rfl | rfl | rfl
 .rw [am1,<- d0];refine ⟨fun h=>⟨h 0 (by decide),by simp⟩,fun h k hk=>?_⟩;obtain rfl:k=0:=by lia
  exact h.1
 .rw [am2,<- d0,<- d1];refine ⟨fun h=>⟨⟨h 0 (by decide),h 1 (by decide)⟩,by simp⟩,fun h k hk=>?_⟩
  rcases (show k=0\/k=1 by lia) with rfl | rfl
  .exact h.1.1
  .exact h.1.2
 .rw [afH (by decide),<- d0,<- d1,<- d2];refine ⟨fun h=>⟨⟨h 0 (by decide),h 1 (by decide),h 2 (by decide)⟩,by simp⟩,fun h k hk=>?_⟩
  rcases (show k=0\/k=1\/k=2 by lia) with rfl | rfl | rfl
  .exact h.1.1
  .exact h.1.2.1
  .exact h.1.2.2
 .rw [afH (by decide),<- d0,<- d1,<- d2,<- d3];refine ⟨fun h=>⟨⟨h 0 (by decide),h 1 (by decide),h 2 (by decide)⟩,fun _=>h 3 (by decide)⟩,fun h k hk=>?_⟩
  rcases (show k=0\/k=1\/k=2\/k=3 by lia) with rfl | rfl | rfl | rfl
  .exact h.1.1
  .exact h.1.2.1
  .exact h.1.2.2
  .exact h.2 rfl
noncomputable def SeenAt (H:Hp) (s:Nat) (a:Addr) (u:E1):Prop:=∃ m,H m=some (.tup (u.2.2.1.map V.int))/\H a=some (.tup ([V.int u.1,V.int u.2.1,.ref m,V.int u.2.2.2].take (s+1)))
noncomputable def tG (K:PySem.W.Frag):Sp:=fun vs H Q _=>∃ (a m:Addr) (s:Nat) (u:E1),vs=[.ref a,.int s]/\s<=4/\H a=some (.tup [V.int u.1,V.int u.2.1,.ref m,V.int u.2.2.2])/\(H m=some (.lst (u.2.2.1.map V.int))\/H m=some (.tup (u.2.2.1.map V.int)))/\u.2.2.1.length<=10000/\∀ l H',H l=none->Same H H'->SeenAt H' s l u->Q (.ref l) H'
noncomputable def seenD (s:Nat) (u:E1):PyData:=.tuple ([f9 u.1,.int u.2.1,.tuple (u.2.2.1.map f9),.int u.2.2.2].take (s+1))
theorem DnAll.take{ds:List PyData}(h:DnAll K H xs ds)(n:Nat):DnAll K H (xs.take n) (ds.take n):=by
 induction n generalizing xs ds with
 | zero=>exact .nil
 | succ n ih=>
  cases h with
  | nil=>exact .nil
  | cons a b=>exact .cons a (ih b)
theorem SeenAt.dn{u:E1}(h:SeenAt H s a u):Dn K H (.ref a) (seenD s u):=by
 obtain ⟨m,h1,h2⟩:=h;exact .tup (.of h2) (DnAll.take (.cons (.int _) (.cons (.int _) (.cons (.tup (.of h1) aO) (.cons (.int _) .nil)))) _)
theorem SeenAt.same{u:E1}(h:SeenAt H s a u)(S:Same H H'):SeenAt H' s a u:=
 let ⟨m,h1,h2⟩:=h
 ⟨m,S _ _ h1,S _ _ h2⟩
theorem SeenAt.mod{D:Addr}{u:E1}{o:HO}(h:SeenAt H s a u)(hD:H D=some (.lst xs)):SeenAt (A0 H D o) s a u:=
 let ⟨m,h1,h2⟩:=h
 ⟨m,by rw [A9 (fun e=>by rw [e,hD] at h1;cases h1)];exact h1,by rw [A9 (fun e=>by rw [e,hD] at h2;cases h2)];exact h2⟩
theorem afI(s:Nat)(u:E1):(seenD s u).depth<=2:=by
 have hd:(PyData.tuple (u.2.2.1.map f9)).depth=1:=by rw [U5,cI]
 unfold seenD;rw [U5]
 match s with
 | 0=>simp [V9,U5]
 | 1=>simp [V9,U5]
 | 2=>simp [V9,U5,cI]
 | k+3=>simp [V9,U5,cI]
theorem ai4(hs:1<=s)(u v:E1):(seenD s u).eqv (seenD s v)=decide (seenK s u=seenK s v):=by
 unfold seenD seenK;rw [aK]
 match s,hs with
 | 1,_=>simp [O9,R6]
 | 2,_=>simp [O9,R6,kA,and_assoc]
 | k+3,_=>simp [O9,R6,kA,and_assoc]
noncomputable def AlkAt (s:Nat) (U W:List E1) (k:Nat):Prop:=(U.map (seenK s))[k]?=(W.map (seenK s))[k]?
noncomputable def spCnt (K:PySem.W.Frag):Sp:=fun vs H Q _=>∃ (a b:Addr) (s n:Nat) (es:List (Addr×Addr)) (ws:List Addr) (U W:List E1),vs=[.ref a,.ref b,.int s,.int n]/\1<=s/\s<=4/\H a=some (.lst (es.map fun e=>V.ref e.1))/\Paired (UnAt H) es U/\H b=some (.lst (ws.map V.ref))/\Paired (SeenAt H s) ws W/\U.length<=10000/\W.length<=10000/\(∀ u∈U,u.2.2.1.length<=10000)/\n<=10000/\
 ∀ (n':Nat) H',Same H H'->n<=n'->(∀ k,n<=k->k<n'->AlkAt s U W k/\k+1<U.length/\k<W.length)->(n'+1<U.length->n'<W.length->¬ AlkAt s U W n')->Q (.int n') H'
theorem uam{l:Addr}{es:List (Addr×Addr)}{o:HO}(h:UnI H1 H md es U)(hl:H1 l=some (.lst xs)):UnI (A0 H1 l o) (A0 H l o) md es U:=by
 have hn:∀ a∈md::es.map (·.2),a≠l:=fun a ha e=>by
  have:=h.new a ha
  rw [e,hl] at this
  cases this
 have hH:=h.same _ _ hl;refine ⟨by rw [A9 (hn md O0)];exact h.top,?_,h.nd,fun a ha=>by rw [A9 (hn a ha)];exact h.new a ha,fun a ob ha=>?_⟩
 .refine kI h.row fun e he u q=>⟨?_,?_⟩
  .rw [A9 (fun z=>by have:=q.1;rw [z,hH] at this;cases this)];exact q.1
  .rw [A9 (hn e.2 (M6 _ (E2.mpr ⟨e,he,rfl⟩)))];exact q.2
 .by_cases z:a=l
  .rw [z,A5] at ha ⊢
   exact ha
  .rw [A9 z] at ha ⊢
   exact h.same _ _ ha
theorem ahe(xs:List V):cutV xs (some (-1)) none=xs.drop (xs.length-1):=by
 unfold cutV;have e1:HT.sIx xs.length 0 (some (-1))=xs.length-1:=by
  unfold HT.sIx
  simp
  lia
 have e2:HT.sIx xs.length xs.length none=xs.length:=rfl;rw [e1,e2,Z2 (by rw [U3];lia)]
theorem nP{α β:Type}{F:α->β->Prop} : ∀ {xs:List α} {ys:List β} (n:Nat),Paired F xs ys->Paired F (xs.drop n) (ys.drop n)
 | _,_,0,h=>h
 | _,_,n+1,.nil=>.nil
 | _,_,n+1,.cons _ t=>nP n t
noncomputable def T6 (S:Str->List Tr) (zs:List Str) (f at':Nat):List E1:=P5 S ((zs.take at').drop f)
noncomputable def hitB (S:Str->List Tr) (s:Nat) (ms zs:List Str) (W:List E1) (f at':Nat):Bool:=decide ((T6 S zs f at').map (seenK s)=W.map (seenK s))&&jntB ms zs at'
noncomputable def endsF (S:Str->List Tr) (s:Nat) (ms zs:List Str) (W:List E1) (f:Nat):Nat->List Nat
 | 0=>[]
 | i+1=>if hitB S s ms zs W f (f+i)=true then endsF S s ms zs W f i++[f+i] else endsF S s ms zs W f i
theorem ai5{f:Nat}(hf:f<=at')(hy:zs[at']?=some y):T6 S zs f (at'+1)=(S y).foldl addS (T6 S zs f at'):=by
 have hl:=(I0.mp hy).1;unfold T6 P5;rw [K7 hy,List.drop_append_of_le_length (by rw [E9];lia),Z4,aF]
 simp
theorem aqb{f:Nat} : T6 S zs f f=[]:=by
 unfold T6;rw [jI (by rw [E9];lia)];rfl
theorem ai6{f:Nat}(hf:f<=at'):∀ {n:Nat},at'+n<=zs.length->Grow (T6 S zs f at') (T6 S zs f (at'+n))
 | 0,_=>uaq _
 | n+1,h=>by
  have hy:zs[at'+n]?=some (zs[at'+n]'(by lia)):=G5 _;rw [<- Nat.add_assoc,ai5 'a' hy];exact (ai6 hf 'a').trans (zB _ _)
theorem ahf{S:Str->List Tr}{zs:List Str}{f:Nat}(hk:k+1<(T6 S zs f (f+i)).length)(hd:¬ AlkAt s (T6 S zs f (f+i)) W k):∀ n,f+i+n<=zs.length+1->endsF S s ms zs W f (i+n)=endsF S s ms zs W f i
 | 0,_=>rfl
 | n+1,h=>by
  rw [<- Nat.add_assoc,endsF,if_neg,ahf hk hd n 'a'];intro q;unfold hitB at q;rw [U4,decide_eq_true_eq] at q;have g:=ai6 (S:=S) (zs:=zs) (f:=f) (at':=f+i) 'a' (n:=n) 'a';refine hd ?_;unfold AlkAt;rw [<- q.1,<- Nat.add_assoc,O7,O7,g.2 k hk]
theorem zC : ∀ {vs:List Addr} {U:List E1},Paired (SeenAt H s) vs U->DnAll K H (vs.map V.ref) (U.map (seenD s))
 | _,_,.nil=>.nil
 | _,_,.cons h t=>.cons h.dn (zC t)
theorem ae7(s:Nat):∀ U:List E1,V9 (U.map (seenD s))<=2
 | []=>F9 _
 | u::U=>by
  have h1:=ae7 s U;have h2:=afI s u;rw [G1,V9];lia
theorem ahg(hs:1<=s):∀ U W:List E1,R6 (U.map (seenD s)) (W.map (seenD s))=decide (U.map (seenK s)=W.map (seenK s))
 | [],[]=>rfl
 | [],_::_=>rfl
 | _::_,[]=>rfl
 | u::U,w::W=>by
  rw [G1,G1,R6,ai4 hs,ahg hs U W,G1,G1]
  by_cases h1:seenK s u=seenK s w
  .by_cases h2:U.map (seenK s)=W.map (seenK s)
   .simp [h1,h2]
   .simp [h1,h2]
  .simp [h1]
theorem am5(h:∀ k<n,AlkAt s U W k):(U.map (seenK s)).take n=(W.map (seenK s)).take n:=by
 apply List.ext_getElem?
 intro k
 by_cases hk:k<n
 .rw [rB hk,rB hk];exact h k hk
 .rw [List.getElem?_eq_none (by rw [E9];lia),List.getElem?_eq_none (by rw [E9];lia)]
theorem tH{S:Str->List Tr}{s:Nat}{ms zs:List Str}{W:List E1}{f:Nat} : ∀ i,(endsF S s ms zs W f i).length<=i
 | 0=>B3 _
 | i+1=>by
  have:=tH (S:=S) (s:=s) (ms:=ms) (zs:=zs) (W:=W) (f:=f) i
  unfold endsF
  split
  .rw [C1,O4];lia
  .lia
noncomputable def anB (C:Addr):Sp:=fun vs H Q _=>∃ (x j ll ml md a b:Addr) (f s:Nat) (ws:List Addr) (zs:List Str) (ns:List Int) (R:List Rl) (L M:List Str) (W:List E1),vs=[.ref x,.ref a,.int f,.ref b,.int s]/\1<=s/\s<=4/\IsOrd C H x j ll ml md (g6 R) R L M/\RulG ns L M R/\H a=some (.lst (zs.map V.str))/\f<=zs.length/\zs.length<=500/\(∀ y∈zs,1<=y.length/\y.length<=500)/\(hasW R "figures"=true->∀ y∈zs,FigR y)/\(∀ y,(stepY R L M y).length<=15)/\H b=some (.lst (ws.map V.ref))/\Paired (SeenAt H s) ws W/\W.length<=10000/\
 ∀ l H',H l=none->Same H H'->H' l=some (.lst ((endsF (stepY R L M) s M zs W f (zs.length+1-f)).map fun n:Nat=>V.int n))->Q (.ref l) H'
noncomputable def g9 (S:Str->List Tr) (s:Nat) (ms zs:List Str) (W:List E1):Nat->List (Nat×Nat)
 | 0=>[]
 | f+1=>g9 S s ms zs W f++(if jntB ms zs f=true then (endsF S s ms zs W f (zs.length+1-f)).map fun e=>(f,e) else [])
noncomputable def G0 (zs:List Str) (i:Nat):Int:=((X2 (zs.take i):Nat):Int)
structure IsPr(H:Hp)(l:Addr)(ps:List Addr)(zs:List Str)(P:List (Nat×Nat)):Prop where
 top:H l=some (.lst (ps.map V.ref))
 row:Paired (fun p e=>H p=some (.tup [V.int (G0 zs e.1),V.int (G0 zs e.2)])) ps P
theorem IsPr.same{l:Addr}{ps:List Addr}{P:List (Nat×Nat)}(h:IsPr H l ps zs P)(S:Same H H'):IsPr H' l ps zs P:=⟨S _ _ h.top,L0 h.row fun _ _ e=>S _ _ e⟩
theorem ai7{S:Str->List Tr}{s:Nat}{ms zs:List Str}{W:List E1}{f:Nat} : ∀ i,∀ e∈endsF S s ms zs W f i,e<f+i
 | 0,e,h=>by cases h
 | i+1,e,h=>by
  have ih:=ai7 (S:=S) (s:=s) (ms:=ms) (zs:=zs) (W:=W) (f:=f) i;unfold endsF at h
  split at h
  .rcases E4.mp h with h | h
   .have:=ih e h;lia
   .have:=G2.mp h;lia
  .have:=ih e h;lia
theorem zD{S:Str->List Tr}{s:Nat}{ms zs:List Str}{W:List E1} : ∀ f,(g9 S s ms zs W f).length<=(zs.length+1)*f
 | 0=>B3 _
 | f+1=>by
  have ih:=zD (S:=S) (s:=s) (ms:=ms) (zs:=zs) (W:=W) f;have h:=tH (S:=S) (s:=s) (ms:=ms) (zs:=zs) (W:=W) (f:=f) (zs.length+1-f);unfold g9;rw [C1,Nat.mul_succ]
  split
  .rw [A6];lia
  .rw [Z5];lia
noncomputable def lE (s:Nat) (zs:List Str) (z z':Str) (P:List (Nat×Nat)):List (Nat×Nat):=if s<4 then P else P.filter fun e=>decide (cutS z' (some (G0 zs e.1)) (some (G0 zs e.2))=z)
noncomputable def tI (C:Addr):Sp:=fun vs H Q _=>∃ (x j ll ml md:Addr) (z z':Str) (s:Nat) (ns:List Int) (R:List Rl) (L M:List Str),vs=[.ref x,.str z,.str z',.int s]/\1<=s/\s<=4/\IsOrd C H x j ll ml md (g6 R) R L M/\RulG ns L M R/\z.length<=300/\z'.length<=300/\c9 (hasW R "figures") (D7 R) z/\c9 (hasW R "figures") (D7 R) z'/\
 ∀ l ps H',H l=none->Same H H'->IsPr H' l ps (cutF (hasW R "figures") (D7 R) z'.cps.toList).2 (lE s (cutF (hasW R "figures") (D7 R) z'.cps.toList).2 z z' (g9 (stepY R L M) s M (cutF (hasW R "figures") (D7 R) z'.cps.toList).2 (P5 (stepY R L M) (cutF (hasW R "figures") (D7 R) z.cps.toList).2) ((cutF (hasW R "figures") (D7 R) z'.cps.toList).2.length+1)))->Q (.ref l) H'
theorem zE(zs:List Str):(flatZ zs).length=X2 zs:=by
 unfold X2
 induction zs with
 | nil=>rfl
 | cons y zs ih=>
  show (y.cps.toList++flatZ zs).length=_;rw [C1,ih,lenL,G1,List.sum_cons]
theorem alC{w:Bool}{f e:Nat}(iV:f<=e)(he:e<=(cutF w ks z.cps.toList).2.length) :
  (cutS z (some (G0 (cutF w ks z.cps.toList).2 f)) (some (G0 (cutF w ks z.cps.toList).2 e))).cps.toList=flatZ (((cutF w ks z.cps.toList).2.take e).drop f)/\(cutS z (some (G0 (cutF w ks z.cps.toList).2 f)) (some (G0 (cutF w ks z.cps.toList).2 e))).length<=z.length/\cutF w ks (cutS z (some (G0 (cutF w ks z.cps.toList).2 f)) (some (G0 (cutF w ks z.cps.toList).2 e))).cps.toList=((cutS z (some (G0 (cutF w ks z.cps.toList).2 f)) (some (G0 (cutF w ks z.cps.toList).2 e))).length,((cutF w ks z.cps.toList).2.take e).drop f):=by
 obtain ⟨h1,h2⟩:=am0 (w:=w) (g:=ks) z.cps.toList iV he;have m7:=tF (w:=w) (g:=ks) _ z.cps.toList (B3 _);generalize (cutF w ks z.cps.toList).2=zs at *;have n8:∀ i,X2 (zs.take i)<=z.length:=fun i=>by
  have h3:(flatZ (zs.take i)).length<=(flatZ zs).length:=by
   have:flatZ zs=flatZ (zs.take i)++flatZ (zs.drop i):=by
    show zs.flatMap _=(zs.take i).flatMap _++(zs.drop i).flatMap _;rw [<- Z4,V0]
   rw [this,C1];lia
  have h4:=m7.length_le;rw [lenL] at h4;rw [<- zE];lia
 have e1:(cutS z (some (G0 zs f)) (some (G0 zs e))).cps.toList=flatZ ((zs.take e).drop f):=by
  have a1:HT.sIx z.length 0 (some (G0 zs f))=X2 (zs.take f):=by unfold G0;rw [HT.sIx_nat];have:=n8 f;lia
  have a2:HT.sIx z.length z.length (some (G0 zs e))=X2 (zs.take e):=by unfold G0;rw [HT.sIx_nat];have:=n8 e;lia
  rw [wV,a1,a2,<- zE,<- zE];exact h1
 have l1:(cutS z (some (G0 zs f)) (some (G0 zs e))).length=(flatZ ((zs.take e).drop f)).length:=by rw [<- lenL,e1]
 refine ⟨e1,?_,?_⟩
 .rw [l1,<- h1,E9,U3,lenL];lia
 .rw [e1,h2,l1]
noncomputable def cS:List Nat->List (Nat×Nat)
 | []=>[]
 | f::r=>((f::r).map fun e=>(f,e))++cS r
noncomputable def dT (c:Nat->Nat->Bool):List Nat->List (Nat×Nat)
 | []=>[]
 | f::r=>(((f::r).filter (c f)).map fun e=>(f,e))++dT c r
theorem ahh(p:Nat->Bool)(c:Nat->Nat->Bool):∀ X:List Nat,((cS X).filter fun e=>p e.1&&(p e.2&&c e.1 e.2))=dT c (X.filter p)
 | []=>rfl
 | f::r=>by
  have ih:=ahh p c r;show (((f::r).map fun e=>(f,e))++cS r).filter _=_;rw [Y1,ih,List.filter_map]
  by_cases h:p f=true
  .rw [aE h];show _=(((f::r.filter p).filter (c f)).map fun e=>(f,e))++dT c (r.filter p);rw [<- aE h,List.filter_filter];refine congrArg (·++_) (congrArg _ (mP fun e _=>?_));simp [h,Bool.and_comm]
  .rw [bR h,show ((f::r).filter ((fun e=>p e.1&&(p e.2&&c e.1 e.2))∘fun e=>(f,e)))=[] from fY.mpr fun e _=>by simp [h]];rfl
noncomputable def iD (zs:List Str) (e:Nat×Nat):PyData:=.tuple [f9 (G0 zs e.1),f9 (G0 zs e.2)]
theorem zF : ∀ {ps:List Addr} {P:List (Nat×Nat)},Paired (fun p e=>H p=some (.tup [V.int (G0 zs e.1),V.int (G0 zs e.2)])) ps P->DnAll K H (ps.map V.ref) (P.map (iD zs))
 | _,_,.nil=>.nil
 | _,_,.cons h t=>.cons (.tup (.of h) (.cons (.int _) (.cons (.int _) .nil))) (zF t)
theorem ai8(zs:List Str):∀ P:List (Nat×Nat),V9 (P.map (iD zs))<=1
 | []=>F9 _
 | e::P=>by
  have:=ai8 zs P
  rw [G1,V9];have h:(iD zs e).depth<=1:=by unfold iD;simp [U5,V9]
  lia
theorem anC(zs:List Str):∀ P:List (Nat×Nat),R6 (P.map (iD zs)) (P.map (iD zs))=true
 | []=>rfl
 | e::P=>by
  rw [G1,R6,anC zs P];unfold iD;simp [O9,R6]
noncomputable def v8 (ms zs:List Str) (n:Nat):List Nat:=(aI n).filter fun i=>jntB ms zs i
theorem alE(ms zs:List Str):∀ n,jntL ms zs n=(v8 ms zs n).map (G0 zs)
 | 0=>rfl
 | n+1=>by
  unfold jntL v8;rw [List.range_succ,Y1,D8,<- v8,<- alE ms zs n]
  by_cases h:jntB ms zs n=true
  .rw [if_pos h,aE h];rfl
  .rw [if_neg h,bR h,jN,bV,G7]
noncomputable def dP (c:Nat->Nat->Bool) (J:List Nat):Nat->List (Nat×Nat)
 | 0=>[]
 | k+1=>dP c J k++(match J[k]? with | some f=>((J.drop k).filter (c f)).map fun e=>(f,e) | none=>[])
theorem dP_dT(c:Nat->Nat->Bool)(J:List Nat):∀ k,k<=J.length->dP c J k++dT c (J.drop k)=dT c J
 | 0,_=>rfl
 | k+1,h=>by
  have ih:=dP_dT c J k 'a';have hk:J[k]?=some J[k]:=G5 'a';rw [aD (show k<J.length by lia)] at ih;show (dP c J k++(match J[k]? with | some f=>((J.drop k).filter (c f)).map fun e=>(f,e) | none=>[]))++_=_;rw [hk,<- ih,Q1,aD (show k<J.length by lia)];rfl
theorem afJ{f:Nat} : ∀ i,endsF S s ms zs W f i=(aH f i).filter fun e=>hitB S s ms zs W f e
 | 0=>rfl
 | i+1=>by
  rw [List.range'_1_concat,Y1,<- afJ i];show (if hitB S s ms zs W f (f+i)=true then endsF S s ms zs W f i++[f+i] else endsF S s ms zs W f i)=_
  by_cases h:hitB S s ms zs W f (f+i)=true
  .rw [if_pos h,aE h,jN]
  .rw [if_neg h,bR h,jN,G7]
theorem fd_tl{S:Str->List Tr}{s:Nat}{ms zs:List Str}{W:List E1} : ∀ k,k<=zs.length+1->g9 S s ms zs W k++((cS (aH k (zs.length+1-k))).filter fun e=>jntB ms zs e.1&&hitB S s ms zs W e.1 e.2)=(cS (aH 0 (zs.length+1))).filter fun e=>jntB ms zs e.1&&hitB S s ms zs W e.1 e.2
 | 0,_=>rfl
 | k+1,h=>by
  have ih:=fd_tl (S:=S) (s:=s) (ms:=ms) (zs:=zs) (W:=W) k 'a';have hr:aH k (zs.length+1-k)=k::aH (k+1) (zs.length+1-(k+1)):=by
   rw [show zs.length+1-k=(zs.length+1-(k+1))+1 by lia];rfl
  rw [hr] at ih;show (g9 S s ms zs W k++(if jntB ms zs k=true then (endsF S s ms zs W k (zs.length+1-k)).map fun e=>(k,e) else []))++_=_;rw [<- ih,Q1,afJ,hr];refine congrArg (g9 S s ms zs W k++·) ?_;show _=(((k::aH (k+1) (zs.length+1-(k+1))).map fun e=>(k,e))++cS (aH (k+1) (zs.length+1-(k+1)))).filter _;rw [Y1,List.filter_map];refine congrArg (·++_) ?_
  by_cases hj:jntB ms zs k=true
  .rw [if_pos hj];refine congrArg _ (mP fun e _=>?_);simp [hj]
  .rw [if_neg hj,show ((k::aH (k+1) (zs.length+1-(k+1))).filter ((fun e=>jntB ms zs e.1&&hitB S s ms zs W e.1 e.2)∘fun e=>(k,e)))=[] from fY.mpr fun e _=>by simp [hj]];rfl
theorem anD:∀ {X:List Nat},X.Pairwise (· < ·)->∀ {e:Nat×Nat},e∈cS X->e.1<=e.2/\e.2∈X
 | [],_,e,h=>by cases h
 | f::r,hp,e,h=>by
  rcases E4.mp h with h | h
  .obtain ⟨m,hm,rfl⟩:=E2.mp h;refine ⟨?_,hm⟩
   rcases F6.mp hm with q | q
   .exact Nat.le_of_eq q.symm
   .exact gE ((List.pairwise_cons.mp hp).1 m q)
  .obtain ⟨a,b⟩:=anD (List.pairwise_cons.mp hp).2 h;exact ⟨a,M6 _ b⟩
theorem aqc{c:Nat->Nat->Bool}(h4:s<=4)(hc:∀ f e,f<=e->e<=zs.length->(c f e=true↔(W.map (seenK s)=(T6 S zs f e).map (seenK s)/\(s=4->z=cutS z' (some (G0 zs f)) (some (G0 zs e)))))) :
  lE s zs z z' (g9 S s ms zs W (zs.length+1))=dP c (v8 ms zs (zs.length+1)) (v8 ms zs (zs.length+1)).length:=by
 have a1:=fd_tl (S:=S) (s:=s) (ms:=ms) (zs:=zs) (W:=W) (zs.length+1) (B3 _);rw [Nat.sub_self,show cS (aH (zs.length+1) 0)=[] from rfl,jN,G7] at a1;have a2:=dP_dT c (v8 ms zs (zs.length+1)) _ (B3 _);rw [List.drop_length,show dT c []=[] from rfl,G7] at a2;rw [a1,a2];unfold v8;rw [<- ahh,List.range_eq_range'];have mem:∀ e∈cS (aH 0 (zs.length+1)),e.1<=e.2/\e.2<=zs.length:=fun e he=>by
  obtain ⟨m1,m2⟩:=anD (by rw [<- List.range_eq_range'];exact List.pairwise_lt_range) he;rw [<- List.range_eq_range'] at m2;exact ⟨m1,by have:=dS.mp m2;lia⟩
 unfold lE
 by_cases hs:s<4
 .rw [if_pos hs];refine mP fun e he=>?_
  obtain ⟨m1,m2⟩:=mem e he;have h:=hc e.1 e.2 m1 m2;rw [aK];unfold hitB;simp only [U4,decide_eq_true_eq,h]
  constructor
  .rintro ⟨x1,x2,x3⟩;exact ⟨x1,x3,x2.symm,fun q=>absurd q 'a'⟩
  .rintro ⟨x1,x2,x3,_⟩;exact ⟨x1,x3.symm,x2⟩
 .rw [if_neg hs,List.filter_filter];refine mP fun e he=>?_
  obtain ⟨m1,m2⟩:=mem e he;have h:=hc e.1 e.2 m1 m2;rw [aK];unfold hitB;simp only [U4,decide_eq_true_eq,h]
  constructor
  .rintro ⟨x0,x1,x2,x3⟩;exact ⟨x1,x3,x2.symm,fun _=>x0.symm⟩
  .rintro ⟨x1,x2,x3,x4⟩;exact ⟨(x4 'a').symm,x1,x3.symm,x2⟩
section
variable {P:Program} {w:World} {K:PySem.W.Frag} {mg:Str->Option Value} {base:Heap} {C:Addr}
theorem sc_told:FnScope ["rows", "seen", "row", "piece"] ["rows"] (C3 aX):=G3
abbrev VS(N:List Str)(s:Stmt)(x:Str)(n:Nat):Prop:=∀ {X:Cx} {pos:Pos},X.N=N->X.env.scope=C3 s->QE X (.Name x pos) (tVar n)
theorem vq{s:Stmt}{x:Str}(h:(decide (N[n]?=some x)&&visB (C3 s) x && !(x==("__debug__" : Str)) && !(x==("__classdict__" : Str)))=true:=by decide +kernel):VS N s x n:=fun hN hs=>qvd hN hs h
theorem vi{s:Stmt}{x:Str}{pos:Pos}(h:VS N s x n)(h1:X.N=N:=by rfl)(h2:X.env.scope=C3 s:=by rfl):QE X (.Name x pos) (tVar n):=h h1 h2
abbrev LS(s:Stmt)(x:Str):Prop:=o4 (C3 s) x
theorem lq{s:Stmt}{x:Str}(h:(C3 s).names.lookup x=some .local\/(C3 s).names.lookup x=some .cell:=by decide +kernel):LS s x:=h
abbrev tJ:List Str:=["rows", "seen", "row", "piece"]
theorem vaa:VS tJ aX "rows" 0:=vq
theorem vab:VS tJ aX "seen" 1:=vq
theorem vac:VS tJ aX "row" 2:=vq
theorem vad:VS tJ aX "piece" 3:=vq
theorem vae:LS aX "seen":=lq
theorem vaf:LS aX "row":=lq
theorem vag:LS aX "piece":=lq
theorem aqd(F:FunD K "told" "told" aX f fd)(T:Txt P w K mg C):FnOk P w K mg base E8 1 f fd ["rows"] anr:=by
 refine F.ok sc_told ?_ ?_
 .rintro _ _ _ _ ⟨a,rs,zss,rfl,_⟩;rfl
 .intro cdv A outer s H vs Q E hr h;have C4:=hu_of hr;have hu:=hr.units;refine ⟨_,QSs.out (A7 (D0 (n:=1) sc_told.nd rfl vae gO)
   (A7 (M0 PassesOwn.never (O2 (K:=K) (vi vaa)) (D6 (n:=2) sc_told.nd rfl vaf (.inl rfl)) (A8 (M0 PassesOwn.never (O2 (K:=K) (vi vac)) (D6 (n:=3) sc_told.nd rfl vag (.inl rfl)) (A8 (b0 C4 (vi vab) (vi vad) qe_bl)))))
   (A8 (E7 (qe_cT (aT (K:=K) (calm:=true)) T.b_list u7 (qa_c (vi vab) A3)))))),?_⟩
  obtain ⟨a,rs,zss,rfl,hR,hz,q⟩:=h;walk_at "rd";intro d nd;have hlz:∀ n:Nat,n<=100000->n<sizeLine:=fun n h=>K1 'a'
  refine ⟨⟨_,.of (D3 hR.top nd)⟩,forL (xs:=rs.map V.ref) (fun i Y H2=>∃ (u v:Option V),Y=[some (.ref a),some (.ref d),u,v]/\Same H H2/\H2 d=some (.dK (kvOf (toldL (zss.take i)))))
   ⟨none,none,rfl,Same.new nd,by rw [A5];rfl⟩ (by rintro i Y H2 _ ⟨_,_,_,S,_⟩;exact .of (S _ _ hR.top)) ?_ ?_⟩
  .rintro i x Y H2 hx ⟨u,v,rfl,S,hd⟩;obtain ⟨r,hr,rfl⟩:=G4 hx;obtain ⟨zs,bL,C8⟩:=Paired.at hR.row hr;have hcount:(toldL (zss.take i)).length+zs.length<=100000:=by
    have h1:zss.take (i+1)=zss.take i++[zs]:=by rw [r0,bL];rfl
    have h2:=nI (zss.take i);have h3:(zss.take (i+1)).flatten.length<=zss.flatten.length:=by
     conv=>rhs;rw [<- V0 (i+1) zss]
     rw [mL,C1];lia
    rw [h1,mL,C1] at h3;simp at h3;simp at h2 hz h3 ⊢
    lia
   walk_at "rd";refine ⟨⟨_,.of (S _ _ C8)⟩,forL (xs:=zs.map V.str) (fun j Y H3=>∃ (v:Option V),Y=[some (.ref a),some (.ref d),some (.ref r),v]/\Same H H3/\H3 d=some (.dK (kvOf (G6 (toldL (zss.take i)) (zs.take j)))))
    ⟨v,rfl,S,hd⟩ (by rintro j Y H3 _ ⟨_,_,S3,_⟩;exact .of (S3 _ _ C8)) ?_ ?_⟩
   .rintro j y Y H3 hy ⟨v,rfl,S3,f7⟩;obtain ⟨z,bJ,rfl⟩:=G4 hy;walk_at "rd";refine ⟨_,cG (k:=Sum.inr z) f7 ?_,S3.put nd,?_⟩
    .unfold kvOf;rw [A6];refine hlz _ ?_
     have:=eC (zs.take j) (toldL (zss.take i))
     rw [E9] at this;lia
    .rw [A5,agE,amt bJ]
   .rintro Y H3 ⟨v,rfl,S3,f7⟩;walk_at "rd";refine ⟨S3,?_⟩;rw [f7,akv bL,A6,K9]
  .rintro Y H2 ⟨u,v,rfl,S,hd⟩;walk_at "rd";refine rListR.d (.of hd) fun l nl=>?_
   refine q l _ (S.free nl) (fun b o h=>D3 (S b o h) nl) ?_;rw [A5,akw,A6];rw [show rs.length=zss.length from Paired.length hR.row,K9]
theorem sc_followers:FnScope ["rows", "after", "piece", "row", "one", "other"] ["rows"] (C3 g7):=G3
abbrev lF:List Str:=["rows", "after", "piece", "row", "one", "other"]
theorem vah:VS lF g7 "rows" 0:=vq
theorem zG:VS lF g7 "after" 1:=vq
theorem vaj:VS lF g7 "piece" 2:=vq
theorem vak:VS lF g7 "row" 3:=vq
theorem vam:VS lF g7 "one" 4:=vq
theorem van:VS lF g7 "other" 5:=vq
theorem vao:LS g7 "after":=lq
theorem vap:LS g7 "piece":=lq
theorem vaq:LS g7 "row":=lq
theorem var:LS g7 "one":=lq
theorem vas:LS g7 "other":=lq
theorem ahi(F:FunD K "followers" "followers" g7 f fd)(T:Txt P w K mg C)(G_told:FO P w K mg base 1 "told" ["rows"] [] anr):FnOk P w K mg base E8 2 f fd ["rows"] spFol:=by
 refine F.ok sc_followers ?_ ?_
 .rintro _ _ _ _ ⟨a,rs,zss,rfl,_⟩;rfl
 .intro cdv A outer s H vs Q E hr h;have C4:=hu_of hr;have hu:=hr.units;refine ⟨_,QSs.out (A7 (D0 (n:=1) sc_followers.nd rfl vao gO)
   (A7 (M0 PassesOwn.never (O2 (K:=K) (D1 G_told (hm hr) (qa_c (vi vah) A3))) (D6 (n:=2) sc_followers.nd rfl vap (.inl rfl)) (A8 (b0 C4 (vi zG) (vi vaj) (M7 A3))))
   (A7 (M0 PassesOwn.never (O2 (K:=K) (vi vah)) (D6 (n:=3) sc_followers.nd rfl vaq (.inl rfl)) (A8 (M0 PassesOwn.never (arv T.b_zip (qa_c (vi vak) (qa_c (M5 (K:=K) (vi vak) (K2 A4) P9) A3))) (aR (K:=K) (n:=2) (R8 ((D6 (n:=4) sc_followers.nd rfl var (.inl rfl))) (R8 ((D6 (n:=5) sc_followers.nd rfl vas (.inl rfl))) aQ))) (A8 (P3 (qe_mB (K:=K) R4 V3 V2 V5 (g0 C4 (vi zG) (vi vam)) (qa_c (vi van) A3)))))))
   (A8 (E7 (vi zG)))))),?_⟩
  obtain ⟨a,rs,zss,rfl,hR,hz,q⟩:=h;walk_at "rd";intro d nd;have S0:Same H (A0 H d (.dK [])):=Same.new nd;refine ⟨a,rs,zss,rfl,hR.same S0,hz,fun l H1 nl S1 hl=>?_⟩;have y4:H1 d=some (.dK []):=S1 _ _ A5;have S01:=S0.trans S1;have B1:(toldL zss).length<=100000:=F8 (nI zss) hz;have tnd:=kM zss;refine ⟨l,rfl,⟨_,.of hl⟩,forL (xs:=(toldL zss).map V.str) (fun i Y H2=>∃ (u v w x:Option V) (ad:Str->Addr),Y=[some (.ref a),some (.ref d),u,v,w,x]/\SameBut d H1 H2/\H2 d=some (.dK (B5 ((toldL zss).take i) fun t=>.ref (ad t)))/\DL H1 H2 ((toldL zss).take i) ad fun _=>[])
   ⟨none,none,none,none,fun _=>0,rfl,ual _ _,y4,⟨fun t h=>by simp at h,fun t h=>by simp at h,fun t h=>by simp at h⟩⟩ (fun i Y H2 _ ⟨_,_,_,_,_,_,S,_⟩=>.of (S _ _ (fun e=>by rw [e,y4] at hl;cases hl) hl)) ?_ ?_⟩
  .rintro i x Y H2 hx ⟨u,v,w,y,ad,rfl,S,hd,dl⟩;obtain ⟨z,hk,rfl⟩:=G4 hx;have hi:i<(toldL zss).length:=(I0.mp hk).1;have Q8:=xL tnd hk;walk_at "rd";refine fun p np=>⟨_,cG (k:=Sum.inr z) (D3 hd np) (by rw [k9,E9];exact K1 'a'),?_⟩
   have n1:H1 p=none:=S.free np (fun e=>by rw [e,hd] at np;cases np);refine ⟨(S.put n1).at,fun t=>if t=z then p else ad t,?_,?_⟩
   .rw [A5,eF _ Q8,K7 hk];have e:(fun t=>if t=z then V.ref p else V.ref (ad t))=fun t=>V.ref (if t=z then p else ad t):=by funext t;split <;> rfl
    rw [e]
   .rw [K7 hk];exact ((dl.more Q8 np n1).congr fun t _=>by split <;> rfl).put y4
  .rintro Y H2 ⟨u,v,w,y,ad,rfl,S,hd,dl⟩;rw [A6,K9] at hd dl;have S2:Same H H2:=S.same S01 nd;walk_at "rd";have dl0:DL H H2 (toldL zss) ad fun _=>[]:=dl.old S01
   refine ⟨⟨_,.of (S2 _ _ hR.top)⟩,forL (xs:=rs.map V.ref) (fun i Y H3=>∃ (v w x:Option V),Y=[some (.ref a),some (.ref d),u,v,w,x]/\Same H H3/\H3 d=some (.dK (B5 (toldL zss) fun t=>.ref (ad t)))/\DL H H3 (toldL zss) ad (G9 (edges (zss.take i))))
    ⟨v,w,y,rfl,S2,hd,dl0⟩ (by rintro i Y H3 _ ⟨_,_,_,_,S,_⟩;exact .of (S _ _ hR.top)) ?_ ?_⟩
   .rintro i x Y H3 hx ⟨v,w,y,rfl,S3,f7,bM⟩;obtain ⟨r,hr,rfl⟩:=G4 hx;obtain ⟨zs,bL,C8⟩:=Paired.at hR.row hr;have fH:=S3 _ _ C8;have K4:∀ x∈zs,x∈toldL zss:=fun x hx=>(xI _ _).mpr (List.mem_flatten.mpr ⟨zs,L6 bL,hx⟩)
    walk_at "rd";refine rSlR.l (.of fH) fun p np=>?_
    have ecut:cutV (zs.map V.str) (some 1) none=zs.tail.map V.str:=by
     have:=o7 (zs.map V.str) 1
     rw [show ((1:Nat):Int)=1 from rfl] at this;rw [this,<- W7,List.drop_one]
    rw [ecut];have iW:H p=none:=S3.free np;have nad:∀ t∈toldL zss,ad t≠p:=fun t ht e=>by have:=bM.row t ht;rw [e,np] at this;cases this
    have nadr:∀ t∈toldL zss,ad t≠r:=fun t ht e=>by have:=bM.new t ht;rw [e,C8] at this;cases this
    have ndp:d≠p:=fun e=>by rw [<- e,f7] at np;cases np
    have nadd:∀ t∈toldL zss,ad t≠d:=fun t ht e=>by have:=bM.row t ht;rw [e,f7] at this;cases this
    refine ⟨p,rfl,⟨_,D3 fH np⟩,⟨_,A5⟩,forZ (xs:=zs.map V.str) (ys:=zs.tail.map V.str) (fun j Y H4=>∃ (w x:Option V),Y=[some (.ref a),some (.ref d),u,some (.ref r),w,x]/\Same H H4/\H4 p=some (.lst (zs.tail.map V.str))/\H4 d=some (.dK (B5 (toldL zss) fun t=>.ref (ad t)))/\DL H H4 (toldL zss) ad (G9 (edges (zss.take i)++(V6 zs).take j)))
     ⟨w,y,rfl,S3.put iW,A5,D3 f7 np,?_⟩ (by rintro j Y H4 ⟨_,_,_,S,hp,_⟩;exact ⟨S _ _ C8,hp⟩) ?_ ?_⟩
    .rw [Z6,G7];exact bM.same (Same.new np)
    .rintro j xv yv t Y H4 hxv hyv ⟨w,v,rfl,S4,fI,i9,lW⟩ nt;obtain ⟨x,hx,rfl⟩:=G4 hxv;obtain ⟨y,hy,rfl⟩:=G4 hyv;have lX:=K4 x (L6 hx);have nt0:H t=none:=S4.free nt;have hlx:=lW.row x lX;have hE:(V6 zs)[j]?=some (x,y):=agN hx hy;walk_at "rd";refine ⟨_,.of A5,rfl,_,_,rfl,_,_,rfl,rfl,V.ref (ad x),.inl ⟨_,Sum.inr x,.inl (D3 i9 nt),rfl,by rw [Q4,if_pos lX]⟩,R7 (D3 hlx nt),appOk (D3 hlx nt) ?_ ⟨(S4.put nt0).put (lW.new x lX),?_,?_,?_⟩⟩
     .rw [A6];refine K1 ?_;have h1:(G9 (edges (zss.take i)++(V6 zs).take j) x).length<=(edges (zss.take i)++(V6 zs).take j).length:=by
       unfold G9;rw [A6];exact fZ _ _
      have h2:=agO (zss.take i);have h3:(zss.take i).flatten.length<=zss.flatten.length:=by
       conv=>rhs;rw [<- V0 i zss]
       rw [mL,C1];lia
      have h4:zs.length<=zss.flatten.length:=List.Sublist.length_le (List.sublist_flatten_of_mem (L6 bL));rw [C1,E9,xK] at h1;lia
     .rw [A9 (nad x lX).symm];exact D3 fI nt
     .rw [A9 (nadd x lX).symm];exact D3 i9 nt
     .have h1:=(lW.same (Same.new (u:=.tup [V.str x,V.str y]) nt)).app lX (G9 (edges (zss.take i)++(V6 zs).take j) x++[y]);rw [D8] at h1;refine h1.congr fun t _=>?_
      rw [K7 hE,<- Q1,amG]
      by_cases e:t=x
      .rw [if_pos e,if_pos e.symm,e]
      .rw [if_neg e,if_neg (fun z=>e z.symm)]
    .rintro Y H4 ⟨w,x,rfl,S4,fI,i9,lW⟩;walk_at "rd";refine ⟨S4,i9,?_⟩;rw [ajq bL];rw [Z2 (l:=V6 zs) (by rw [xK,A6,A6];exact B3 _)] at lW;exact lW
   .rintro Y H3 ⟨v,w,y,rfl,S3,f7,bM⟩;rw [A6,show rs.length=zss.length from Paired.length hR.row,K9] at bM;walk_at "rd";exact q d ad H3 nd S3 f7 bM
theorem sc_count_ahead:FnScope ["after", "ahead", "piece", "other"] ["after"] (C3 aY):=G3
abbrev tK:List Str:=["after", "ahead", "piece", "other"]
theorem zH:VS tK aY "after" 0:=vq
theorem zI:VS tK aY "ahead" 1:=vq
theorem vav:VS tK aY "piece" 2:=vq
theorem vaw:VS tK aY "other" 3:=vq
theorem vax:LS aY "ahead":=lq
theorem vay:LS aY "piece":=lq
theorem vaz:LS aY "other":=lq
theorem afe(F:FunD K "count_ahead" "count_ahead" aY f fd)(T:Txt P w K mg C):FnOk P w K mg base E8 1 f fd ["after"] akK:=by
 refine F.ok sc_count_ahead ?_ ?_
 .rintro _ _ _ _ ⟨d,ts,ad,E,rfl,_⟩;rfl
 .intro cdv A outer s H vs Q E hr h;have C4:=hu_of hr;have hu:=hr.units;refine ⟨_,QSs.out (A7 (D0 (n:=1) sc_count_ahead.nd rfl vax gO)
   (A7 (xF PassesOwn.never (vi zH) (D6 (n:=2) sc_count_ahead.nd rfl vay (.inl rfl)) (A8 (b0 C4 (vi zI) (vi vav) A4)))
   (A7 (xF PassesOwn.never (vi zH) (D6 (n:=2) sc_count_ahead.nd rfl vay (.inl rfl)) (A8 (M0 PassesOwn.never (O2 (K:=K) (g0 C4 (vi zH) (vi vav))) (D6 (n:=3) sc_count_ahead.nd rfl vaz (.inl rfl)) (A8 (akz C4 (vi zI) (vi vaw) A4 aro)))))
   (A8 (E7 (vi zI)))))),?_⟩
  obtain ⟨d,ts,ad,E,rfl,hd,tnd,B1,hElen,C8,hE,q⟩:=h;walk_at "rd";intro c nc;have ndc:d≠c:=fun e=>by rw [e,nc] at hd;cases hd
  refine ⟨_,D3 hd nc,fun o=>forD (fun i Y H2=>∃ (u v:Option V),Y=[some (.ref d),some (.ref c),u,v]/\H2 d=some (.frz o (.dK (B5 ts fun t=>.ref (ad t))))/\SameBut d H H2/\H2 c=some (.dK (B5 (ts.take i) fun _=>.int 0)))
   ⟨none,none,rfl,A5,(SameBut.put (ual _ _) nc).at,by rw [A9 ndc.symm,A5];rfl⟩ (by rintro i Y H2 ⟨_,_,_,h,_⟩;exact h) ?_ ?_⟩
  .rintro i k v Y H2 hk ⟨u,w,rfl,hf,S,hc⟩;obtain ⟨t,ht,rfl,rfl⟩:=sD hk;have hi:i<ts.length:=(I0.mp ht).1;walk_at "rd";refine ⟨_,cG (k:=Sum.inr t) hc (by rw [k9,E9];exact K1 'a'),?_,S.put nc,?_⟩
   .rw [A9 ndc];exact hf
   .rw [A5,eF _ (xL tnd ht),K7 ht];exact congrArg (fun x=>some (HO.dK x)) (W1 fun t _=>by split <;> rfl)
  .rintro Y H2 ⟨u,w,rfl,hf,S,hc⟩;rw [k9,K9] at hc;have S2:Same H (A0 H2 d (.dK (B5 ts fun t=>.ref (ad t)))):=S.thaw hd;have T7:A0 H2 d (.dK (B5 ts fun t=>.ref (ad t))) d=some (.dK (B5 ts fun t=>.ref (ad t))):=A5;have Y9:A0 H2 d (.dK (B5 ts fun t=>.ref (ad t))) c=some (.dK (B5 ts fun _=>.int 0)):=by rw [A9 ndc.symm];exact hc
   generalize A0 H2 d (.dK (B5 ts fun t=>.ref (ad t)))=H3 at S2 T7 Y9;walk_at "rd";refine ⟨_,T7,fun o=>forD (fun i Y H4=>∃ (u v:Option V),Y=[some (.ref d),some (.ref c),u,v]/\H4 d=some (.frz o (.dK (B5 ts fun t=>.ref (ad t))))/\SameBut d H H4/\H4 c=some (.dK (B5 ts fun t=>.int (cntIn E (ts.take i) t:Nat))))
    ⟨u,w,rfl,A5,fun b o hb h=>by rw [A9 hb];exact S2 b o h,?_⟩ (by rintro i Y H2 ⟨_,_,_,h,_⟩;exact h) ?_ ?_⟩
   .rw [A9 ndc.symm,Y9];exact congrArg (fun x=>some (HO.dK x)) (W1 fun t _=>by rw [Z6,akJ];rfl)
   .rintro i k v Y H4 hk ⟨u,w,rfl,hf,S4,bN⟩;obtain ⟨t,ht,rfl,rfl⟩:=sD hk;have pT:t∈ts:=L6 ht;have hl4:H4 (ad t)=some (.lst ((G9 E t).map V.str)):=S4 _ _ (fun e=>by have:=C8 t pT;rw [e,hd] at this;cases this) (C8 t pT);walk_at "rd";refine ⟨V.ref (ad t),.inl ⟨_,Sum.inr t,.inr ⟨o,hf⟩,rfl,by rw [Q4,if_pos pT]⟩,ad t,rfl,⟨_,.of hl4⟩,forL (xs:=(G9 E t).map V.str) (fun j Y H5=>∃ (v:Option V),Y=[some (.ref d),some (.ref c),some (kV (Sum.inr t)),v]/\H5 d=some (.frz o (.dK (B5 ts fun t=>.ref (ad t))))/\SameBut d H H5/\
     H5 c=some (.dK (B5 ts fun q=>.int (cntIn E (ts.take i) q+((G9 E t).take j).count q:Nat)))) ⟨w,rfl,hf,S4,by rw [bN];rfl⟩ (fun j Y H5 _ ⟨_,_,_,S5,_⟩=>.of (S5 _ _ (fun e=>by have:=C8 t pT;rw [e,hd] at this;cases this) (C8 t pT))) ?_ ?_⟩
    .rintro j v5 Y H5 hv5 ⟨v,rfl,hf5,S5,j0⟩;obtain ⟨y,lY,rfl⟩:=G4 hv5;have fJ:y∈ts:=by
      have:=L6 lY
      unfold G9 at this;obtain ⟨e,he,rfl⟩:=E2.mp this;exact (hE e (Q2.mp he).1).2
     walk_at "rd";refine ⟨V.int (cntIn E (ts.take i) y+((G9 E t).take j).count y:Nat),.inl ⟨_,Sum.inr y,.inl j0,rfl,by rw [Q4,if_pos fJ]⟩,_,_,rfl,rfl,_,cG (k:=Sum.inr y) j0 (by rw [k9];exact K1 'a'),?_,S5.put nc,?_⟩
     .rw [A9 ndc];exact hf5
     .rw [A5,nJ _ fJ];refine congrArg (fun x=>some (HO.dK x)) (W1 fun q _=>?_);rw [K7 lY,List.count_append,List.count_singleton]
      by_cases e:q=y
      .rw [if_pos e,e,if_pos (by simp)];exact congrArg V.int 'a'
      .rw [if_neg e,if_neg (by simpa using fun z:y=q=>e z.symm)];rfl
    .rintro Y H5 ⟨v,rfl,hf5,S5,j0⟩;walk_at "rd";refine ⟨hf5,S5,?_⟩;rw [A6,K9] at j0;rw [j0];refine congrArg (fun x=>some (HO.dK x)) (W1 fun q _=>?_);rw [K7 ht,ajo (xL tnd ht)]
   .rintro Y H4 ⟨u,w,rfl,hf,S4,bN⟩;rw [k9,K9] at bN;walk_at "rd";refine q c _ nc (S4.thaw hd) ?_;rw [A9 ndc.symm,bN];exact congrArg (fun x=>some (HO.dK x)) (W1 fun t _=>by rw [akI (fun e he=>(hE e he).1)])
theorem sc_lined_up:FnScope ["rows", "after", "ahead", "pieces", "numbers", "free", "line", "number", "other"] ["rows"] (C3 U0):=G3
abbrev cT:List Str:=["rows", "after", "ahead", "pieces", "numbers", "free", "line", "number", "other"]
theorem vaA:VS cT U0 "rows" 0:=vq
theorem zJ:VS cT U0 "after" 1:=vq
theorem vaC:VS cT U0 "ahead" 2:=vq
theorem oE:VS cT U0 "pieces" 3:=vq
theorem vaE:VS cT U0 "numbers" 4:=vq
theorem tL:VS cT U0 "free" 5:=vq
theorem zK:VS cT U0 "line" 6:=vq
theorem zL:VS cT U0 "number" 7:=vq
theorem zM:VS cT U0 "other" 8:=vq
theorem vaJ:LS U0 "after":=lq
theorem vaK:LS U0 "ahead":=lq
theorem vaL:LS U0 "pieces":=lq
theorem vaM:LS U0 "numbers":=lq
theorem vaN:LS U0 "free":=lq
theorem vaO:LS U0 "line":=lq
theorem vaP:LS U0 "number":=lq
theorem vaQ:LS U0 "other":=lq
theorem ah1(F:FunD K "lined_up" "lined_up" U0 f fd)(T:Txt P w K mg C)(G_followers:FO P w K mg base 2 "followers" ["rows"] [] spFol)(G_count_ahead:FO P w K mg base 1 "count_ahead" ["after"] [] akK):FnOk P w K mg base E8 3 f fd ["rows"] akL:=by
 refine F.ok sc_lined_up ?_ ?_
 .rintro _ _ _ _ ⟨a,rs,zss,rank,rfl,_⟩;rfl
 .intro cdv A outer s H vs Q E hr h;have C4:=hu_of hr;have hu:=hr.units;refine ⟨_,QSs.out (A7 (D0 (n:=1) sc_lined_up.nd rfl vaJ (D1 G_followers (hm hr) (qa_c (vi vaA) A3)))
   (A7 (D0 (n:=2) sc_lined_up.nd rfl vaK (D1 G_count_ahead (hm hr) (qa_c (vi zJ) A3)))
   (A7 (D0 (n:=3) sc_lined_up.nd rfl vaL (qe_cT (aT (K:=K) (calm:=true)) T.b_list u7 (qa_c (vi zJ) A3)))
   (A7 (D0 (n:=4) sc_lined_up.nd rfl vaM (qe_cT (akG (K:=K) (calm:=true)) T.b_dict aku (qa_c (b9  (Q7:CompOk ["rows", "after", "ahead", "pieces", "numbers", "free", "line", "number", "other"] (C3 U0).names _ ["number", "piece"] 2 []) (kN T.b_enumerate (qa_c (vi oE) A3)) (fun _ _ _ _ _=>(aR (K:=K) (n:=2) (R8 (D6 (n:=0) (show List.Nodup (["number", "piece"]:List Str) by decide +kernel) rfl (Or.inl rfl)) (R8 (D6 (n:=1) (show List.Nodup (["number", "piece"]:List Str) by decide +kernel) rfl (Or.inl rfl)) aQ)))) (fun _ _ _ _ _=>b8) (fun _ _ _ _ _=>(M9 (qa_c (qv 1) (qa_c (qv 0) A3))))) A3)))
   (A7 (cJ (n:=5) sc_lined_up.nd rfl vaN (Q7:CompOk ["rows", "after", "ahead", "pieces", "numbers", "free", "line", "number", "other"] (C3 U0).names _ ["piece", "numbers", "ahead"] 1 [4,2]) (O2 (K:=K) (vi oE)) (fun _ _ _ _ _=>D6 (n:=0) (show List.Nodup (["piece", "numbers", "ahead"]:List Str) by decide +kernel) rfl (Or.inl rfl)) (fun _ _ _ _ _=>(aS (E5 (q_eq (K:=K) hu) (g0 C4 (qv 2) (qv 0)) A4))) (fun _ _ _ _ _=>(g0 C4 (qv 1) (qv 0))))
   (A7 (D0 (n:=6) sc_lined_up.nd rfl vaO (M7 A3))
   (A7 (rY PassesOwn.never (Y7 (K:=K) (vi tL)) (A7 (D0 (n:=7) sc_lined_up.nd rfl vaP (qe_cB (arG (calm:=true)) T.b_min anj (qa_c (vi tL) A3)))
   (A7 (P3 (qe_mB (K:=K) R4 PySem.F.slot_list_remove PySem.F.type_list_remove akX (vi tL) (qa_c (vi zL) A3)))
   (A7 (P3 (qe_mB (K:=K) R4 V3 V2 V5 (vi zK) (qa_c (qe_ix (K:=K) (vi oE) (vi zL)) A3)))
   (A8 (M0 PassesOwn.never (O2 (K:=K) (g0 C4 (vi zJ) (qe_ix (K:=K) (vi oE) (vi zL)))) (D6 (n:=8) sc_lined_up.nd rfl vaQ (.inl rfl)) (A7 (akz C4 (vi vaC) (vi zM) A4 arp)
   (A8 (qs_if (E5 (q_eq (K:=K) hu) (g0 C4 (vi vaC) (vi zM)) A4) (A8 (P3 (qe_mB (K:=K) R4 V3 V2 V5 (vi tL) (qa_c (g0 C4 (vi vaE) (vi zM)) A3)))) G8)))))))))
   (A7 (qs_if (E5 q_lt (qe_cB (q_len (K:=K)) T.b_len O1 (qa_c (vi zK) A3)) (qe_cB (q_len (K:=K)) T.b_len O1 (qa_c (vi oE) A3))) (A8 rX) G8)
   (A8 (E7 (vi zK))))))))))),?_⟩
  obtain ⟨a,rs,zss,rank,rfl,hR,hz,y7,q⟩:=h;walk_at "rd";have B1:(toldL zss).length<=100000:=F8 (nI zss) hz;have hElen:(edges zss).length<=100000:=F8 (agO zss) hz;have tnd:=kM zss;have etold:∀ e∈edges zss,e.1∈toldL zss/\e.2∈toldL zss:=fun e he=>xJ he
  refine ⟨a,rs,zss,rfl,hR,hz,fun d ad H1 nd S1 hd dl=>?_⟩;generalize hts:toldL zss=ts at *;generalize hEE:edges zss=E at *;refine ⟨d,ts,ad,E,rfl,hd,tnd,B1,hElen,dl.row,etold,fun c H2 nc S2 hc=>?_⟩;walk_at "rd";refine rListR.d (.of (S2 _ _ hd)) fun w nw=>?_
  rw [amH];have Z0:=S1.trans S2;have ncH:H c=none:=S1.free nc;have T7:=S2 _ _ hd;have ncd:c≠d:=fun e=>by rw [e,hd] at nc;cases nc
  have nac:∀ t∈ts,ad t≠c:=fun t ht e=>by have:=dl.row t ht;rw [e,nc] at this;cases this
  have uV:A0 H2 w (.lst (ts.map V.str)) w=some (.lst (ts.map V.str)):=A5;have Sw:Same H2 (A0 H2 w (.lst (ts.map V.str))):=Same.new nw;generalize A0 H2 w (.lst (ts.map V.str))=H3 at uV Sw ⊢
  have idx:∀ {i:Nat} {z:Str},ts[i]?=some z->ts.idxOf z=i:=fun {i z} h=>by
   obtain ⟨hi,rfl⟩:=I0.mp h;exact List.Nodup.idxOf_getElem tnd i hi
  refine ⟨w,rfl,⟨_,uV⟩,compE (xs:=ts.map V.str) [] rfl (fun D i ys H4=>∃ qs:List Addr,ys=qs.map V.ref/\Same H3 H4/\Paired (fun q t=>H4 q=some (.tup [.str t,.int (ts.idxOf t:Nat)])) qs (ts.take i)) (fun D nD=>⟨[],rfl,Same.new nD,.nil⟩) (by rintro D i ys H4 nD _ ⟨_,_,S,_⟩;exact S _ _ uV) ?_ ?_⟩
  .rintro D i x t ys H4 nD hi hx ⟨qs,rfl,S,P4⟩ hD hy nt;obtain ⟨z,hz,rfl⟩:=G4 hx;rw [A6] at hi hy;walk_at "rd";refine ⟨by decide,fun p np=>⟨D3 (D3 hD nt) np,by rw [A6];exact K1 'a',gT.put (by rw [A6];exact hi) (by rw [A6];exact hy) ⟨qs++[p],by rw [D8];rfl,((S.trans (Same.new nt)).trans (Same.new np)).put nD,?_⟩⟩⟩;rw [K7 hz];refine Paired.snoc (L0 P4 fun q t' h=>?_) ?_
   .rw [A9 (fun e=>by rw [e,hD] at h;cases h)];exact D3 (D3 h nt) np
   .rw [A9 (fun e=>by rw [e,D3 hD nt] at np;cases np),A5,idx hz]
  rintro D ys H4 nD ⟨qs,rfl,S34,P4⟩ hD hy;rw [A6,K9] at P4;refine ⟨rfl,D,qs,_,rfl,.of hD,aiH (f:=fun t=>.int (ts.idxOf t:Nat)) P4,fun nm nnm=>?_⟩;rw [show Y5 [] (B5 ts fun t=>V.int (ts.idxOf t:Nat))=B5 ts fun t=>V.int (ts.idxOf t:Nat) from agT (pre:=[]) (by simpa using tnd)];have S5:Same H2 (A0 H4 nm (.dK (B5 ts fun t=>V.int (ts.idxOf t:Nat)))):=(Sw.trans S34).trans (Same.new nnm);have cZ:A0 H4 nm (.dK (B5 ts fun t=>V.int (ts.idxOf t:Nat))) w=some (.lst (ts.map V.str)):=D3 (S34 _ _ uV) nnm;have hnm:A0 H4 nm (.dK (B5 ts fun t=>V.int (ts.idxOf t:Nat))) nm=some (.dK (B5 ts fun t=>V.int (ts.idxOf t:Nat))):=A5;have bN:H4 c=some (.dK (B5 ts fun t=>.int (K3 E [] t:Nat))):=S34 _ _ (Sw _ _ hc);have ncn:c≠nm:=fun e=>by rw [<- e,bN] at nnm;cases nnm
  generalize A0 H4 nm (.dK (B5 ts fun t=>V.int (ts.idxOf t:Nat)))=H5 at S5 cZ hnm ⊢
  have j0:=S5 _ _ hc;have hd5:=S5 _ _ T7;have p9:∀ t∈ts,H5 (ad t)=some (.lst ((G9 E t).map V.str)):=fun t ht=>S5 _ _ (S2 _ _ (dl.row t ht))
  have y3:=Z0.trans S5;have ncw:c≠w:=fun e=>by rw [e,cZ] at j0;cases j0
  refine ⟨w,rfl,⟨_,.of cZ⟩,compL (xs:=ts.map V.str) [some (.ref nm),some (.ref c)] rfl (fun D i ys H6=>∃ fr:List Int,ys=fr.map V.int/\Same H5 H6/\FS (ts.take i) [] (fun q=>K3 E [] q=0) fr) (fun D nD=>⟨[],rfl,Same.new nD,FS.nil _⟩) (by rintro D i ys H6 nD _ ⟨_,_,S,_⟩;exact .of (S _ _ cZ)) ?_ ?_⟩
  .rintro D i x ys H6 nD hi hx ⟨fr,rfl,S,F⟩ hD hy;obtain ⟨z,hz,rfl⟩:=G4 hx;have hzt:z∈ts:=L6 hz;have lZ:i<ts.length:=(I0.mp hz).1;rw [A6] at hy;have hs:=F.snoc (i:=i) (q:=z) (by rw [E9];lia) (by simp);rw [<- K7 hz] at hs;walk_at "rd";refine ⟨V.int (K3 E [] z:Nat),.inl ⟨_,Sum.inr z,.inl (S _ _ j0),rfl,by rw [Q4,if_pos hzt]⟩,?_⟩
   try walk_at "rd"
   refine iteD (fun h0=>⟨V.int (ts.idxOf z:Nat),.inl ⟨_,Sum.inr z,.inl (S _ _ hnm),rfl,by rw [Q4,if_pos hzt]⟩,hD,by rw [A6];exact K1 'a',CW.put hi (by rw [A6];exact hy) ⟨fr++[(i:Int)],by rw [D8,idx hz];rfl,S.put nD,hs.1 'a'⟩⟩) fun h0=>⟨hD,kG hi (by rw [A6];exact hy) ⟨fr,rfl,S,hs.2 'a'⟩⟩
  rintro f ys H6 nf ⟨fr,rfl,S56,F0⟩ hf6 hy;rw [A6,K9] at F0;intro ln nln;have nln5:H5 ln=none:=S56.free nln;have i8:f≠ln:=fun e=>by rw [e,nln] at hf6;cases hf6
  have frlen:∀ {line fr z},FS ts line z fr->fr.length<=ts.length:=fun {line fr z} F=>by
   have h1:∀ n∈fr,n∈(aI ts.length).map fun (n:Nat)=>(n:Int):=fun n hn=>by
    obtain ⟨m,q,e,h2,_⟩:=(F.2 n).mp hn;exact E2.mpr ⟨m,dS.mpr (I0.mp h2).1,e.symm⟩
   have:=afy F.1 h1
   simpa using this
  refine rZ (fun m Y H7=>∃ (u v:Option V) (line:List Str) (fr:List Int),Y=[some (.ref a),some (.ref d),some (.ref c),some (.ref w),some (.ref nm),some (.ref f),some (.ref ln),u,v]/\SameBut c H5 H7/\
    H7 c=some (.dK (B5 ts fun t=>.int (K3 E line t:Nat)))/\H7 f=some (.lst (fr.map V.int))/\FS ts line (fun q=>K3 E line q=0) fr/\H7 ln=some (.lst (line.map V.str))/\R9 E ts line/\m=ts.length-line.length) ts.length
   ⟨none,none,[],fr,rfl,fun b o _ h=>D3 (S56 _ _ h) nln,D3 (S56 _ _ j0) nln,D3 hf6 nln,F0,A5,R9.nil _ _,rfl⟩ ?_
  rintro m Y H7 ⟨u,v,line,fr,rfl,B7,pU,uW,F,mB,run,rfl⟩;have S07:Same H H7:=B7.same y3 ncH;walk_at "rd";refine ⟨_,xB uW,?_⟩
  by_cases dA:fr=[]
  .have N4:∀ p∈ts,p∈line:=fun p hp=>Classical.byContradiction fun hn=>by
    obtain ⟨q',hq⟩:=aiC (line:=line) y7 (fun e he=>(etold e he).1) ⟨p,hp,hn⟩;obtain ⟨h1,h2,h3⟩:=gQ hq;obtain ⟨k,hk⟩:=List.mem_iff_getElem?.mp h1
    have:=(F.2 (k:Int)).mpr ⟨k,q',rfl,hk,h2,h3⟩
    rw [dA] at this
    cases this
   have hsl:=sC tnd run N4;rw [dA];refine iteF ?_
   try walk_at "rd"
   refine ⟨line.length,.inl ⟨_,.of mB,by rw [A6]⟩,ts.length,.inl ⟨_,.of (B7 _ _ ncw.symm cZ),by rw [A6]⟩,?_⟩
   try walk_at "rd"
   exact iteD (fun h=>absurd h 'a') fun _=>q ln line H7 (y3.free nln5) S07 mB run N4
  rw [show (!(fr.map V.int).isEmpty)=true by cases fr with | nil=>exact absurd rfl dA | cons=>rfl];refine iteT ⟨fun σ' H'=>∃ (u v:Option V) (line':List Str) (fr:List Int),σ'=[some (.ref a),some (.ref d),some (.ref c),some (.ref w),some (.ref nm),some (.ref f),some (.ref ln),u,v]/\SameBut c H5 H'/\
    H' c=some (.dK (B5 ts fun t=>.int (K3 E line' t:Nat)))/\H' f=some (.lst (fr.map V.int))/\FS ts line' (fun q=>K3 E line' q=0) fr/\H' ln=some (.lst (line'.map V.str))/\R9 E ts line'/\ts.length-line'.length<ts.length-line.length,?_,?_⟩
  .rintro σ' H' ⟨u,v,line',fr',rfl,h1,h2,h3,h4,h5,h6,h7⟩;exact ⟨_,h7,⟨_,_,rfl⟩,h1,line',h2,fr',h3,h4,h5,h6,rfl⟩
  try walk_at "rd"
  refine ⟨fr,uW,dA,fun M hM iS=>?_⟩;obtain ⟨mm,p,rfl,hpm,j3⟩:=ahH F hM iS;obtain ⟨y8,X4,R3⟩:=gQ j3;have hll:line.length<ts.length:=by
   have h1:(line++[p]).Nodup:=(run.snoc j3).nodup;have h3:=agP h1 fun x hx=>(run.snoc j3).sub hx
   rw [C1,O4] at h3;lia
  have F1:=F.take tnd hpm
  try walk_at "rd"
  refine ⟨R7 uW,arF uW hM ?_⟩;have hwf:w≠f:=fun e=>by rw [e,nf] at cZ;cases cZ
  have hcf:c≠f:=fun e=>by rw [e,nf] at j0;cases j0
  have pV:c≠ln:=fun e=>by rw [e,nln5] at j0;cases j0
  have B8:SameBut c H5 (A0 H7 f (.lst ((fr.erase (mm:Int)).map V.int))):=B7.put nf;have dB:A0 H7 f (.lst ((fr.erase (mm:Int)).map V.int)) ln=some (.lst (line.map V.str)):=by rw [A9 i8.symm];exact mB
  have hf8:A0 H7 f (.lst ((fr.erase (mm:Int)).map V.int)) f=some (.lst ((fr.erase (mm:Int)).map V.int)):=A5;have hc8:A0 H7 f (.lst ((fr.erase (mm:Int)).map V.int)) c=some (.dK (B5 ts fun t=>.int (K3 E line t:Nat))):=by rw [A9 hcf];exact pU
  generalize A0 H7 f (.lst ((fr.erase (mm:Int)).map V.int))=H8 at B8 dB hf8 hc8 ⊢
  have atp:K5 (ts.map V.str) (mm:Int)=some (V.str p):=N2 (by rw [O7,hpm];rfl);refine ⟨R7 dB,_,.inl (.of (B8 _ _ ncw.symm cZ)),V.str p,atp,appOk dB (by rw [A6];exact K1 'a') ?_⟩;have B9:SameBut c H5 (A0 H8 ln (.lst (line.map V.str++[V.str p]))):=B8.put nln5;have uX:A0 H8 ln (.lst (line.map V.str++[V.str p])) ln=some (.lst ((line++[p]).map V.str)):=by rw [A5,D8];rfl
  have hf9:A0 H8 ln (.lst (line.map V.str++[V.str p])) f=some (.lst ((fr.erase (mm:Int)).map V.int)):=by rw [A9 i8];exact hf8
  have hc9:A0 H8 ln (.lst (line.map V.str++[V.str p])) c=some (.dK (B5 ts fun t=>.int (K3 E line t:Nat))):=by rw [A9 pV];exact hc8
  generalize A0 H8 ln (.lst (line.map V.str++[V.str p]))=H9 at B9 uX hf9 hc9 ⊢
  refine ⟨_,.inl (.of (B9 _ _ ncw.symm cZ)),V.str p,atp,V.ref (ad p),.inl ⟨_,Sum.inr p,.inl (B9 _ _ ncd.symm hd5),rfl,by rw [Q4,if_pos y8]⟩,ad p,rfl,⟨_,.of (B9 _ _ (nac p y8) (p9 p y8))⟩,
   forL (xs:=(G9 E p).map V.str) (fun j Y H7=>∃ (x:Option V) (fr:List Int),Y=[some (.ref a),some (.ref d),some (.ref c),some (.ref w),some (.ref nm),some (.ref f),some (.ref ln),some (.int (mm:Int)),x]/\SameBut c H5 H7/\
    H7 c=some (.dK (B5 ts fun t=>.int ((K3 E line t:Nat)-(((G9 E p).take j).count t:Nat))))/\H7 f=some (.lst (fr.map V.int))/\FS ts (line++[p]) (fun q=>K3 E line q=((G9 E p).take j).count q) fr/\H7 ln=some (.lst ((line++[p]).map V.str)))
   ⟨v,_,rfl,B9,?_,hf9,F1.congr fun q=>(by simp),uX⟩ (by rintro j Y H7 _ ⟨_,_,_,B,_⟩;exact .of (B _ _ (nac p y8) (p9 p y8))) ?_ ?_⟩
  .rw [hc9];exact congrArg (fun x=>some (HO.dK x)) (W1 fun t _=>congrArg V.int (by simp))
  .rintro j v5 Y X5 hv5 ⟨x,fr,rfl,B,y9,iX,F,iY⟩;obtain ⟨y,hy,rfl⟩:=G4 hv5;have fJ:y∈ts:=by
    have:=L6 hy
    unfold G9 at this;obtain ⟨e,he,rfl⟩:=E2.mp this;exact (etold e (Q2.mp he).1).2
   have iR:((G9 E p).take j).count y<K3 E line y:=by
    have h1:=aiB (E:=E) (q:=y) X4;have h2:(G9 E p).count y=((G9 E p).take (j+1)).count y+((G9 E p).drop (j+1)).count y:=by rw [<- List.count_append,V0]
    rw [K7 hy,List.count_append,List.count_singleton,if_pos (by simp)] at h2;lia
   have hyb:y∉line++[p]:=fun hm=>by
    rcases E4.mp hm with hm | hm
    .have:=amQ run hm;lia
    .rw [G2.mp hm] at iR;lia
   obtain ⟨my,hmy⟩:=List.mem_iff_getElem?.mp fJ;have pW:∀ q,((G9 E p).take (j+1)).count q=((G9 E p).take j).count q+if y=q then 1 else 0:=fun q=>by
    rw [K7 hy,List.count_append,List.count_singleton]
    by_cases e:y=q
    .rw [if_pos e,if_pos (by simpa using e)]
    .rw [if_neg e,if_neg (by simpa using e)]
   have turn:=F.turn (z':=fun q=>K3 E line q=((G9 E p).take (j+1)).count q) tnd (y:=y) (fun q hq=>by rw [pW,if_neg (fun e=>hq e.symm),Nat.add_zero]) 'a' hmy hyb;have Q8:B5 ts (fun t=>V.int (if t=y then (K3 E line y:Nat)-(((G9 E p).take j).count y:Nat)-1 else (K3 E line t:Nat)-(((G9 E p).take j).count t:Nat)))=B5 ts (fun t=>V.int ((K3 E line t:Nat)-(((G9 E p).take (j+1)).count t:Nat))):=W1 fun q _=>by
    rw [pW]
    by_cases e:q=y
    .rw [if_pos e,e,if_pos rfl];exact congrArg V.int 'a'
    .rw [if_neg e,if_neg (fun z=>e z.symm)];exact congrArg V.int 'a'
   walk_at "rd";refine ⟨_,.inl ⟨_,Sum.inr y,.inl y9,rfl,by rw [Q4,if_pos fJ]⟩,_,_,rfl,rfl,_,cG (k:=Sum.inr y) y9 (by rw [k9];exact K1 'a'),?_⟩;have dC:A0 X5 c (.dK (putK (B5 ts fun t=>V.int ((K3 E line t:Nat)-(((G9 E p).take j).count t:Nat))) (Sum.inr y) (V.int ((K3 E line y:Nat)-(((G9 E p).take j).count y:Nat)-1)))) c=some (.dK (B5 ts (fun t=>V.int ((K3 E line t:Nat)-(((G9 E p).take (j+1)).count t:Nat))))):=by
    rw [A5,nJ _ fJ,<- Q8];refine congrArg (fun x=>some (HO.dK x)) (W1 fun q _=>?_)
    by_cases e:q=y
    .rw [if_pos e,if_pos e]
    .rw [if_neg e,if_neg e]
   have B11:SameBut c H5 (A0 X5 c (.dK (putK (B5 ts fun t=>V.int ((K3 E line t:Nat)-(((G9 E p).take j).count t:Nat))) (Sum.inr y) (V.int ((K3 E line y:Nat)-(((G9 E p).take j).count y:Nat)-1))))):=B.at;have dD:A0 X5 c (.dK (putK (B5 ts fun t=>V.int ((K3 E line t:Nat)-(((G9 E p).take j).count t:Nat))) (Sum.inr y) (V.int ((K3 E line y:Nat)-(((G9 E p).take j).count y:Nat)-1)))) f=some (.lst (fr.map V.int)):=by rw [A9 hcf.symm];exact iX
   have iZ:A0 X5 c (.dK (putK (B5 ts fun t=>V.int ((K3 E line t:Nat)-(((G9 E p).take j).count t:Nat))) (Sum.inr y) (V.int ((K3 E line y:Nat)-(((G9 E p).take j).count y:Nat)-1)))) ln=some (.lst ((line++[p]).map V.str)):=by rw [A9 pV.symm];exact iY
   generalize A0 X5 c (.dK (putK (B5 ts fun t=>V.int ((K3 E line t:Nat)-(((G9 E p).take j).count t:Nat))) (Sum.inr y) (V.int ((K3 E line y:Nat)-(((G9 E p).take j).count y:Nat)-1))))=fK at dC B11 dD iZ ⊢
   refine ⟨V.int ((K3 E line y:Nat)-(((G9 E p).take (j+1)).count y:Nat)),.inl ⟨_,Sum.inr y,.inl dC,rfl,by rw [Q4,if_pos fJ]⟩,?_⟩
   try walk_at "rd"
   have hfl2:=frlen F;refine iteD (fun h0=>⟨R7 dD,V.int (ts.idxOf y:Nat),.inl ⟨_,Sum.inr y,.inl (B11 _ _ ncn.symm hnm),rfl,by rw [Q4,if_pos fJ]⟩,appOk dD (by rw [A6];exact K1 'a') ?_⟩) fun h0=>?_
   .refine ⟨B11.put nf,?_,fr++[(my:Int)],?_,turn.1 'a',?_⟩
    .rw [A9 hcf];exact dC
    .rw [A5,D8,idx hmy];rfl
    .rw [A9 i8.symm];exact iZ
   .exact ⟨B11,dC,fr,dD,turn.2 'a',iZ⟩
  .rintro Y X5 ⟨x,fr,rfl,B,y9,iX,F,iY⟩;rw [A6,K9] at y9 F;have N9:∀ q,K3 E line q=K3 E (line++[p]) q+(G9 E p).count q:=fun q=>aiB (E:=E) (q:=q) X4
   refine ⟨⟨_,_,rfl⟩,B,line++[p],?_,fr,iX,F.congr fun q=>?_,iY,run.snoc j3,by rw [C1,O4];lia⟩
   .rw [y9];exact congrArg (fun x=>some (HO.dK x)) (W1 fun q _=>congrArg V.int (by have:=N9 q;lia))
   .have:=N9 q
    lia
theorem ahj:FnScope ["sign"] ["sign"] (C3 sY):=G3
abbrev ah2:List Str:=["sign"]
theorem vaR:VS ah2 sY "sign" 0:=vq
theorem ahk(F:FunD K "is_figure" "is_figure" sY f fd)(T:Txt P w K mg C):FnOk P w K mg base E8 1 f fd ["sign"] kR:=by
 refine F.ok ahj ?_ ?_
 .rintro _ _ _ _ ⟨c,rfl,_⟩;rfl
 .intro cdv A outer s H vs Q E hr h;have C4:=hu_of hr;have hu:=hr.units;refine ⟨_,QSs.out (A8 (E7 (amu q_le q_le K6 (vi vaR) K6))),?_⟩;obtain ⟨c,rfl,q⟩:=h;walk_at "rd";have e1:(Str.ofString "0").cps.toList=[48]:=by decide +kernel
  have e2:(Str.ofString "9").cps.toList=[57]:=by decide +kernel
  rw [e1,e2];simp only [arz];refine iteN (fun h1=>?_) fun h1=>?_
  .have e:figO c=!decide (57<c):=by
    unfold figO;rw [decide_eq_true (by lia:48<=c)]
    by_cases h2:c<=57
    .rw [decide_eq_true h2,decide_eq_false (by lia:¬ 57<c)];rfl
    .rw [decide_eq_false h2,decide_eq_true (by lia:57<c)];rfl
   rw [e] at q;exact q
  .have e:figO c=false:=by unfold figO;rw [decide_eq_false (by lia:¬ 48<=c)];rfl
   rw [e] at q;exact q
theorem ah3:FnScope ["rules", "word"] ["rules", "word"] (C3 nV):=G3
abbrev ajJ:List Str:=["rules", "word"]
theorem vaS:VS ajJ nV "rules" 0:=vq
theorem ah4(F:FunD K "has_rule" "has_rule" nV f fd)(T:Txt P w K mg C):FnOk P w K mg base E8 1 f fd ["rules", "word"] (spHas K):=by
 refine F.ok ah3 ?_ ?_
 .rintro _ _ _ _ ⟨a,ts,R,w,rfl,_⟩;rfl
 .intro cdv A outer s H vs Q E hr h;have C4:=hu_of hr;have hu:=hr.units;refine ⟨_,QSs.out (A8 (E7 (qe_cB (q_any (calm:=true)) T.b_any ani (qa_c (b9  (Q7:CompOk ["rules", "word"] (C3 nV).names _ ["rule", "word"] 1 [1]) (O2 (K:=K) (vi vaS)) (fun _ _ _ _ _=>D6 (n:=0) (show List.Nodup (["rule", "word"]:List Str) by decide +kernel) rfl (Or.inl rfl)) (fun _ _ _ _ _=>b8) (fun _ _ _ _ _=>(gN (q_eq (K:=K) hu) (qe_ix (K:=K) (qv 0) A4) (qv 1)))) A3)))),?_⟩;obtain ⟨a,ts,R,w,rfl,hR,hl,q⟩:=h;walk_at "rd";refine ⟨⟨_,.of hR.top⟩,compL (xs:=ts.map V.ref) [some (.str w)] rfl (fun D i ys H4=>ys=((R.take i).map fun z=>decide (z.1=w)).map V.bl/\Same H H4) (fun D nD=>⟨rfl,Same.new nD⟩) (by rintro D i ys H4 nD _ ⟨_,S⟩;exact .of (S _ _ hR.top)) ?_ ?_⟩
  .rintro D i x ys H4 nD hi hx ⟨rfl,S⟩ hD hy;obtain ⟨t,ht,rfl⟩:=G4 hx;obtain ⟨z,hz,C8⟩:=Paired.at hR.row ht;have i7:i<R.length:=(I0.mp hz).1;walk_at "rd";refine ⟨_,.inr (.of (S _ _ C8)),V.str z.1,T9 _ _,?_⟩;walk_at "rd";refine ⟨hD,by rw [A6,A6,E9];exact K1 'a',CW.put hi hy ⟨?_,S.put nD⟩⟩;rw [r0,hz]
   simp
  rintro D ys H4 nD ⟨rfl,S⟩ hD hy;rw [A6,hR.len,K9] at hD;refine ⟨_,rfl,hD,?_⟩;have e:((R.map fun z=>decide (z.1=w)).any id)=hasW R w:=by
   unfold hasW;rw [List.any_map];rfl
  rw [e];exact q H4 S
theorem aff:FnScope ["rule"] ["rule"] (C3 sZ):=G3
abbrev agd:List Str:=["rule"]
theorem lG:VS agd sZ "rule" 0:=vq
theorem afg(F:FunD K "pieces_told" "pieces_told" sZ f fd)(T:Txt P w K mg C):FnOk P w K mg base E8 1 f fd ["rule"] (akO K):=by
 refine F.ok aff ?_ ?_
 .rintro _ _ _ _ ⟨t,z,rfl,_⟩;rfl
 .intro cdv A outer s H vs Q E hr h;have C4:=hu_of hr;have hu:=hr.units;obtain ⟨a_JOBS,m_JOBS,M_JOBS⟩:=T.x_JOBS;refine ⟨_,QSs.out (A7 (qs_if (E5 (q_eq (K:=K) hu) (qe_ix (K:=K) (vi lG) A4) K6) (A8 (E7 (M5 (K:=K) (vi lG) (K2 A4) P9))) G8)
   (A7 (qs_if (E5 (q_eq (K:=K) hu) (qe_ix (K:=K) (vi lG) A4) K6) (A8 (E7 (M5 (K:=K) (vi lG) (K2 A4) (K2 A4)))) G8)
   (A8 (E7 (aix (E5 (q_inM M_JOBS) (qe_ix (K:=K) (vi lG) A4) (rW m_JOBS)) (M5 (K:=K) (vi lG) (K2 A4) P9) (M9 A3)))))),?_⟩
  obtain ⟨t,z,rfl,ht,q⟩:=h;have hT:C6 K H t ((z.1::z.2).map V.str):=.of ht;have B1:1<=((z.1::z.2).map V.str).length:=by rw [A6,L1];lia
  walk_at "rd";refine ⟨_,.inr hT,V.str z.1,T9 _ _,?_⟩;walk_at "rd";refine iteD (fun e=>?_) fun n1=>⟨_,.inr hT,V.str z.1,T9 _ _,?_⟩
  .refine rSlR.t hT (o9 (k:=2) (by decide) B1) fun p np=>q p _ (Same.new np) (.of ?_)
   rw [A5,show ((2:Int))=((2:Nat):Int) from rfl,o7,G1,mN,<- W7];unfold M8;rw [if_pos e]
  walk_at "rd";refine iteD (fun e=>?_) fun n2=>⟨_,.inr hT,V.str z.1,T9 _ _,?_⟩
  .refine rSlR.t hT (o9 (k:=1) (by decide) B1) fun p np=>q p _ (Same.new np) (.of ?_)
   have ecut:cutV ((z.1::z.2).map V.str) (some 1) (some 2)=(z.2.take 1).map V.str:=by
    unfold cutV
    cases z.2 with
    | nil=>rfl
    | cons y r=>
     have e1:HT.sIx ((z.1::y::r).map V.str).length 0 (some 1)=1:=by
      rw [show ((1:Int))=((1:Nat):Int) from rfl,HT.sIx_nat,A6,L1,L1];lia
     have e2:HT.sIx ((z.1::y::r).map V.str).length ((z.1::y::r).map V.str).length (some 2)=2:=by
      rw [show ((2:Int))=((2:Nat):Int) from rfl,HT.sIx_nat,A6,L1,L1];lia
     rw [e1,e2];rfl
   rw [A5,ecut];unfold M8;rw [if_neg n1,if_pos e]
  walk_at "rd"
  by_cases hj:gR z.1
  .rw [xP hj];refine iteT (rSlR.t hT (o9 (k:=1) (by decide) B1) fun p np=>q p _ (Same.new np) (.of ?_));rw [A5,G1,xC];unfold M8;have h3:z.1=("row" : Str)\/z.1=("marks" : Str)\/z.1=("over" : Str):=by
    rcases hj with h | h | h | h | h
    .exact .inl h
    .exact .inr (.inl h)
    .exact absurd h n1
    .exact absurd h n2
    .exact .inr (.inr h)
   rw [if_neg n1,if_neg n2,if_pos h3]
  .rw [amM hj];refine iteF fun p np=>q p _ (Same.new np) (.of ?_)
   rw [A5];unfold M8;rw [if_neg n1,if_neg n2,if_neg (fun h=>hj (by
    rcases h with h | h | h
    .exact .inl h
    .exact .inr (.inl h)
    .exact .inr (.inr (.inr (.inr h)))))]
   rfl
theorem ah5:FnScope ["jobs", "piece", "job", "figures"] ["jobs", "piece", "job", "figures"] (C3 eM):=G3
abbrev tM:List Str:=["jobs", "piece", "job", "figures"]
theorem vaU:VS tM eM "jobs" 0:=vq
theorem zN:VS tM eM "piece" 1:=vq
theorem vaW:VS tM eM "job" 2:=vq
theorem vaX:VS tM eM "figures" 3:=vq
theorem ah6(F:FunD K "is_clash" "is_clash" eM f fd)(T:Txt P w K mg C)(G_is_figure:FO P w K mg base 1 "is_figure" ["sign"] [] kR):FnOk P w K mg base E8 2 f fd ["jobs", "piece", "job", "figures"] akP:=by
 refine F.ok ah5 ?_ ?_
 .rintro _ _ _ _ ⟨d,p,j,fg,ks,g,rfl,_⟩;rfl
 .intro cdv A outer s H vs Q E hr h;have C4:=hu_of hr;have hu:=hr.units;obtain ⟨a_AGAIN,m_AGAIN,M_AGAIN⟩:=T.x_AGAIN;refine ⟨_,QSs.out (A7 (qs_if (QW.pt (aP (E5 (q_in (K:=K) hu) (vi zN) (vi vaU)) (eD (QW.pt (qw_or (E5 (q_ne (K:=K) hu) (g0 C4 (vi vaU) (vi zN)) (vi vaW)) (wX (E5 (wZ (K:=K) hu) (vi vaW) (rW m_AGAIN)))))))) (A8 (E7 qe_bl)) G8)
   (A8 (E7 (ank (vi vaX) (wW (qe_cB (q_any (calm:=true)) T.b_any ani (qa_c (b9  (Q7:CompOk ["jobs", "piece", "job", "figures"] (C3 eM).names _ ["sign"] 1 []) (arn (vi zN)) (fun _ _ _ _ _=>D6 (n:=0) (show List.Nodup (["sign"]:List Str) by decide +kernel) rfl (Or.inl rfl)) (fun _ _ _ _ _=>b8) (fun _ _ _ _ _=>(D1 G_is_figure (hm hr) (qa_c (qv 0) A3)))) A3))))))),?_⟩
  obtain ⟨d,p,j,fg,ks,g,rfl,hd,hp,h1,h2,q⟩:=h;walk_at "rd";have tail:(if fg=true then cH (kD p) 1 [] (gName 0) tYes (tCall kR [] E0 (tCons (tVar 0) tNil)) [some (V.ref d),some (V.str p),some (V.str j),some (V.bl fg)] (fun x H1=>rAnyB true [x] H1 Q) H else Q (V.bl false) H):=by
   by_cases hf:fg=true
   .rw [if_pos hf];refine compS [] rfl (fun D i ys H4=>ys=((p.cps.toList.take i).map figO).map V.bl/\Same H H4) (fun D nD=>⟨rfl,Same.new nD⟩) ?_ ?_
    .rintro D i x ys H4 nD hi hx ⟨rfl,S⟩ hD hy;walk_at "rd";refine ⟨x,rfl,hD,?_,CW.put hi hy ⟨?_,S.put nD⟩⟩
     .rw [A6,A6,E9];exact K1 (by have:p.cps.size=p.length:=rfl;lia)
     .rw [r0,hx]
      simp
    .rintro D ys H4 nD ⟨rfl,S⟩ hD hy;walk_at "rd";refine ⟨_,hD,?_⟩;have e:((p.cps.toList.take p.cps.size).map figO).any id=false:=by
      rw [List.any_eq_false];intro b hb;obtain ⟨c,hc,rfl⟩:=E2.mp hb;rw [h2 hf c (jJ hc)];decide
     rw [e];exact q H4 S
   .rw [if_neg hf];exact q H (aN H)
  refine rInR.d (k8 (k:=Sum.inr p) hd) ⟨_,rfl,?_⟩;rw [Q4,gF]
  by_cases hk:p∈ks
  .obtain ⟨e1,e2⟩:=h1 hk;rw [if_pos hk];refine iteT ⟨V.str (g p),.inl ⟨_,Sum.inr p,.inl hd,rfl,by rw [Q4,if_pos hk]⟩,?_⟩;walk_at "rd";rw [decide_eq_true e1];refine iteF (rInR.l (.inr (M_AGAIN _)) rfl rfl ⟨_,rfl,?_⟩);have e3:eB (.str j) [V.str "letter",V.str "mark",V.str "over"]=true:=by
    have:=wT j nM
    rw [decide_eq_true e2] at this;exact this
   rw [e3];exact iteF tail
  .rw [if_neg hk];exact iteF tail
theorem sc_jobs_of:FnScope ["rules", "figures", "jobs", "rule", "piece"] ["rules"] (C3 p6):=G3
abbrev oF:List Str:=["rules", "figures", "jobs", "rule", "piece"]
theorem zO:VS oF p6 "rules" 0:=vq
theorem vaZ:VS oF p6 "figures" 1:=vq
theorem tN:VS oF p6 "jobs" 2:=vq
theorem zP:VS oF p6 "rule" 3:=vq
theorem va2:VS oF p6 "piece" 4:=vq
theorem va3:LS p6 "figures":=lq
theorem va4:LS p6 "jobs":=lq
theorem va5:LS p6 "rule":=lq
theorem va6:LS p6 "piece":=lq
theorem ajK(F:FunD K "jobs_of" "jobs_of" p6 f fd)(T:Txt P w K mg C)(G_has_rule:FO P w K mg base 1 "has_rule" ["rules", "word"] [] (spHas K))(G_pieces_told:FO P w K mg base 1 "pieces_told" ["rule"] [] (akO K))(G_is_clash:FO P w K mg base 2 "is_clash" ["jobs", "piece", "job", "figures"] [] akP):FnOk P w K mg base E8 3 f fd ["rules"] (ano K):=by
 refine F.ok sc_jobs_of ?_ ?_
 .rintro _ _ _ _ ⟨a,ts,R,g,rfl,_⟩;rfl
 .intro cdv A outer s H vs Q E hr h;have C4:=hu_of hr;have hu:=hr.units;obtain ⟨a_JOBS,m_JOBS,M_JOBS⟩:=T.x_JOBS;refine ⟨_,QSs.out (A7 (D0 (n:=1) sc_jobs_of.nd rfl va3 (D1 G_has_rule (hm hr) (qa_c (vi zO) (qa_c K6 A3))))
   (A7 (D0 (n:=2) sc_jobs_of.nd rfl va4 gO)
   (A7 (M0 PassesOwn.never (O2 (K:=K) (vi zO)) (D6 (n:=3) sc_jobs_of.nd rfl va5 (.inl rfl)) (A8 (M0 PassesOwn.never (gP (K:=K) (D1 G_pieces_told (hm hr) (qa_c (vi zP) A3))) (D6 (n:=4) sc_jobs_of.nd rfl va6 (.inl rfl)) (A7 (qs_if (Y7 (K:=K) (D1 G_is_clash (hm hr) (qa_c (vi tN) (qa_c (vi va2) (qa_c (aiy M_JOBS (rW m_JOBS) (qe_ix (K:=K) (vi zP) A4)) (qa_c (vi vaZ) A3)))))) (A8 rX) G8)
   (A8 (b0 C4 (vi tN) (vi va2) (aiy M_JOBS (rW m_JOBS) (qe_ix (K:=K) (vi zP) A4))))))))
   (A7 (qs_if (Y7 (K:=K) (D1 G_has_rule (hm hr) (qa_c (vi zO) (qa_c K6 A3)))) (A8 (b0 C4 (vi tN) K6 K6)) G8)
   (A8 (E7 (vi tN))))))),?_⟩
  obtain ⟨a,ts,R,g,rfl,hR,hl,L5,hnc,pX,q⟩:=h;walk_at "rd";refine ⟨a,ts,R, "figures",rfl,hR,hl,fun H1 S1=>?_⟩;generalize hasW R "figures"=fg at hnc;intro d nd;have uY:H d=none:=S1.free nd;have S2:Same H (A0 H1 d (.dK [])):=fun b o h=>D3 (S1 b o h) nd
  refine ⟨⟨_,.of (S2 _ _ hR.top)⟩,forL (xs:=ts.map V.ref) (fun i Y H2=>∃ (u v:Option V),Y=[some (.ref a),some (.bl fg),some (.ref d),u,v]/\Same H H2/\H2 d=some (.dK (B5 (keysP (C7 (R.take i))) fun t=>.str (g t))))
   ⟨none,none,rfl,S2,by rw [A5];rfl⟩ (by rintro i Y H2 _ ⟨_,_,_,S,_⟩;exact .of (S _ _ hR.top)) ?_ ?_⟩
  .rintro i x Y H2 hx ⟨u,v,rfl,S,hd⟩;obtain ⟨t,ht,rfl⟩:=G4 hx;obtain ⟨z,hz,C8⟩:=Paired.at hR.row ht;walk_at "rd";refine ⟨t,z,rfl,S _ _ C8,fun p H3 S3 hp=>⟨p,rfl,⟨_,hp⟩,forT (xs:=(M8 z).map V.str) (fun j Y H4=>∃ (v:Option V),Y=[some (.ref a),some (.bl fg),some (.ref d),some (.ref t),v]/\C6 K H4 p ((M8 z).map V.str)/\Same H H4/\H4 d=some (.dK (B5 (keysP (C7 (R.take i)++((M8 z).take j).map fun p=>(p,jobD z.1))) fun t=>.str (g t))))
    ⟨v,rfl,hp,S.trans S3,by rw [Z6,bV,G7];exact S3 _ _ hd⟩ (by rintro j Y H4 _ ⟨_,_,h,_⟩;exact h) ?_ ?_⟩⟩
   .rintro j x Y H4 mC ⟨v,rfl,fI,S4,i9⟩;obtain ⟨pc,mD,rfl⟩:=G4 mC;obtain ⟨e1,e2⟩:=ary hz mD;obtain ⟨n1,n2,n3,n4⟩:=hnc _ _ _ e1;rw [e2] at n2;have hw:=gS (L6 mD);have X9:C6 K H4 t ((z.1::z.2).map V.str):=.of (S4 _ _ C8);have i4:(keysP (C7 (R.take i)++((M8 z).take j).map fun p=>(p,jobD z.1))).length<=10000:=by
     have h1:=xN (C7 (R.take i)++((M8 z).take j).map fun p=>(p,jobD z.1));have h2:=congrArg Z8 e2;rw [E9] at h2;lia
    walk_at "rd";refine ⟨_,.inr X9,V.str z.1,T9 _ _,Sum.inr z.1,rfl,V.str (jobD z.1),xP hw,d,pc,jobD z.1,fg,_,g,rfl,i9,n4,fun hk=>⟨n1.symm,n2 ((kO _ _).mp hk)⟩,n3,fun H5 S5=>⟨false,rfl,iteF ⟨_,.inr (X9.same S5),V.str z.1,T9 _ _,Sum.inr z.1,rfl,V.str (jobD z.1),xP hw,_,cG (k:=Sum.inr pc) (S5 _ _ i9) (by rw [k9];exact K1 'a'),(fI.same S5).dput (S5 _ _ i9),(S4.trans S5).put uY,?_⟩⟩⟩;rw [A5,K7 mD,D8,<- Q1];rw [show ([pc].map fun p=>(p,jobD z.1))=[(pc,jobD z.1)] from rfl,ajr];unfold dd
    by_cases K4:pc∈keysP (C7 (R.take i)++((M8 z).take j).map fun p=>(p,jobD z.1))
    .rw [if_pos K4,nJ _ K4];refine congrArg (fun x=>some (HO.dK x)) (W1 fun t _=>?_)
     by_cases e:t=pc
     .rw [if_pos e,e,n1]
     .rw [if_neg e]
    .rw [if_neg K4,eF _ K4];refine congrArg (fun x=>some (HO.dK x)) (W1 fun t _=>?_)
     by_cases e:t=pc
     .rw [if_pos e,e,n1]
     .rw [if_neg e]
   .rintro Y H4 ⟨v,rfl,fI,S4,i9⟩;walk_at "rd";refine ⟨S4,?_⟩;rw [afx hz];rw [A6,K9] at i9;exact i9
  .rintro Y H2 ⟨u,v,rfl,S,hd⟩;rw [A6,hR.len,K9] at hd;walk_at "rd";refine ⟨a,ts,R, "blanks",rfl,hR.same S,hl,fun H3 S3=>⟨hasW R "blanks",rfl,?_⟩⟩;have f7:=S3 _ _ hd;have hkn:(" " : Str)∉keysP (C7 R):=fun h=>pX ((kO _ _).mp h)
   have i4:=xN (C7 R);have hg:∀ t∈keysP (C7 R),V.str (g t)=jobG g t:=fun t ht=>by
    unfold jobG;rw [if_neg (fun e=>hkn (by rw [<- e];exact ht))]
   by_cases hb:hasW R "blanks"=true
   .rw [hb];refine iteT ⟨_,cG (k:=Sum.inr (" " : Str)) f7 (by rw [k9];exact K1 'a'),q d _ uY ((S.trans S3).put uY) ?_⟩;rw [A5,eF _ hkn];unfold U6;rw [if_pos hb];refine congrArg (fun x=>some (HO.dK x)) (W1 fun t ht=>?_);unfold jobG
    by_cases e:t=(" " : Str)
    .simp only [if_pos e]
    .simp only [if_neg e]
   .rw [mU] at hb;rw [hb];refine iteF (q d _ uY (S.trans S3) ?_);unfold U6;rw [hb,if_neg N6,G7,f7];exact congrArg (fun x=>some (HO.dK x)) (W1 hg)
theorem sc_misused:FnScope ["rule", "jobs", "first"] ["rule", "jobs"] (C3 cN):=G3
abbrev ahl:List Str:=["rule", "jobs", "first"]
theorem oG:VS ahl cN "rule" 0:=vq
theorem va8:VS ahl cN "first" 2:=vq
theorem va9:LS cN "first":=lq
theorem ajL(F:FunD K "misused" "misused" cN f fd)(T:Txt P w K mg C):FnOk P w K mg base E8 1 f fd ["rule", "jobs"] (ans K):=by
 refine F.ok sc_misused ?_ ?_
 .rintro _ _ _ _ ⟨t,d,z,ks,g,rfl,_⟩;rfl
 .intro cdv A outer s H vs Q E hr h;have C4:=hu_of hr;have hu:=hr.units;refine ⟨_,QSs.out (A7 (qs_if (E5 (q_eq (K:=K) hu) (qe_ix (K:=K) (vi oG) A4) K6) (A8 (E7 (b9  (Q7:CompOk ["rule", "jobs", "first"] (C3 cN).names _ ["piece", "jobs"] 1 [1]) (gP (K:=K) (M5 (K:=K) (vi oG) (K2 A4) (K2 A4))) (fun _ _ _ _ _=>D6 (n:=0) (show List.Nodup (["piece", "jobs"]:List Str) by decide +kernel) rfl (Or.inl rfl)) (fun _ _ _ _ _=>(aS (E5 (q_ne (K:=K) hu) (sE C4 (qv 1) (qv 0)) K6))) (fun _ _ _ _ _=>(qv 0))))) G8)
   (A7 (qs_if (E5 (q_eq (K:=K) hu) (qe_ix (K:=K) (vi oG) A4) K6) (A7 (cJ (n:=2) sc_misused.nd rfl va9 (Q7:CompOk ["rule", "jobs", "first"] (C3 cN).names _ ["piece", "jobs"] 1 [1]) (gP (K:=K) (M5 (K:=K) (vi oG) (K2 A4) (K2 A4))) (fun _ _ _ _ _=>D6 (n:=0) (show List.Nodup (["piece", "jobs"]:List Str) by decide +kernel) rfl (Or.inl rfl)) (fun _ _ _ _ _=>(aS (E5 (q_ne (K:=K) hu) (sE C4 (qv 1) (qv 0)) K6))) (fun _ _ _ _ _=>(qv 0)))
   (A8 (E7 (qe_op (q_add (K:=K)) (vi va8) (b9  (Q7:CompOk ["rule", "jobs", "first"] (C3 cN).names _ ["piece", "jobs"] 1 [1]) (gP (K:=K) (M5 (K:=K) (vi oG) (K2 A4) P9)) (fun _ _ _ _ _=>D6 (n:=0) (show List.Nodup (["piece", "jobs"]:List Str) by decide +kernel) rfl (Or.inl rfl)) (fun _ _ _ _ _=>(aS (E5 (wZ (K:=K) hu) (sE C4 (qv 1) (qv 0)) (M9 (qa_c K6 (qa_c K6 A3)))))) (fun _ _ _ _ _=>(qv 0))))))) G8)
   (A8 (E7 (M7 A3))))),?_⟩
  obtain ⟨t,d,z,ks,g,rfl,ht,hd,us,hl,q⟩:=h;have hT:C6 K H t ((z.1::z.2).map V.str):=.of ht;walk_at "rd";refine ⟨_,.inr hT,V.str z.1,T9 _ _,?_⟩;walk_at "rd"
  by_cases h1:z.1=("great" : Str)
  .rw [decide_eq_true h1];have B1:1<=((z.1::z.2).map V.str).length:=by rw [A6,L1];lia
   refine iteT (rSlR.t hT (o9 (k:=1) (by decide) B1) fun s ns=>?_);have ecut:cutV ((z.1::z.2).map V.str) (some 1) (some 2)=(z.2.take 1).map V.str:=by
    rw [show cutV ((z.1::z.2).map V.str) (some 1) (some 2)=_ from sK ((z.1::z.2).map V.str) (i:=1) (j:=2) (by decide),G1,mN,List.drop_zero,<- s0]
   rw [ecut];have S1:Same H (A0 H s (.tup ((z.2.take 1).map V.str))):=Same.new ns;have hs:A0 H s (.tup ((z.2.take 1).map V.str)) s=some (.tup ((z.2.take 1).map V.str)):=A5;generalize A0 H s (.tup ((z.2.take 1).map V.str))=H1 at S1 hs;refine ⟨s,rfl,⟨_,.of hs⟩,compT (xs:=(z.2.take 1).map V.str) [some (.ref d)] rfl (fun D i ys H2=>ys=[]/\Same H1 H2) (fun D nD=>⟨rfl,Same.new nD⟩) (by rintro D i ys H2 nD _ ⟨_,S⟩;exact .of (S _ _ hs)) ?_ ?_⟩
   .rintro D i y ys H2 nD hi hy ⟨rfl,S⟩ hD E6;obtain ⟨p,hp,rfl⟩:=G4 hy;obtain ⟨m1,m2⟩:=us.gr h1 p (L6 hp);have T7:=S _ _ (S1 _ _ hd);walk_at "rd";refine ⟨.inl ⟨_,.inl T7⟩,_,k8 (k:=Sum.inr p) T7,?_⟩;rw [Q4,if_pos m1,Option.getD_some,m2];refine ⟨_,rfl,?_⟩;rw [show ∀ v:Str,(!decide (v=v))=false by intro v;simp];exact iteF ⟨hD,hi,F9 _,⟨_,rfl⟩,rfl,S⟩
   .rintro D ys H2 nD ⟨rfl,S⟩ hD E6;exact q D H2 (S1.free nD) (S1.trans S) hD
  rw [decide_eq_false h1];refine iteF ⟨_,.inr hT,V.str z.1,T9 _ _,?_⟩;walk_at "rd"
  by_cases h2:z.1=("as" : Str)
  .rw [decide_eq_true h2];have B1:1<=((z.1::z.2).map V.str).length:=by rw [A6,L1];lia
   refine iteT (rSlR.t hT (o9 (k:=2) (by decide) B1) fun s ns=>?_);have ecut:cutV ((z.1::z.2).map V.str) (some 2) (some 3)=((z.2.drop 1).take 1).map V.str:=by
    rw [show cutV ((z.1::z.2).map V.str) (some 2) (some 3)=_ from sK ((z.1::z.2).map V.str) (i:=2) (j:=3) (by decide),G1,mN,<- W7,<- s0]
   rw [ecut];have S1:Same H (A0 H s (.tup (((z.2.drop 1).take 1).map V.str))):=Same.new ns;have hs:A0 H s (.tup (((z.2.drop 1).take 1).map V.str)) s=some (.tup (((z.2.drop 1).take 1).map V.str)):=A5;generalize A0 H s (.tup (((z.2.drop 1).take 1).map V.str))=H1 at S1 hs;refine ⟨s,rfl,⟨_,.of hs⟩,compT (xs:=((z.2.drop 1).take 1).map V.str) [some (.ref d)] rfl (fun D i ys H2=>ys=[]/\Same H1 H2) (fun D nD=>⟨rfl,Same.new nD⟩) (by rintro D i ys H2 nD _ ⟨_,S⟩;exact .of (S _ _ hs)) ?_ ?_⟩
   .rintro D i y ys H2 nD hi hy ⟨rfl,S⟩ hD E6;obtain ⟨p,hp,rfl⟩:=G4 hy;obtain ⟨m1,m2⟩:=us.a1 h2 p (L6 hp);have T7:=S _ _ (S1 _ _ hd);walk_at "rd";refine ⟨.inl ⟨_,.inl T7⟩,_,k8 (k:=Sum.inr p) T7,?_⟩;rw [Q4,if_pos m1,Option.getD_some,m2];refine ⟨_,rfl,?_⟩;rw [show ∀ v:Str,(!decide (v=v))=false by intro v;simp];exact iteF ⟨hD,hi,F9 _,⟨_,rfl⟩,rfl,S⟩
   rintro D ys H2 nD ⟨rfl,S⟩ hD E6;have S2:=S1.trans S;have hT2:C6 K H2 t ((z.1::z.2).map V.str):=.of (S2 _ _ ht);refine rSlR.t hT2 (o9 (k:=3) (by decide) B1) fun s2 fL=>?_
   have ecut2:cutV ((z.1::z.2).map V.str) (some 3) none=(z.2.drop 2).map V.str:=by
    rw [show cutV ((z.1::z.2).map V.str) (some 3) none=_ from o7 ((z.1::z.2).map V.str) 3,G1,mN,<- W7]
   rw [ecut2];have S3:Same H2 (A0 H2 s2 (.tup ((z.2.drop 2).map V.str))):=Same.new fL;have x5:A0 H2 s2 (.tup ((z.2.drop 2).map V.str)) s2=some (.tup ((z.2.drop 2).map V.str)):=A5;generalize A0 H2 s2 (.tup ((z.2.drop 2).map V.str))=H3 at S3 x5;refine ⟨s2,rfl,⟨_,.of x5⟩,compT (xs:=(z.2.drop 2).map V.str) [some (.ref d)] rfl (fun D i ys H4=>ys=[]/\Same H3 H4) (fun D nD=>⟨rfl,Same.new nD⟩) (by rintro D i ys H4 nD _ ⟨_,S⟩;exact .of (S _ _ x5)) ?_ ?_⟩
   .rintro D2 i y ys H4 nD2 hi hy ⟨rfl,S4⟩ hD2 hyl2;obtain ⟨p,hp,rfl⟩:=G4 hy;obtain ⟨m1,m2⟩:=us.a2 h2 p (L6 hp);have i9:=S4 _ _ (S3 _ _ (S2 _ _ hd));walk_at "rd";refine ⟨.inl ⟨_,.inl i9⟩,_,k8 (k:=Sum.inr p) i9,?_⟩;rw [Q4,if_pos m1,Option.getD_some];refine ⟨by decide,fun v nv=>?_⟩;have fin:eB (g p) [V.str (Str.ofString "letter"),V.str (Str.ofString "mark")]=true/\flatV (g p)=true:=by
     rcases m2 with m2 | m2 <;> rw [m2] <;> exact ⟨by decide +kernel,rfl⟩
    refine rInR.l (.inr (.of A5)) fin.2 rfl ?_;rw [fin.1,Bool.true_xor];exact ⟨_,rfl,iteF ⟨D3 hD2 nv,hi,F9 _,⟨_,rfl⟩,rfl,S4.trans (Same.new nv)⟩⟩
   rintro D2 ys H4 nD2 ⟨rfl,S4⟩ hD2 hyl2;have hD4:=S4 _ _ (S3 _ _ hD);refine rAddR.l hD4 hD2 (by decide) fun l nl=>?_
   exact q l _ ((S2.trans (S3.trans S4)).free nl) ((S2.trans (S3.trans S4)).trans (Same.new nl)) A5
  rw [decide_eq_false h2];exact iteF fun p np=>q p _ np (Same.new np) A5
theorem sc_check_letters:FnScope ["rules", "jobs", "rule", "wrong"] ["rules", "jobs"] (C3 cO):=G3
abbrev tO:List Str:=["rules", "jobs", "rule", "wrong"]
theorem vba:VS tO cO "rules" 0:=vq
theorem vbb:VS tO cO "jobs" 1:=vq
theorem vbc:VS tO cO "rule" 2:=vq
theorem vbd:VS tO cO "wrong" 3:=vq
theorem vbe:LS cO "rule":=lq
theorem vbf:LS cO "wrong":=lq
theorem aei(F:FunD K "check_letters" "check_letters" cO f fd)(T:Txt P w K mg C)(G_misused:FO P w K mg base 1 "misused" ["rule", "jobs"] [] (ans K)):FnOk P w K mg base E8 2 f fd ["rules", "jobs"] (aiJ K):=by
 refine F.ok sc_check_letters ?_ ?_
 .rintro _ _ _ _ ⟨a,d,ts,R,ks,g,rfl,_⟩;rfl
 .intro cdv A outer s H vs Q E hr h;have C4:=hu_of hr;have hu:=hr.units;refine ⟨_,QSs.out (A8 (M0 PassesOwn.never (O2 (K:=K) (vi vba)) (D6 (n:=2) sc_check_letters.nd rfl vbe (.inl rfl)) (A7 (D0 (n:=3) sc_check_letters.nd rfl vbf (D1 G_misused (hm hr) (qa_c (vi vbc) (qa_c (vi vbb) A3))))
   (A8 (qs_if (Y7 (K:=K) (vi vbd)) (A8 rX) G8))))),?_⟩
  obtain ⟨a,d,ts,R,ks,g,rfl,hR,hd,hw,q⟩:=h;walk_at "rd";refine ⟨⟨_,.of hR.top⟩,forL (xs:=ts.map V.ref) (fun i Y H2=>∃ (u v:Option V),Y=[some (.ref a),some (.ref d),u,v]/\Same H H2) ⟨none,none,rfl,aN H⟩ (by rintro i Y H2 _ ⟨_,_,_,S⟩;exact .of (S _ _ hR.top)) ?_ ?_⟩
  .rintro i x Y H2 hx ⟨u,v,rfl,S⟩;obtain ⟨t,ht,rfl⟩:=G4 hx;obtain ⟨z,hz,C8⟩:=Paired.at hR.row ht;obtain ⟨n1,n2⟩:=hw z (L6 hz);walk_at "rd";refine ⟨t,d,z,ks,g,rfl,S _ _ C8,S _ _ hd,n1,n2,fun p H3 np S3 hp=>⟨_,xB hp,iteF (S.trans S3)⟩⟩
  .rintro Y H2 ⟨u,v,rfl,S⟩;exact q H2 S
theorem ajM:FnScope ["rules", "word"] ["rules", "word"] (C3 nW):=G3
abbrev alF:List Str:=["rules", "word"]
theorem vbg:VS alF nW "rules" 0:=vq
theorem ajN(F:FunD K "line_of" "line_of" nW f fd)(T:Txt P w K mg C)(G_lined_up:FO P w K mg base 3 "lined_up" ["rows"] [] akL):FnOk P w K mg base E8 4 f fd ["rules", "word"] (anp K):=by
 refine F.ok ajM ?_ ?_
 .rintro _ _ _ _ ⟨a,ts,R,w,rank,rfl,_⟩;rfl
 .intro cdv A outer s H vs Q E hr h;have C4:=hu_of hr;have hu:=hr.units;refine ⟨_,QSs.out (A8 (E7 (D1 G_lined_up (hm hr) (qa_c (b9  (Q7:CompOk ["rules", "word"] (C3 nW).names _ ["rule", "word"] 1 [1]) (O2 (K:=K) (vi vbg)) (fun _ _ _ _ _=>D6 (n:=0) (show List.Nodup (["rule", "word"]:List Str) by decide +kernel) rfl (Or.inl rfl)) (fun _ _ _ _ _=>(aS (E5 (q_eq (K:=K) hu) (qe_ix (K:=K) (qv 0) A4) (qv 1)))) (fun _ _ _ _ _=>(qe_cT (aT (K:=K) (calm:=true)) T.b_list u7 (qa_c (M5 (K:=K) (qv 0) (K2 A4) P9) A3)))) A3)))),?_⟩;obtain ⟨a,ts,R,w,rank,rfl,hR,hl,i8,y7,q⟩:=h;walk_at "rd";refine ⟨⟨_,.of hR.top⟩,compL (xs:=ts.map V.ref) [some (.str w)] rfl (fun D i ys H4=>∃ qs:List Addr,ys=qs.map V.ref/\RowsAt H H4 D qs (rowsW (R.take i) w)) (fun D nD=>⟨[],rfl,⟨⟨A5,.nil⟩,by simp,fun r hr=>by rw [G2.mp hr];exact nD,Same.new nD⟩⟩)
   (by rintro D i ys H4 nD _ ⟨qs,_,RA⟩;exact .of (RA.same _ _ hR.top)) ?_ ?_⟩
  .rintro D i x ys H4 nD hi hx ⟨qs,rfl,RA⟩ hD hy;obtain ⟨t,ht,rfl⟩:=G4 hx;obtain ⟨z,hz,C8⟩:=Paired.at hR.row ht;have i7:i<R.length:=(I0.mp hz).1;have X9:C6 K H4 t ((z.1::z.2).map V.str):=.of (RA.same _ _ C8);have B1:1<=((z.1::z.2).map V.str).length:=by rw [A6,L1];lia
   walk_at "rd";refine ⟨_,.inr X9,V.str z.1,T9 _ _,?_⟩;walk_at "rd";refine iteD (fun e=>rSlR.t X9 (o9 (k:=1) (by decide) B1) fun p np=>?_) fun e=>⟨hD,kG hi hy ⟨qs,rfl,?_⟩⟩
   .rw [G1,xC];walk_at "rd";refine rListR.l (.inr (.of A5)) fun p2 z0=>⟨D3 (D3 hD np) z0,?_,CW.put hi hy ⟨qs++[p2],by rw [D8];rfl,?_⟩⟩
    .rw [A6] at hy;rw [A6];exact K1 'a'
    .rw [xO hz,if_pos e];have n2:H4 p2=none:=(Same.new np).free z0;exact RA.grow (fun b o h=>D3 (D3 h np) z0) n2 A5
   .rw [xO hz,if_neg e];exact RA
  rintro D ys H4 nD ⟨qs,rfl,RA⟩ hD hy;rw [A6,hR.len,K9] at RA;refine ⟨D,qs,rowsW R w,rank,rfl,RA.rows,i8,y7,fun l line H5 nl S5 fM run cov=>?_⟩;exact q l line H5 (RA.same.free nl) (RA.same.trans S5) fM run cov
theorem sc_forms_of:FnScope ["rules", "forms", "rule"] ["rules"] (C3 eN):=G3
abbrev zQ:List Str:=["rules", "forms", "rule"]
theorem vbh:VS zQ eN "rules" 0:=vq
theorem vbi:VS zQ eN "forms" 1:=vq
theorem zR:VS zQ eN "rule" 2:=vq
theorem vbk:LS eN "forms":=lq
theorem vbl:LS eN "rule":=lq
theorem ah7(F:FunD K "forms_of" "forms_of" eN f fd)(T:Txt P w K mg C):FnOk P w K mg base E8 1 f fd ["rules"] (aiI K):=by
 refine F.ok sc_forms_of ?_ ?_
 .rintro _ _ _ _ ⟨a,ts,R,rfl,_⟩;rfl
 .intro cdv A outer s H vs Q E hr h;have C4:=hu_of hr;have hu:=hr.units;refine ⟨_,QSs.out (A7 (D0 (n:=1) sc_forms_of.nd rfl vbk gO)
   (A7 (M0 PassesOwn.never (O2 (K:=K) (vi vbh)) (D6 (n:=2) sc_forms_of.nd rfl vbl (.inl rfl)) (A8 (qs_if (E5 (q_eq (K:=K) hu) (qe_ix (K:=K) (vi zR) A4) K6) (A8 (P3 (qe_mB (K:=K) R4 PySem.F.slot_list_extend PySem.F.type_list_extend (akR (K:=K)) (amD (vi vbi) (qe_ix (K:=K) (vi zR) A4) (M7 A3)) (qa_c (M5 (K:=K) (vi zR) (K2 A4) P9) A3)))) G8)))
   (A8 (E7 (vi vbi))))),?_⟩
  obtain ⟨a,ts,R,rfl,hR,hg,hl,hf,q⟩:=h;walk_at "rd";intro d nd;refine ⟨⟨_,.of (D3 hR.top nd)⟩,forL (xs:=ts.map V.ref) (fun i Y H2=>∃ (u:Option V) (ad:Str->Addr),Y=[some (.ref a),some (.ref d),u]/\Same H H2/\H2 d=some (.dK (B5 (F7 (R.take i)) fun y=>.ref (ad y)))/\DL (A0 H d (.dK [])) H2 (F7 (R.take i)) ad (E3 (R.take i))) ⟨none,fun _=>d,rfl,Same.new nd,A5,⟨by simp [F7,M3,G6],by simp [F7,M3,G6],by simp [F7,M3,G6]⟩⟩ (by rintro i Y H2 _ ⟨_,_,_,S,_⟩;exact .of (S _ _ hR.top)) ?_ ?_⟩
  .rintro i x Y H2 hx ⟨u,ad,rfl,S,hd,dl⟩;obtain ⟨t,ht,rfl⟩:=G4 hx;obtain ⟨z,hz,C8⟩:=Paired.at hR.row ht;have hT:C6 K H2 t ((z.1::z.2).map V.str):=.of (S _ _ C8);walk_at "rd";refine ⟨_,.inr hT,V.str z.1,T9 _ _,?_⟩;walk_at "rd"
   by_cases fN:z.1=("great" : Str)
   .rw [decide_eq_true fN];refine iteT ?_;obtain ⟨w,ps⟩:=z;obtain rfl:w=("great" : Str):=fN;obtain ⟨y,fs,rfl⟩:∃ y fs,ps=y::fs:=by
     cases ps with
     | nil=>exact absurd rfl (hg _ (L6 hz) rfl)
     | cons y fs=>exact ⟨y,fs,rfl⟩
    have etk:R.take (i+1)=R.take i++[(("great" : Str),y::fs)]:=K7 hz;have i8:(E3 (R.take i) y).length+fs.length<=10000:=by
     have:=hf (i+1) y
     rw [etk,kT,if_pos rfl,C1] at this;exact this
    have i4:(B5 (F7 (R.take i)) fun y=>V.ref (ad y)).length<=1000:=by
     rw [k9];unfold F7;have h1:=eC ((M3 (R.take i)).map (·.1)) [];have h2:(M3 (R.take i)).length<=(R.take i).length:=List.length_filterMap_le _ _;rw [A6,Z5] at h1;rw [E9] at h2;lia
    have L4:K5 (((("great" : Str),y::fs).1::(("great" : Str),y::fs).2).map V.str) 1=some (V.str y):=N2 (j:=1) rfl;have W6:cutV (((("great" : Str),y::fs).1::(("great" : Str),y::fs).2).map V.str) (some 2) none=fs.map V.str:=o7 _ 2;refine ⟨.inl ⟨_,.inl hd⟩,_,.inr hT,V.str y,L4,fun p np=>⟨_,D3 hd np,jO i4 (by decide),Sum.inr y,rfl,fun v hv=>?_,fun hn=>?_⟩⟩
    .rw [Q4] at hv
     by_cases hy:y∈F7 (R.take i)
     .rw [if_pos hy] at hv;cases hv;have fO:=dl.row y hy;have ndy:ad y≠d:=fun e=>by have:=dl.new y hy;rw [e,A5] at this;cases this
      have nHy:H (ad y)=none:=by have:=dl.new y hy;rw [A9 ndy] at this;exact this
      have T1:Same H2 (A0 H2 p (.lst [])):=Same.new np;generalize A0 H2 p (.lst [])=H3 at T1;refine ⟨R7 (T1 _ _ fO),rSlR.t (hT.same T1) (o9 (k:=2) (by decide) (by simp)) fun s ns=>?_⟩;rw [W6];have T2:Same H3 (A0 H3 s (.tup (fs.map V.str))):=Same.new ns;have hs:A0 H3 s (.tup (fs.map V.str)) s=some (.tup (fs.map V.str)):=A5;generalize A0 H3 s (.tup (fs.map V.str))=H4 at T2 hs;have T:=T1.trans T2;refine ⟨ad y,s,_,_,rfl,rfl,T _ _ fO,.of hs,by rw [A6,A6];exact P7 'a',(S.trans T).put nHy,ad,?_,?_⟩
      .rw [A9 ndy.symm,T _ _ hd,etk,sJ];unfold dd;rw [if_pos hy]
      .rw [etk,sJ];unfold dd;rw [if_pos hy,<- D8];refine ((dl.same T).app hy (E3 (R.take i) y++fs)).congr fun x _=>?_
       rw [kT]
       by_cases bO:x=y
       .subst bO;simp
       .simp [bO]
     .rw [if_neg hy] at hv;cases hv
    .have hy:y∉F7 (R.take i):=fun hy=>by rw [Q4,if_pos hy] at hn;cases hn
     have ndp:d≠p:=fun e=>by rw [<- e,hd] at np;cases np
     have n0:A0 H d (.dK []) p=none:=by rw [A9 ndp.symm];exact S.free np
     have dl2:=dl.more hy np n0;have bM:=dl2.put (b:=d) (o:=.dK (B5 (F7 (R.take i)++[y]) fun t=>if t=y then V.ref p else V.ref (ad t))) (u:=.dK []) A5;rw [eF (V.ref p) hy];have R3:A0 (A0 H2 p (.lst [])) d (.dK (B5 (F7 (R.take i)++[y]) fun t=>if t=y then V.ref p else V.ref (ad t))) p=some (.lst []):=by rw [A9 ndp.symm,A5]
     have f7:A0 (A0 H2 p (.lst [])) d (.dK (B5 (F7 (R.take i)++[y]) fun t=>if t=y then V.ref p else V.ref (ad t))) d=some (.dK (B5 (F7 (R.take i)++[y]) fun t=>if t=y then V.ref p else V.ref (ad t))):=A5;have S3:Same H (A0 (A0 H2 p (.lst [])) d (.dK (B5 (F7 (R.take i)++[y]) fun t=>if t=y then V.ref p else V.ref (ad t)))):=(S.trans (Same.new np)).put nd;generalize A0 (A0 H2 p (.lst [])) d (.dK (B5 (F7 (R.take i)++[y]) fun t=>if t=y then V.ref p else V.ref (ad t)))=H3 at bM R3 f7 S3;have hT3:C6 K H3 t (((("great" : Str),y::fs).1::(("great" : Str),y::fs).2).map V.str):=.of (S3 _ _ C8);refine ⟨R7 R3,rSlR.t hT3 (o9 (k:=2) (by decide) (by simp)) fun s ns=>?_⟩;rw [W6];have T2:Same H3 (A0 H3 s (.tup (fs.map V.str))):=Same.new ns;have hs:A0 H3 s (.tup (fs.map V.str)) s=some (.tup (fs.map V.str)):=A5;generalize A0 H3 s (.tup (fs.map V.str))=H4 at T2 hs;refine ⟨p,s,_,_,rfl,rfl,T2 _ _ R3,.of hs,by rw [A6];exact P7 (by simp;lia),(S3.trans T2).put (S.free np),fun t=>if t=y then p else ad t,?_,?_⟩
     .rw [A9 ndp,T2 _ _ f7,etk,sJ];unfold dd;rw [if_neg hy];refine congrArg (fun z=>some (HO.dK z)) (W1 fun x _=>?_);show (if x=y then V.ref p else V.ref (ad x))=V.ref (if x=y then p else ad x)
      by_cases bO:x=y
      .rw [if_pos bO,if_pos bO]
      .rw [if_neg bO,if_neg bO]
     .rw [etk,sJ];unfold dd;rw [if_neg hy,bT]
      have:=((bM.same T2).app (z:=y) (by simp) fs).congr (G:=E3 (R.take i++[(("great" : Str),y::fs)])) fun x _=>by
       rw [kT]
       by_cases bO:x=y
       .subst bO;have e0:E3 (R.take i) x=[]:=by
         unfold E3;rw [fY.mpr fun e he=>?_]
         .rfl
         .intro h;have h:e.1=x:=by simpa using h
          refine hy ?_;unfold F7;rw [l8];exact .inr (E2.mpr ⟨e,he,h⟩)
        simp [e0]
       .simp [bO]
      rw [if_pos rfl] at this;exact this
   .rw [decide_eq_false fN];refine iteF ⟨S,ad,?_,?_⟩
    .rw [show F7 (R.take (i+1))=F7 (R.take i) by unfold F7;rw [sH hz,kS fN,G7]];exact hd
    .rw [show F7 (R.take (i+1))=F7 (R.take i) by unfold F7;rw [sH hz,kS fN,G7]];refine dl.congr fun x _=>?_
     unfold E3;rw [sH hz,kS fN,G7]
  .rintro Y H2 ⟨u,ad,rfl,S,hd,dl⟩;walk_at "rd";rw [A6,hR.len,K9] at hd dl;exact q d ad H2 nd S hd (dl.old (Same.new nd))
theorem sc_steps_of:FnScope ["rules", "letters", "marks", "steps", "place", "letter", "mark", "forms", "case", "form", "rule"] ["rules", "letters", "marks"] (C3 T3):=G3
abbrev v9:List Str:=["rules", "letters", "marks", "steps", "place", "letter", "mark", "forms", "case", "form", "rule"]
theorem vbm:VS v9 T3 "rules" 0:=vq
theorem vbn:VS v9 T3 "letters" 1:=vq
theorem vbo:VS v9 T3 "marks" 2:=vq
theorem lH:VS v9 T3 "steps" 3:=vq
theorem vbq:VS v9 T3 "place" 4:=vq
theorem zS:VS v9 T3 "letter" 5:=vq
theorem vbs:VS v9 T3 "mark" 6:=vq
theorem vbt:VS v9 T3 "forms" 7:=vq
theorem vbu:VS v9 T3 "case" 8:=vq
theorem vbv:VS v9 T3 "form" 9:=vq
theorem zT:VS v9 T3 "rule" 10:=vq
theorem vbx:LS T3 "steps":=lq
theorem vby:LS T3 "place":=lq
theorem vbz:LS T3 "letter":=lq
theorem vbA:LS T3 "mark":=lq
theorem vbB:LS T3 "forms":=lq
theorem vbC:LS T3 "case":=lq
theorem vbD:LS T3 "form":=lq
theorem vbE:LS T3 "rule":=lq
theorem ah8(F:FunD K "steps_of" "steps_of" T3 f fd)(T:Txt P w K mg C)(G_forms_of:FO P w K mg base 1 "forms_of" ["rules"] [] (aiI K)):FnOk P w K mg base E8 2 f fd ["rules", "letters", "marks"] (aiK K):=by
 refine F.ok sc_steps_of ?_ ?_
 .rintro _ _ _ _ ⟨a,b,c,ts,R,L,M,F,rfl,_⟩;rfl
 .intro cdv A outer s H vs Q E hr h;have C4:=hu_of hr;have hu:=hr.units;refine ⟨_,QSs.out (A7 (D0 (n:=3) sc_steps_of.nd rfl vbx gO)
   (A7 (M0 PassesOwn.never (kN T.b_enumerate (qa_c (vi vbn) A3)) (aR (K:=K) (n:=2) (R8 ((D6 (n:=4) sc_steps_of.nd rfl vby (.inl rfl))) (R8 ((D6 (n:=5) sc_steps_of.nd rfl vbz (.inl rfl))) aQ))) (A8 (b0 C4 (vi lH) (vi zS) (M9 (qa_c (M9 (qa_c (kJ T.g_LETTER) (qa_c (vi vbq) (qa_c A4 A3)))) A3)))))
   (A7 (M0 PassesOwn.never (kN T.b_enumerate (qa_c (vi vbo) A3)) (aR (K:=K) (n:=2) (R8 ((D6 (n:=4) sc_steps_of.nd rfl vby (.inl rfl))) (R8 ((D6 (n:=6) sc_steps_of.nd rfl vbA (.inl rfl))) aQ))) (A8 (b0 C4 (vi lH) (vi vbs) (M9 (qa_c (M9 (qa_c (kJ T.g_MARK) (qa_c (vi vbq) (qa_c A4 A3)))) A3)))))
   (A7 (D0 (n:=7) sc_steps_of.nd rfl vbB (D1 G_forms_of (hm hr) (qa_c (vi vbm) A3)))
   (A7 (xF PassesOwn.never (vi vbt) (D6 (n:=5) sc_steps_of.nd rfl vbz (.inl rfl)) (A8 (M0 PassesOwn.never (amP T.b_enumerate (qa_c (g0 C4 (vi vbt) (vi zS)) A3)) (aR (K:=K) (n:=2) (R8 ((D6 (n:=8) sc_steps_of.nd rfl vbC (.inl rfl))) (R8 ((D6 (n:=9) sc_steps_of.nd rfl vbD (.inl rfl))) aQ))) (A8 (b0 C4 (vi lH) (vi vbv) (M9 (qa_c (M9 (qa_c (kJ T.g_LETTER) (qa_c (qe_ix (K:=K) (qe_ix (K:=K) (g0 C4 (vi lH) (vi zS)) A4) A4) (qa_c (vi vbu) A3)))) A3)))))))
   (A7 (M0 PassesOwn.never (O2 (K:=K) (vi vbm)) (D6 (n:=10) sc_steps_of.nd rfl vbE (.inl rfl)) (A8 (qs_if (E5 (q_eq (K:=K) hu) (qe_ix (K:=K) (vi zT) A4) K6) (A8 (b0 C4 (vi lH) (qe_ix (K:=K) (vi zT) A4) (qe_cT (kL (K:=K)) T.b_tuple kF (qa_c (b9  (Q7:CompOk ["rules", "letters", "marks", "steps", "place", "letter", "mark", "forms", "case", "form", "rule"] (C3 T3).names _ ["part", "steps"] 1 [3]) (gP (K:=K) (M5 (K:=K) (vi zT) (K2 A4) P9)) (fun _ _ _ _ _=>D6 (n:=0) (show List.Nodup (["part", "steps"]:List Str) by decide +kernel) rfl (Or.inl rfl)) (fun _ _ _ _ _=>b8) (fun _ _ _ _ _=>(qe_ix (K:=K) (g0 C4 (qv 1) (qv 0)) A4))) A3)))) G8)))
   (A8 (E7 (vi lH))))))))),?_⟩
  obtain ⟨a,b,c,ts,R,L,M,F,rfl,hR,md,hb,hc,O3,hRl,i8,mE,q⟩:=h;have B1:L.length+M.length+((F7 R).flatMap (E3 R)).length+(asKs R).length<=50000:=by
   unfold allKs at mE;simp only [C1] at mE;exact mE
  walk_at "rd";intro d nd;have ndR:∀ {x:Addr} {o:HO},H x=some o->x≠d:=fun h e=>by rw [e,nd] at h;cases h
  refine ⟨⟨_,D3 hb nd⟩,forE (xs:=L.map V.str) (fun i Y H2=>∃ (u v w x y z r:Option V),Y=[some (.ref a),some (.ref b),some (.ref c),some (.ref d),u,v,w,x,y,z,r]/\StI H H2 d (L.take i) F)
   ⟨none,none,none,none,none,none,none,rfl,Same.new nd,fun _=>d,A5,by simp [G6]⟩ (by rintro i Y H2 ⟨_,_,_,_,_,_,_,_,S⟩;exact S.same _ _ hb) ?_ ?_⟩
  .rintro i x t Y H2 hx ⟨u,v,w,x',y,z,r,rfl,S⟩ nt;obtain ⟨l,hl,rfl⟩:=G4 hx;have hi:i<L.length:=(I0.mp hl).1;walk_at "rd";refine ⟨_,.of A5,rfl,_,_,rfl,_,_,rfl,rfl,by decide,fun p np=>⟨by decide,fun p1 O6=>?_⟩⟩;rw [K7 hl];exact StI.put nd (((S.more (Same.new nt)).more (Same.new np)).more (Same.new O6)) (by rw [E9];lia) (by
    rw [md.lt i l hl];exact StepAt.one A5 (D3 A5 O6))
  rintro Y H2 ⟨u,v,w,x',y,z,r,rfl,S⟩;rw [A6,K9] at S;walk_at "rd";refine ⟨⟨_,S.same _ _ hc⟩,forE (xs:=M.map V.str) (fun i Y H2=>∃ (u v w x y z r:Option V),Y=[some (.ref a),some (.ref b),some (.ref c),some (.ref d),u,v,w,x,y,z,r]/\StI H H2 d (L++M.take i) F)
   ⟨u,v,w,x',y,z,r,rfl,by rw [Z6,G7];exact S⟩ (by rintro i Y H2 ⟨_,_,_,_,_,_,_,_,S⟩;exact S.same _ _ hc) ?_ ?_⟩
  .clear S;rintro i x t Y H2 hx ⟨u,v,w,x',y,z,r,rfl,S⟩ nt;obtain ⟨l,hl,rfl⟩:=G4 hx;have hi:i<M.length:=(I0.mp hl).1;walk_at "rd";refine ⟨_,.of A5,rfl,_,_,rfl,_,_,rfl,rfl,by decide,fun p np=>⟨by decide,fun p1 O6=>?_⟩⟩;rw [K7 hl,<- Q1];exact StI.put nd (((S.more (Same.new nt)).more (Same.new np)).more (Same.new O6)) (by rw [C1,E9];lia) (by
    rw [md.mr i l hl];exact StepAt.one A5 (D3 A5 O6))
  clear S H2 u v w x' y z r;rintro Y H2 ⟨u,v,w,x',y,z,r,rfl,S⟩;rw [A6,K9] at S;walk_at "rd";refine ⟨a,ts,R,rfl,hR.same S.same,fun z hz e=>md.ne z hz (.inr e),hRl,i8,fun fd af H3 nfd S3 uZ dl=>?_⟩;have nf0:H fd=none:=S.same.free nfd;have nf1:fd≠d:=fun e=>by
   obtain ⟨ad,h1,_⟩:=S.made;rw [<- e,nfd] at h1;cases h1
  have S':=S.more S3;have C8:=dl.row;clear S S3 dl nfd H2;refine ⟨fd,rfl,_,uZ,fun o=>forD (fun i Y H4=>∃ (u v w y z r:Option V),Y=[some (.ref a),some (.ref b),some (.ref c),some (.ref d),u,v,w,some (.ref fd),y,z,r]/\FoI H H4 d fd o (F7 R) af (E3 R) (L++M++((F7 R).take i).flatMap (E3 R)) F)
   ⟨u,v,w,y,z,r,rfl,⟨A5,fun y hy=>by rw [A9 (fun e=>by have:=C8 y hy;rw [e,uZ] at this;cases this)];exact C8 y hy,by rw [Z6,mR,G7];exact S'.frz uZ nf0 nf1⟩⟩ (by rintro i Y H4 ⟨_,_,_,_,_,_,_,h⟩;exact h.frz) ?_ ?_⟩
  .rintro i k v' Y H4 hk ⟨u,v,w,y,z,r,rfl,J⟩;obtain ⟨l,hl,e⟩:=G4 (f:=fun t=>((Sum.inr t:C5),V.ref (af t))) hk;obtain ⟨rfl,rfl⟩:=Prod.mk.inj e;have jA:l∈F7 R:=L6 hl;have hlL:=md.gl l jA;have hfl2:(((F7 R).take i).flatMap (E3 R)).length+(E3 R l).length<=((F7 R).flatMap (E3 R)).length:=by
    have e:(F7 R).flatMap (E3 R)=((F7 R).take i).flatMap (E3 R)++E3 R l++((F7 R).drop (i+1)).flatMap (E3 R):=by
     have:=V0 (i+1) (F7 R)
     rw [K7 hl] at this;rw [<- this,Z4,Z4,r8,mR,G7];rw [this]
    rw [e,C1,C1];lia
   walk_at "rd";refine ⟨V.ref (af l),.inl ⟨_,Sum.inr l,.inr ⟨o,J.frz⟩,rfl,by rw [Q4,if_pos jA]⟩,af l,rfl,⟨_,J.rows l jA⟩,forE1 (xs:=(E3 R l).map V.str) (fun j Y H5=>∃ (y z r:Option V),Y=[some (.ref a),some (.ref b),some (.ref c),some (.ref d),u,some (kV (Sum.inr l)),w,some (.ref fd),y,z,r]/\FoI H H5 d fd o (F7 R) af (E3 R) (L++M++((F7 R).take i).flatMap (E3 R)++(E3 R l).take j) F) ⟨y,z,r,rfl,by rw [Z6,G7];exact J⟩ (by rintro j Y H5 ⟨_,_,_,_,h⟩;exact h.rows l jA) ?_ ?_⟩
   .clear J y z r;rintro j x t Y H5 hx ⟨y,z,r,rfl,J⟩ nt;obtain ⟨f,hf,rfl⟩:=G4 hx;have hj:j<(E3 R l).length:=(I0.mp hf).1;have T1:Same H5 (A0 H5 t (.tup [.int ((j+1:Nat):Int),.str f])):=Same.new nt;have ht:A0 H5 t (.tup [.int ((j+1:Nat):Int),.str f]) t=some (.tup [.int ((j+1:Nat):Int),.str f]):=A5;generalize A0 H5 t (.tup [.int ((j+1:Nat):Int),.str f])=H6 at T1 ht ⊢
    have J6:=J.more T1;obtain ⟨ad,h1,h2⟩:=J6.st.made;have K4:l∈G6 [] (L++M++((F7 R).take i).flatMap (E3 R)++(E3 R l).take j):=by
     rw [l8];exact .inr (T8 _ (T8 _ (T8 _ hlL)))
    obtain ⟨tt,e1,e2⟩:=(h2 l K4).ex;rw [md.letter hlL] at e2;obtain ⟨t0,rfl,e3⟩:∃ t0,tt=[t0]/\H6 t0=some (tupT (2,(L.idxOf l:Int),0)):=by
     cases e2 with
     | cons h t=>cases t;exact ⟨_,rfl,h⟩
    walk_at "rd";refine ⟨_,.of ht,rfl,_,_,rfl,_,_,rfl,rfl,V.ref (ad l),.inl ⟨_,Sum.inr l,.inl h1,rfl,by rw [Q4,if_pos K4]⟩,?_⟩;walk_at "rd";refine ⟨_,.inr (.of e1),V.ref t0,T9 _ _,?_⟩;walk_at "rd";refine ⟨_,.inr (.of e3),V.int (L.idxOf l:Int),N2 (j:=1) rfl,by decide,fun p np=>⟨by decide,fun p1 O6=>?_⟩⟩;rw [K7 hf,<- Q1];exact FoI.put nd ((J6.more (Same.new np)).more (Same.new O6)) (by simp only [C1,E9];lia) (by
     rw [md.gr l jA j f hf];exact StepAt.one A5 (D3 A5 O6))
   .rintro Y H5 ⟨y,z,r,rfl,J⟩;rw [A6,K9] at J;refine ⟨⟨_,_,_,_,_,_,rfl⟩,?_⟩;rw [K7 hl,Z4,r8,mR,G7,<- Q1];exact J
  rintro Y H4 ⟨u,v,w,y,z,r,rfl,J⟩;rw [k9,K9] at J;have S5:=J.st.thaw (o:=.dK (B5 (F7 R) fun y=>V.ref (af y))) J.frz nf0 nf1;generalize A0 H4 fd (.dK (B5 (F7 R) fun y=>V.ref (af y)))=H5 at S5 ⊢
  clear J uZ C8;walk_at "rd";refine ⟨⟨_,.of (S5.same _ _ hR.top)⟩,forL (xs:=ts.map V.ref) (fun i Y H6=>∃ (r:Option V),Y=[some (.ref a),some (.ref b),some (.ref c),some (.ref d),u,v,w,some (.ref fd),y,z,r]/\StI H H6 d (L++M++(F7 R).flatMap (E3 R)++asKs (R.take i)) F) ⟨r,rfl,by rw [Z6];rw [show asKs []=[] from rfl,G7];exact S5⟩ (by rintro i Y H6 _ ⟨_,_,S⟩;exact .of (S.same _ _ hR.top)) ?_ ?_⟩
  .clear S5 r;rintro i x Y H6 hx ⟨r,rfl,S⟩;obtain ⟨t,ht,rfl⟩:=G4 hx;obtain ⟨zz,hz,C8⟩:=Paired.at hR.row ht;have j4:=L6 hz;have hT:C6 K H6 t ((zz.1::zz.2).map V.str):=.of (S.same _ _ C8);walk_at "rd";refine ⟨_,.inr hT,V.str zz.1,T9 _ _,?_⟩;walk_at "rd"
   by_cases has:zz.1=("as" : Str)
   .rw [decide_eq_true has];refine iteT ?_;obtain ⟨w1,ps⟩:=zz;obtain rfl:w1=("as" : Str):=has;obtain ⟨p,qs,rfl⟩:∃ p qs,ps=p::qs:=by
     cases ps with
     | nil=>exact absurd rfl (md.ne _ j4 (.inl rfl))
     | cons p qs=>exact ⟨p,qs,rfl⟩
    have W6:cutV (((("as" : Str),p::qs).1::(("as" : Str),p::qs).2).map V.str) (some 2) none=qs.map V.str:=o7 _ 2;have dE:qs.length<=1000:=by have:=O3 _ j4;simp only [L1] at this;lia
    have dF:=xY (R.take i);rw [E9] at dF;refine rSlR.t hT (o9 (k:=2) (by decide) (by simp)) fun s ns=>?_
    rw [W6];have T1:Same H6 (A0 H6 s (.tup (qs.map V.str))):=Same.new ns;have hs:A0 H6 s (.tup (qs.map V.str)) s=some (.tup (qs.map V.str)):=A5;generalize A0 H6 s (.tup (qs.map V.str))=H7 at T1 hs;have S7:=S.more T1;have hT7:C6 K H7 t (((("as" : Str),p::qs).1::(("as" : Str),p::qs).2).map V.str):=C6.same T1 hT;clear hT S;refine ⟨s,rfl,⟨_,.of hs⟩,compT (xs:=qs.map V.str) [some (.ref d)] rfl (fun D j ys H8=>∃ Z1:List Addr,ys=Z1.map V.ref/\AsI H H7 H8 d (L++M++(F7 R).flatMap (E3 R)++asKs (R.take i)) F Z1 ((qs.take j).map fun q=>(F q).headD (0,0,0))) (fun D nD=>⟨[],rfl,S7.more (Same.new nD),.nil,Same.new nD⟩) (by rintro D j ys H8 nD _ ⟨_,_,h⟩;exact .of (h.sm _ _ hs)) ?_ ?_⟩
    .rintro D j yv ys H8 nD hi hy ⟨Z1,rfl,J⟩ hD E6;obtain ⟨qq,hq,rfl⟩:=G4 hy;have pY:=md.pt _ j4 rfl qq (L6 hq);obtain ⟨st,P6⟩:=md.base pY;obtain ⟨ad,h1,h2⟩:=J.st.made;have K4:qq∈G6 [] (L++M++(F7 R).flatMap (E3 R)++asKs (R.take i)):=by
      rw [l8];refine .inr (T8 _ (T8 _ (E4.mpr pY)))
     obtain ⟨tt,e1,e2⟩:=(h2 qq K4).ex;rw [P6] at e2;obtain ⟨t0,rfl,e3⟩:∃ t0,tt=[t0]/\H8 t0=some (tupT st):=by
      cases e2 with
      | cons h t=>cases t;exact ⟨_,rfl,h⟩
     walk_at "rd";refine ⟨V.ref (ad qq),.inl ⟨_,Sum.inr qq,.inl h1,rfl,by rw [Q4,if_pos K4]⟩,?_⟩;walk_at "rd";have dB:Z1.length<=1000:=by
      have:=Paired.length J.pr
      rw [A6,E9] at this;lia
     refine ⟨_,.inr (.of e1),V.ref t0,T9 _ _,hD,by rw [A6];exact K1 'a',CW.put hi E6 ⟨Z1++[t0],by rw [D8];rfl,?_⟩⟩;refine AsI.putL (f:=D) ⟨J.st,?_,J.sm⟩ hD (S7.same.free nD) nD;rw [K7 hq,D8];refine Paired.snoc J.pr ?_;show H8 t0=some (tupT ((F qq).headD (0,0,0)));rw [P6];exact e3
    rintro D ys H8 nD ⟨Z1,rfl,J⟩ hD E6;rw [A6,K9] at J;rw [tup_r];refine rTupR.l (.of hD) fun p1 O6=>?_
    have L4:K5 (((("as" : Str),p::qs).1::(("as" : Str),p::qs).2).map V.str) 1=some (V.str p):=N2 (j:=1) rfl;have S8:Same H8 (A0 H8 p1 (.tup (Z1.map V.ref))):=Same.new O6;refine ⟨_,.inr (C6.same (J.sm.trans S8) hT7),V.str p,L4,?_⟩;rw [sL hz,xX,<- Q1];refine StI.put nd (J.st.more S8) (by simp only [C1];lia) ?_;rw [md.as _ j4 rfl p qs rfl];exact ⟨Z1,A5,L0 J.pr fun t s e=>S8 _ _ e⟩
   .rw [decide_eq_false has];refine iteF ?_;rw [sL hz,xW has,G7];exact S
  rintro Y H6 ⟨r,rfl,S⟩;rw [A6,hR.len,K9] at S;walk_at "rd";exact q d H6 nd S.same S.made
theorem aeb:FnScope ["self", "rules"] ["self", "rules"] (C3 eO):=G3
abbrev acW:List Str:=["self", "rules"]
theorem cU:VS acW eO "self" 0:=vq
theorem iE:VS acW eO "rules" 1:=vq
theorem aec(F:FunD K "__init__" "Order.__init__" eO f fd)(T:Txt P w K mg C)(G_has_rule:FO P w K mg base 1 "has_rule" ["rules", "word"] [] (spHas K))(G_jobs_of:FO P w K mg base 3 "jobs_of" ["rules"] [] (ano K))(G_check_letters:FO P w K mg base 2 "check_letters" ["rules", "jobs"] [] (aiJ K))(G_line_of:FO P w K mg base 4 "line_of" ["rules", "word"] [] (anp K))(G_steps_of:FO P w K mg base 2 "steps_of" ["rules", "letters", "marks"] [] (aiK K)):FnOk P w K mg base E8 5 f fd ["self", "rules"] (yB C):=by
 refine F.ok aeb ?_ ?_
 .rintro _ _ _ _ ⟨x,dx,a,ts,R,g,r1,r2,rfl,_⟩;rfl
 .intro cdv A outer s H vs Q E hr h;have C4:=hu_of hr;have hu:=hr.units;refine ⟨_,QSs.out (A7 (kK (K:=K) (vi cU) (D1 G_has_rule (hm hr) (qa_c (vi iE) (qa_c K6 A3))))
   (A7 (kK (K:=K) (vi cU) (D1 G_has_rule (hm hr) (qa_c (vi iE) (qa_c K6 A3))))
   (A7 (kK (K:=K) (vi cU) (D1 G_jobs_of (hm hr) (qa_c (vi iE) A3)))
   (A7 (P3 (D1 G_check_letters (hm hr) (qa_c (vi iE) (qa_c (u8 (K:=K) (vi cU)) A3))))
   (A7 (kK (K:=K) (vi cU) (D1 G_line_of (hm hr) (qa_c (vi iE) (qa_c K6 A3))))
   (A7 (kK (K:=K) (vi cU) (D1 G_line_of (hm hr) (qa_c (vi iE) (qa_c K6 A3))))
   (A8 (kK (K:=K) (vi cU) (D1 G_steps_of (hm hr) (qa_c (vi iE) (qa_c (u8 (K:=K) (vi cU)) (qa_c (u8 (K:=K) (vi cU)) A3)))))))))))),?_⟩
  obtain ⟨x,dx,a,ts,R,g,r1,r2,rfl,hx,hR,pl,q⟩:=h;have lp:∀ (f:Str) (y:V) (fs:List (Str×V)),(putF f y fs).length<=fs.length+1:=vZ;walk_at "rd";refine ⟨a,ts,R, "figures",rfl,hR,pl.len,fun H1 S1=>⟨C,dx,[],S1 _ _ hx,T.cl,T.na_figures,by decide,?_⟩⟩;generalize hF1:putF (Str.ofString "figures") (V.bl (hasW R (Str.ofString "figures"))) []=F1;have l1:F1.length<=1:=by rw [<- hF1];exact lp _ _ _
  have B2:SameBut x H (A0 H1 x (.ins C dx F1)):=(Same.but S1).at;have hx2:A0 H1 x (.ins C dx F1) x=some (.ins C dx F1):=A5;generalize A0 H1 x (.ins C dx F1)=H2 at B2 hx2;have hR2:=hR.but B2 hx;refine ⟨a,ts,R, "behind",rfl,hR2,pl.len,fun H3 S3=>⟨C,dx,F1,S3 _ _ hx2,T.cl,T.na_behind,by lia,?_⟩⟩;generalize hF2:putF (Str.ofString "behind") (V.bl (hasW R (Str.ofString "behind"))) F1=F2;have l2:F2.length<=2:=by rw [<- hF2];exact F8 (lp _ _ _) 'a'
  have B4:SameBut x H2 (A0 H3 x (.ins C dx F2)):=(Same.but S3).at;have mC:A0 H3 x (.ins C dx F2) x=some (.ins C dx F2):=A5;generalize A0 H3 x (.ins C dx F2)=H4 at B4 mC;have hR4:=hR2.but B4 hx2;refine ⟨a,ts,R,g,rfl,hR4,pl.len,pl.plen,pl.nc,pl.nb,fun j H5 nj S5 hj=>?_⟩;have njx:j≠x:=fun e=>by rw [e,mC] at nj;cases nj
  generalize hF3:putF (Str.ofString "jobs") (V.ref j) F2=F3;have l3:F3.length<=3:=by rw [<- hF3];exact F8 (lp _ _ _) 'a'
  have k3:F3.lookup (Str.ofString "jobs")=some (V.ref j):=by rw [<- hF3,N1,if_pos rfl]
  refine ⟨C,dx,F2,S5 _ _ mC,T.cl,T.na_jobs,by lia,?_⟩;rw [hF3];have B6:SameBut x H4 (A0 H5 x (.ins C dx F3)):=(Same.but S5).at;have pZ:A0 H5 x (.ins C dx F3) x=some (.ins C dx F3):=A5;have hj6:A0 H5 x (.ins C dx F3) j=some (.dK (B5 (keysP (C7 R)++U6 R) (jobG g))):=by rw [A9 njx];exact hj
  generalize A0 H5 x (.ins C dx F3)=H6 at B6 pZ hj6;have hR6:=hR4.but B6 mC;refine ⟨C,dx,F3,pZ,T.cl,T.na_jobs,_,k3,a,j,ts,R,_,_,rfl,hR6,hj6,fun z hz=>⟨pl.used hz,pl.zl z hz⟩,fun H7 S7=>?_⟩;refine ⟨a,ts,R, "row",r1,rfl,hR6.same S7,pl.len,F8 pl.f1 (by decide),pl.a1,fun ll L H8 nll S8 hll run cov=>?_⟩;have vA:=S8 _ _ (S7 _ _ pZ);have nlx:ll≠x:=fun e=>by rw [e,S7 _ _ pZ] at nll;cases nll
  have llen:L.length<=10000:=by
   rw [sC (kM _) run cov];exact F8 (nI _) pl.f1
  generalize hF4:putF (Str.ofString "letter_line") (V.ref ll) F3=F4;have l4:F4.length<=4:=by rw [<- hF4];exact F8 (lp _ _ _) 'a'
  refine ⟨C,dx,F3,vA,T.cl,T.na_letter_line,by lia,?_⟩;rw [hF4];have B9:SameBut x H6 (A0 H8 x (.ins C dx F4)):=(Same.but (S7.trans S8)).at;have vB:A0 H8 x (.ins C dx F4) x=some (.ins C dx F4):=A5;have qA:A0 H8 x (.ins C dx F4) ll=some (.lst (L.map V.str)):=by rw [A9 nlx];exact hll
  generalize A0 H8 x (.ins C dx F4)=H9 at B9 vB qA;have hR9:=hR6.but B9 pZ;refine ⟨a,ts,R, "marks",r2,rfl,hR9,pl.len,F8 pl.f2 (by decide),pl.a2,fun ml M X5 nml q0 vC run2 cov2=>?_⟩;have nmx:ml≠x:=fun e=>by rw [e,vB] at nml;cases nml
  have mlen:M.length<=10000:=by
   rw [sC (kM _) run2 cov2];exact F8 (nI _) pl.f2
  generalize hF5:putF (Str.ofString "mark_line") (V.ref ml) F4=F5;have l5:F5.length<=5:=by rw [<- hF5];exact F8 (lp _ _ _) 'a'
  refine ⟨C,dx,F4,q0 _ _ vB,T.cl,T.na_mark_line,by lia,?_⟩;rw [hF5];have B11:SameBut x H9 (A0 X5 x (.ins C dx F5)):=(Same.but q0).at;have n9:A0 X5 x (.ins C dx F5) x=some (.ins C dx F5):=A5;have z8:A0 X5 x (.ins C dx F5) ml=some (.lst (M.map V.str)):=by rw [A9 nmx];exact vC
  have z9:A0 X5 x (.ins C dx F5) ll=some (.lst (L.map V.str)):=by rw [A9 nlx];exact q0 _ _ qA
  generalize A0 X5 x (.ins C dx F5)=fK at B11 n9 z8 z9;have hR11:=hR9.but B11 vB;have kl:F5.lookup (Str.ofString "letter_line")=some (V.ref ll):=by rw [<- hF5,N1,if_neg 'c',<- hF4,N1,if_pos rfl]
  have km:F5.lookup (Str.ofString "mark_line")=some (V.ref ml):=by rw [<- hF5,N1,if_pos rfl]
  refine ⟨C,dx,F5,n9,T.cl,T.na_letter_line,_,kl,C,dx,F5,n9,T.cl,T.na_mark_line,_,km,a,ll,ml,ts,R,L,M,stepF R L M,rfl,hR11,yA pl ⟨run,cov⟩ ⟨run2,cov2⟩,z9,z8,pl.zl,pl.len,ak1 pl,F8 (ao1 pl ⟨run,cov⟩ ⟨run2,cov2⟩) (by decide),fun md H12 nmd Z0 qB=>⟨C,dx,F5,Z0 _ _ n9,T.cl,T.na_made,by lia,?_⟩⟩;have nmdx:md≠x:=fun e=>by rw [e,n9] at nmd;cases nmd
  have B:SameBut x H (A0 H12 x (.ins C dx (putF (Str.ofString "made") (V.ref md) F5))):=((B2.trans B4).trans ((B6.trans B9).trans (B11.trans (Same.but Z0)))).at;have fr:∀ {H':Hp} {y:Addr},SameBut x H H'->H' y=none->y≠x->H y=none:=fun {H' y} b n nx=>by
   cases e:H y with
   | none=>rfl
   | some o=>have:=b _ _ nx e;rw [n] at this;cases this
  have B44:=B2.trans B4;refine q j ll ml md L M _ (fr B44 nj njx) (fr ((B44.trans B6).trans (Same.but S7)) nll nlx) (fr ((B44.trans B6).trans B9) nml nmx) (fr (((B44.trans B6).trans B9).trans B11) nmd nmdx) B ⟨⟨dx,?_⟩,?_,?_,?_,qB.mod (Z0 _ _ n9) (by intro xs e;cases e) nmdx,⟨run,cov⟩,⟨run2,cov2⟩⟩
  .rw [A5,<- hF5,<- hF4,<- hF3,<- hF2,<- hF1];rfl
  .rw [A9 njx];exact Z0 _ _ (B11 _ _ njx (B9 _ _ njx hj6))
  .rw [A9 nlx];exact Z0 _ _ z9
  .rw [A9 nmx];exact Z0 _ _ z8
theorem aej:FnScope ["self"] ["self"] (C3 hV):=G3
abbrev ae8:List Str:=["self"]
theorem vbH:VS ae8 hV "self" 0:=vq
theorem aek(F:FunD K "letters" "Order.letters" hV f fd)(T:Txt P w K mg C):FnOk P w K mg base E8 1 f fd ["self"] (ak2 C):=by
 refine F.ok aej ?_ ?_
 .rintro _ _ _ _ ⟨x,j,ll,ml,md,g,R,L,M,rfl,_⟩;rfl
 .intro cdv A outer s H vs Q E hr h;have C4:=hu_of hr;have hu:=hr.units;refine ⟨_,QSs.out (A8 (E7 (qe_cT (aT (K:=K) (calm:=true)) T.b_list u7 (qa_c (u8 (K:=K) (vi vbH)) A3)))),?_⟩;obtain ⟨x,j,ll,ml,md,g,R,L,M,rfl,hO,q⟩:=h;obtain ⟨dx,h1⟩:=hO.ob;walk_at "rd";refine ⟨_,_,_,h1,T.cl,T.na_letter_line,_,agS _ _ _ _ _ _,?_⟩;walk_at "rd";exact rListR.l (.inl (.of hO.lets)) fun l nl=>q l nl
theorem afh:FnScope ["self"] ["self"] (C3 hX):=G3
abbrev age:List Str:=["self"]
theorem vbI:VS age hX "self" 0:=vq
theorem afi(F:FunD K "marks" "Order.marks" hX f fd)(T:Txt P w K mg C):FnOk P w K mg base E8 1 f fd ["self"] (aiM C):=by
 refine F.ok afh ?_ ?_
 .rintro _ _ _ _ ⟨x,j,ll,ml,md,g,R,L,M,rfl,_⟩;rfl
 .intro cdv A outer s H vs Q E hr h;have C4:=hu_of hr;have hu:=hr.units;refine ⟨_,QSs.out (A8 (E7 (qe_cT (aT (K:=K) (calm:=true)) T.b_list u7 (qa_c (u8 (K:=K) (vi vbI)) A3)))),?_⟩;obtain ⟨x,j,ll,ml,md,g,R,L,M,rfl,hO,q⟩:=h;obtain ⟨dx,h1⟩:=hO.ob;walk_at "rd";refine ⟨_,_,_,h1,T.cl,T.na_mark_line,_,ajs _ _ _ _ _ _,?_⟩;walk_at "rd";exact rListR.l (.inl (.of hO.mrks)) fun l nl=>q l nl
theorem ahm:FnScope ["self", "piece"] ["self", "piece"] (C3 eP):=G3
abbrev ae9:List Str:=["self", "piece"]
theorem vbJ:VS ae9 eP "self" 0:=vq
theorem vbK:VS ae9 eP "piece" 1:=vq
theorem ahn(F:FunD K "job" "Order.job" eP f fd)(T:Txt P w K mg C):FnOk P w K mg base E8 1 f fd ["self", "piece"] (yC C):=by
 refine F.ok ahm ?_ ?_
 .rintro _ _ _ _ ⟨x,j,ll,ml,md,p,g,R,L,M,rfl,_⟩;rfl
 .intro cdv A outer s H vs Q E hr h;have C4:=hu_of hr;have hu:=hr.units;refine ⟨_,QSs.out (A8 (E7 (sE C4 (u8 (K:=K) (vi vbJ)) (vi vbK)))),?_⟩;obtain ⟨x,j,ll,ml,md,p,g,R,L,M,rfl,hO,q⟩:=h;obtain ⟨dx,h1⟩:=hO.ob;walk_at "rd";refine ⟨_,_,_,h1,T.cl,T.na_jobs,_,agR _ _ _ _ _ _,j,rfl,.inl ⟨_,.inl hO.jobs⟩,_,k8 (k:=Sum.inr p) hO.jobs,?_⟩;rw [Q4]
  by_cases hp:p∈keysP (C7 R)++U6 R
  .rw [if_pos hp] at q ⊢
   exact q
  .rw [if_neg hp] at q ⊢
   exact q
theorem sc_figures_at:FnScope ["text", "at", "end"] ["text", "at"] (C3 iA):=G3
abbrev zU:List Str:=["text", "at", "end"]
theorem zV:VS zU iA "text" 0:=vq
theorem vbM:VS zU iA "at" 1:=vq
theorem zW:VS zU iA "end" 2:=vq
theorem vbO:LS iA "end":=lq
theorem agf(F:FunD K "figures_at" "figures_at" iA f fd)(T:Txt P w K mg C)(G_is_figure:FO P w K mg base 1 "is_figure" ["sign"] [] kR):FnOk P w K mg base E8 2 f fd ["text", "at"] alc:=by
 refine F.ok sc_figures_at ?_ ?_
 .rintro _ _ _ _ ⟨z,pre,rest,rfl,_⟩;rfl
 .intro cdv A outer s H vs Q E hr h;have C4:=hu_of hr;have hu:=hr.units;refine ⟨_,QSs.out (A7 (D0 (n:=2) sc_figures_at.nd rfl vbO (vi vbM))
   (A7 (rY PassesOwn.never (QW.pt (aP (E5 q_lt (vi zW) (qe_cB (q_len (K:=K)) T.b_len O1 (qa_c (vi zV) A3))) (eD (Y7 (K:=K) (D1 G_is_figure (hm hr) (qa_c (qe_ix (K:=K) (vi zV) (vi zW)) A3)))))) (A8 (wY (n:=2) sc_figures_at.nd rfl vbO A4 xA)))
   (A8 (E7 (M5 (K:=K) (vi zV) (K2 (vi vbM)) (K2 (vi zW))))))),?_⟩
  obtain ⟨z,pre,rest,rfl,hz,O3,q⟩:=h;walk_at "rd";have B1:z.length=pre.length+rest.length:=by
   have:=congrArg Z8 O3
   simp [Str.length] at this ⊢
   lia
  have hsz:z.length<=sizeLine:=P7 'a';refine rZ (fun m Y H2=>∃ (run left:List Nat),Y=[some (.str z),some (.int pre.length),some (.int ((pre++run).length:Nat))]/\H2=H/\rest=run++left/\rest.takeWhile figO=run++left.takeWhile figO/\m=left.length) rest.length ⟨[],rest,by simp,rfl,rfl,rfl,rfl⟩ ?_;rintro m Y H2 ⟨run,left,rfl,rfl,hr,htw,rfl⟩;have qC:z.cps.toList=pre++(run++left):=by rw [O3,hr]
  have qD:rest.length=run.length+left.length:=by rw [hr,C1]
  have ecut:cutS z (some (pre.length:Int)) (some (((pre++run).length:Nat):Int))=⟨run.toArray⟩:=by
   have:=yJ (y:=run) (rest:=left) qC
   rw [show (((pre++run).length:Nat):Int)=(pre.length:Int)+(run.length:Int) by rw [C1];lia];exact this
  have hpr:(pre++run).length=pre.length+run.length:=C1;walk_at "rd";refine ⟨hsz,iteD (fun C9=>⟨hsz,?_⟩) fun uU=>⟨hsz,?_⟩⟩
  .cases left with
   | nil=>simp at qD;lia
   | cons c l2=>
    refine ⟨c,?_,c,rfl,figO c,rfl,?_⟩
    .rw [qC,<- Q1];exact alb
    by_cases hf:figO c=true
    .rw [hf];refine iteT ⟨_,fun _ _ h=>h,l2.length,by simp,run++[c],by simp;lia,rfl,l2,by rw [hr];simp,?_,rfl⟩;rw [htw,qZ hf]
     simp
    .rw [mU] at hf;rw [hf];refine iteF ⟨hsz,?_⟩;rw [ecut];rw [htw,List.takeWhile_cons_of_neg (by simp [hf]),G7] at q;exact q
  .have hl0:left=[]:=q9.mp 'a';rw [htw,hl0,List.takeWhile_nil,G7] at q;rw [ecut];exact q
theorem sc_part_at:FnScope ["known", "text", "at", "figures", "two"] ["known", "text", "at", "figures"] (C3 cP):=G3
abbrev oH:List Str:=["known", "text", "at", "figures", "two"]
theorem vbP:VS oH cP "known" 0:=vq
theorem oI:VS oH cP "text" 1:=vq
theorem lI:VS oH cP "at" 2:=vq
theorem vbS:VS oH cP "figures" 3:=vq
theorem vbT:VS oH cP "two" 4:=vq
theorem vbU:LS cP "two":=lq
theorem ajO(F:FunD K "part_at" "part_at" cP f fd)(T:Txt P w K mg C)(G_is_figure:FO P w K mg base 1 "is_figure" ["sign"] [] kR)(G_figures_at:FO P w K mg base 2 "figures_at" ["text", "at"] [] alc):FnOk P w K mg base E8 3 f fd ["known", "text", "at", "figures"] ald:=by
 refine F.ok sc_part_at ?_ ?_
 .rintro _ _ _ _ ⟨d,z,g,pre,c,r,w,y,rfl,_⟩;rfl
 .intro cdv A outer s H vs Q E hr h;have C4:=hu_of hr;have hu:=hr.units;refine ⟨_,QSs.out (A7 (qs_if (QW.pt (aP (Y7 (K:=K) (vi vbS)) (eD (Y7 (K:=K) (D1 G_is_figure (hm hr) (qa_c (qe_ix (K:=K) (vi oI) (vi lI)) A3)))))) (A8 (E7 (D1 G_figures_at (hm hr) (qa_c (vi oI) (qa_c (vi lI) A3))))) G8)
   (A7 (D0 (n:=4) sc_part_at.nd rfl vbU (M5 (K:=K) (vi oI) (K2 (vi lI)) (K2 (qe_op (q_add (K:=K)) (vi lI) A4))))
   (A7 (qs_if (E5 (q_in (K:=K) hu) (vi vbT) (vi vbP)) (A8 (E7 (vi vbT))) G8)
   (A7 (qs_if (E5 (q_in (K:=K) hu) (qe_ix (K:=K) (vi oI) (vi lI)) (vi vbP)) (A8 (E7 (qe_ix (K:=K) (vi oI) (vi lI)))) G8)
   (A8 rX))))),?_⟩
  obtain ⟨d,z,g,pre,c,r,w,y,rfl,hd,hz,O3,hp,q⟩:=h;have hsz:z.length<=sizeLine:=P7 'a';have ha:K5 z.cps.toList (pre.length:Int)=some c:=by rw [O3];exact alb
  rw [eK] at hp
  cases w with
  | false=>
   rw [jP,if_neg N6] at hp;walk_at "rd"
   cases r with
   | nil=>
    rw [eJ] at hp
    by_cases h1:one c∈g
    .rw [if_pos h1] at hp;obtain rfl:=Option.some.inj hp;rw [agX O3];refine ⟨hsz,rInR.d (k8 (k:=Sum.inr (one c)) hd) ⟨_,rfl,?_⟩⟩;rw [kX,gF,decide_eq_true h1];exact iteT q
    .rw [if_neg h1] at hp;cases hp
   | cons e r=>
    rw [c0] at hp;have ec:cutS z (some (pre.length:Int)) (some ((pre.length:Int)+2))=L8 c e:=yJ (y:=[c,e]) (rest:=r) O3;rw [ec];refine ⟨hsz,rInR.d (k8 (k:=Sum.inr (L8 c e)) hd) ⟨_,rfl,?_⟩⟩;rw [kX,gF];refine iteD (fun h=>?_) fun h=>⟨hsz,c,ha,rInR.d (k8 (k:=Sum.inr (one c)) hd) ⟨_,rfl,?_⟩⟩
    .rw [if_pos h] at hp;obtain rfl:=Option.some.inj hp;exact q
    .rw [if_neg h] at hp
     by_cases h1:one c∈g
     .rw [if_pos h1] at hp;obtain rfl:=Option.some.inj hp;rw [kX,gF,decide_eq_true h1];exact iteT ⟨hsz,c,ha,q⟩
     .rw [if_neg h1] at hp;cases hp
  | true=>
   rw [Bool.true_and] at hp;walk_at "rd";refine ⟨hsz,c,ha,c,rfl,figO c,rfl,?_⟩
   by_cases hf:figO c=true
   .rw [hf];rw [if_pos hf] at hp;obtain rfl:=Option.some.inj hp;exact iteT ⟨z,pre,c::r,rfl,hz,O3,q⟩
   rw [if_neg hf] at hp;rw [mU] at hf;rw [hf];refine iteF ?_
   cases r with
   | nil=>
    rw [eJ] at hp
    by_cases h1:one c∈g
    .rw [if_pos h1] at hp;obtain rfl:=Option.some.inj hp;rw [agX O3];refine ⟨hsz,rInR.d (k8 (k:=Sum.inr (one c)) hd) ⟨_,rfl,?_⟩⟩;rw [kX,gF,decide_eq_true h1];exact iteT q
    .rw [if_neg h1] at hp;cases hp
   | cons e r=>
    rw [c0] at hp;have ec:cutS z (some (pre.length:Int)) (some ((pre.length:Int)+2))=L8 c e:=yJ (y:=[c,e]) (rest:=r) O3;rw [ec];refine ⟨hsz,rInR.d (k8 (k:=Sum.inr (L8 c e)) hd) ⟨_,rfl,?_⟩⟩;rw [kX,gF];refine iteD (fun h=>?_) fun h=>⟨hsz,c,ha,rInR.d (k8 (k:=Sum.inr (one c)) hd) ⟨_,rfl,?_⟩⟩
    .rw [if_pos h] at hp;obtain rfl:=Option.some.inj hp;exact q
    .rw [if_neg h] at hp
     by_cases h1:one c∈g
     .rw [if_pos h1] at hp;obtain rfl:=Option.some.inj hp;rw [kX,gF,decide_eq_true h1];exact iteT ⟨hsz,c,ha,q⟩
     .rw [if_neg h1] at hp;cases hp
theorem sc_cut:FnScope ["known", "text", "figures", "pieces", "parts", "at", "part"] ["known", "text", "figures"] (C3 s_cut):=G3
abbrev n_cut:List Str:=["known", "text", "figures", "pieces", "parts", "at", "part"]
theorem vbV:VS n_cut s_cut "known" 0:=vq
theorem vbW:VS n_cut s_cut "text" 1:=vq
theorem vbX:VS n_cut s_cut "figures" 2:=vq
theorem vbY:VS n_cut s_cut "pieces" 3:=vq
theorem vbZ:VS n_cut s_cut "parts" 4:=vq
theorem vb0:VS n_cut s_cut "at" 5:=vq
theorem vb1:VS n_cut s_cut "part" 6:=vq
theorem vb2:LS s_cut "pieces":=lq
theorem vb3:LS s_cut "parts":=lq
theorem vb4:LS s_cut "at":=lq
theorem vb5:LS s_cut "part":=lq
theorem anE(F:FunD K "cut" "cut" s_cut f fd)(T:Txt P w K mg C)(G_part_at:FO P w K mg base 3 "part_at" ["known", "text", "at", "figures"] [] ald):FnOk P w K mg base E8 4 f fd ["known", "text", "figures"] (sQ K):=by
 refine F.ok sc_cut ?_ ?_
 .rintro _ _ _ _ ⟨a,z,ks,w,rfl,_⟩;rfl
 .intro cdv A outer s H vs Q E hr h;have C4:=hu_of hr;have hu:=hr.units;refine ⟨_,QSs.out (A7 (D0 (n:=3) sc_cut.nd rfl vb2 (qe_cT (akG (K:=K) (calm:=true)) T.b_dict aku (qa_c (b9  (Q7:CompOk ["known", "text", "figures", "pieces", "parts", "at", "part"] (C3 s_cut).names _ ["piece"] 1 []) (O2 (K:=K) (vi vbV)) (fun _ _ _ _ _=>D6 (n:=0) (show List.Nodup (["piece"]:List Str) by decide +kernel) rfl (Or.inl rfl)) (fun _ _ _ _ _=>b8) (fun _ _ _ _ _=>(M9 (qa_c (qv 0) (qa_c qe_bl A3))))) A3)))
   (A7 (D0 (n:=4) sc_cut.nd rfl vb3 (M7 A3))
   (A7 (D0 (n:=5) sc_cut.nd rfl vb4 A4)
   (A7 (rY PassesOwn.never (E5 q_lt (vi vb0) (qe_cB (q_len (K:=K)) T.b_len O1 (qa_c (vi vbW) A3))) (A7 (D0 (n:=6) sc_cut.nd rfl vb5 (D1 G_part_at (hm hr) (qa_c (vi vbY) (qa_c (vi vbW) (qa_c (vi vb0) (qa_c (vi vbX) A3))))))
   (A7 (P3 (qe_mB (K:=K) R4 V3 V2 V5 (vi vbZ) (qa_c (vi vb1) A3)))
   (A8 (wY (n:=5) sc_cut.nd rfl vb4 (qe_cB (q_len (K:=K)) T.b_len O1 (qa_c (vi vb1) A3)) xA)))))
   (A8 (E7 (vi vbZ))))))),?_⟩
  obtain ⟨a,z,ks,w,rfl,hS,i4,hz,hw,q⟩:=h;walk_at "rd";refine ⟨⟨_,hS⟩,compL (xs:=ks.map V.str) [] rfl (fun D i ys H4=>∃ ts:List Addr,ys=ts.map V.ref/\Paired (fun t k=>H4 t=some (.tup [V.str k,V.bl true])) ts (ks.take i)/\Same H H4) (fun D nD=>⟨[],rfl,.nil,Same.new nD⟩) (by rintro D i ys H4 nD _ ⟨_,_,_,S⟩;exact S.seq hS) ?_ ?_⟩
  .rintro D i x ys H4 nD hi hx ⟨ts,rfl,P,S⟩ hD hy;obtain ⟨k,hk,rfl⟩:=G4 hx;rw [A6] at hi;walk_at "rd";refine ⟨by decide,fun t nt=>⟨D3 hD nt,K1 'a',CW.put (by rw [A6];exact hi) hy ⟨ts++[t],by rw [D8];rfl,?_,Same.put (fun b o h=>D3 (S b o h) nt) nD⟩⟩⟩;have hDt:D≠t:=fun e=>by rw [e,nt] at hD;cases hD
   rw [r0,hk,Option.toList_some];refine Paired.snoc (L0 P fun r k h=>?_) (by rw [A9 hDt.symm,A5]);rw [A9 (fun e=>by rw [e,hD] at h;cases h)];exact D3 h nt
  rintro D ys H4 nD ⟨ts,rfl,P,S⟩ hD hy;rw [A6,K9] at P;have P2:Paired (fun t (kx:C5×V)=>C6 K H4 t [kV kx.1,kx.2]) ts (kvOf ks):=by
   clear hD hy nD S i4 hS q hw
   induction P with
   | nil=>exact .nil
   | cons h t ih=>exact .cons (.of h) ih
  refine ⟨rfl,D,ts,kvOf ks,rfl,.of hD,P2,fun d nd=>?_⟩;rw [show Y5 [] (kvOf ks)=kvOf (G6 [] ks) from afB ks []];have S1:Same H (A0 H4 d (.dK (kvOf (G6 [] ks)))):=fun b o h=>D3 (S b o h) nd
  have hd:A0 H4 d (.dK (kvOf (G6 [] ks))) d=some (.dK (kvOf (G6 [] ks))):=A5;generalize A0 H4 d (.dK (kvOf (G6 [] ks)))=H5 at S1 hd;have hcg:∀ l,cutF w (G6 [] ks) l=cutF w ks l:=ajB fun x=>by rw [l8];simp
  generalize G6 [] ks=g at hd hcg;refine fun p np=>rZ (fun m Y H6=>∃ (pre rest:List Nat) (ps:List Str) (u:Option V),Y=[some (.ref a),some (.str z),some (.bl w),some (.ref d),some (.ref p),some (.int pre.length),u]/\Same H5 H6/\H6 p=some (.lst (ps.map V.str))/\z.cps.toList=pre++rest/\(cutF w g z.cps.toList).1=pre.length+(cutF w g rest).1/\(cutF w g z.cps.toList).2=ps++(cutF w g rest).2/\ps.length<=pre.length/\m=rest.length) z.cps.toList.length
   ⟨[],z.cps.toList,[],none,rfl,Same.new np,A5,rfl,by simp,rfl,F9 _,rfl⟩ ?_
  rintro m Y H6 ⟨pre,rest,ps,u,rfl,S6,h6,O3,qE,Y9,L5,rfl⟩;have B1:z.length=pre.length+rest.length:=by
   have:=congrArg Z8 O3
   simp [Str.length] at this ⊢
   lia
  walk_at "rd";refine ⟨P7 'a',iteD (fun C9=>?_) fun uU=>?_⟩
  .cases rest with
   | nil=>simp at B1;lia
   | cons c r=>
    cases hy:partF w g (c::r) with
    | none=>
     exfalso
     rw [aV hy] at qE;have qF:=hw;unfold c9 at qF;rw [<- hcg,qE] at qF;simp at B1 qF;lia
    | some y=>
     refine ⟨_,fun _ _ h=>h,d,z,g,pre,c,r,w,y,rfl,S6 _ _ hd,hz,O3,hy,?_⟩;obtain ⟨rest',e1,e2,e3⟩:=v7 hy;rw [e2] at qE Y9;have el:y.cps.toList.length=y.length:=by simp [Str.length]
     have erl:(c::r).length=y.length+rest'.length:=by rw [e1,C1,el]
     refine ⟨R7 h6,appOk h6 (by rw [A6];exact K1 'a') ?_⟩;walk_at "rd";refine ⟨P7 'a',rest'.length,by rw [L1] at erl;lia,pre++y.cps.toList,by rw [C1,el];lia,S6.put np,rest',ps++[y],by rw [A5,D8];rfl,O3.trans (by rw [Q1];exact congrArg (pre++·) e1),by rw [C1,el,qE];dsimp only;lia,by rw [Y9,Q1];rfl,by rw [C1,C1,el,O4];lia,rfl⟩
  .have hr:rest=[]:=q9.mp 'a';rw [hr] at qE Y9;refine q p H6 (S1.free np) (S1.trans S6) ?_;rw [h6,<- hcg,Y9];show some (HO.lst (ps.map V.str))=some (HO.lst ((ps++[]).map V.str));rw [G7]
theorem afj:FnScope ["self"] ["self"] (C3 iB):=G3
abbrev agg:List Str:=["self"]
theorem vb6:VS agg iB "self" 0:=vq
theorem afk(F:FunD K "known" "Order.known" iB f fd)(T:Txt P w K mg C):FnOk P w K mg base E8 1 f fd ["self"] (yL C):=by
 refine F.ok afj ?_ ?_
 .rintro _ _ _ _ ⟨x,j,ll,ml,md,g,R,L,M,rfl,_⟩;rfl
 .intro cdv A outer s H vs Q E hr h;have C4:=hu_of hr;have hu:=hr.units;refine ⟨_,QSs.out (A8 (E7 (qe_cT (aT (K:=K) (calm:=true)) T.b_list u7 (qa_c (u8 (K:=K) (vi vb6)) A3)))),?_⟩;obtain ⟨x,j,ll,ml,md,g,R,L,M,rfl,hO,q⟩:=h;obtain ⟨dx,h1⟩:=hO.ob;walk_at "rd";refine ⟨_,_,_,h1,T.cl,T.na_jobs,_,agR _ _ _ _ _ _,?_⟩;walk_at "rd";refine rListR.d (.of hO.jobs) fun l nl=>?_
  rw [show (B5 (keysP (C7 R)++U6 R) (jobG g)).map (fun kv=>kV kv.1)=(D7 R).map V.str by unfold B5 D7;rw [Z7];rfl];exact q l nl
theorem afl:FnScope ["self", "piece"] ["self", "piece"] (C3 eQ):=G3
abbrev adV:List Str:=["self", "piece"]
theorem vb7:VS adV eQ "self" 0:=vq
theorem vb8:VS adV eQ "piece" 1:=vq
theorem afm(F:FunD K "steps" "Order.steps" eQ f fd)(T:Txt P w K mg C):FnOk P w K mg base E8 1 f fd ["self", "piece"] (sR C):=by
 refine F.ok afl ?_ ?_
 .rintro _ _ _ _ ⟨x,j,ll,ml,md,p,g,R,L,M,rfl,_⟩;rfl
 .intro cdv A outer s H vs Q E hr h;have C4:=hu_of hr;have hu:=hr.units;refine ⟨_,QSs.out (A8 (E7 (amy C4 (u8 (K:=K) (vi vb7)) (vi vb8) (M9 A3)))),?_⟩;obtain ⟨x,j,ll,ml,md,p,g,R,L,M,rfl,hO,q⟩:=h;obtain ⟨dx,h1⟩:=hO.ob;obtain ⟨ad,a1,a2⟩:=hO.made;walk_at "rd";refine ⟨_,_,_,h1,T.cl,T.na_made,_,ale _ _ _ _ _ _,md,rfl,.inl ⟨_,.inl a1⟩,fun e ne=>⟨_,k8 (k:=Sum.inr p) (D3 a1 ne),?_⟩⟩;rw [Q4];have S:Same H (A0 H e (.tup [])):=Same.new ne
  by_cases hp:p∈G6 [] (allKs R L M)
  .rw [if_pos hp];exact q _ _ S ((a2 p hp).same S)
  .rw [if_neg hp];refine q _ _ S ⟨[],A5,?_⟩;rw [yM fun h=>hp ((l8 _ _ _).mpr (.inr h))];exact .nil
theorem ah9:FnScope ["order", "text"] ["order", "text"] (C3 nX):=G3
abbrev afK:List Str:=["order", "text"]
theorem vb9:VS afK nX "order" 0:=vq
theorem vca:VS afK nX "text" 1:=vq
theorem aia(F:FunD K "parts_of" "parts_of" nX f fd)(T:Txt P w K mg C)(G3_cut:FO P w K mg base 4 "cut" ["known", "text", "figures"] [] (sQ K))(G_Order_known:MO P w K mg base 1 C "known" ["self"] (yL C)):FnOk P w K mg base E8 5 f fd ["order", "text"] (sS C):=by
 refine F.ok ah9 ?_ ?_
 .rintro _ _ _ _ ⟨x,j,ll,ml,md,z,g,R,L,M,rfl,_⟩;rfl
 .intro cdv A outer s H vs Q E hr h;have C4:=hu_of hr;have hu:=hr.units;refine ⟨_,QSs.out (A8 (E7 (D1 G3_cut (hm hr) (qa_c (amK (vi vb9) G_Order_known (hm hr)) (qa_c (vi vca) (qa_c (u8 (K:=K) (vi vb9)) A3)))))),?_⟩;obtain ⟨x,j,ll,ml,md,z,g,R,L,M,rfl,hO,hk,hz,hw,q⟩:=h;obtain ⟨dx,h1⟩:=hO.ob;walk_at "rd";refine ⟨_,_,h1,xQ _ _ _ _ _ _ 'c',x,j,ll,ml,md,g,R,L,M,rfl,hO,fun l nl=>?_⟩;have S:Same H (A0 H l (.lst ((D7 R).map V.str))):=Same.new nl;exact ⟨_,_,_,S _ _ h1,T.cl,T.na_figures,_,aeg _ _ _ _ _ _,l,z,D7 R,_,rfl,.of A5,hk,hz,hw,fun l2 H2 n2 S2 h2=>q l2 H2 (S.free n2) (S.trans S2) h2⟩
theorem aib:FnScope ["order", "part"] ["order", "part"] (C3 nY):=G3
abbrev afL:List Str:=["order", "part"]
theorem vcb:VS afL nY "order" 0:=vq
theorem zX:VS afL nY "part" 1:=vq
theorem aic(F:FunD K "steps_by" "steps_by" nY f fd)(T:Txt P w K mg C)(G_is_figure:FO P w K mg base 1 "is_figure" ["sign"] [] kR)(G_Order_steps:MO P w K mg base 1 C "steps" ["self", "piece"] (sR C)):FnOk P w K mg base E8 2 f fd ["order", "part"] (agY C):=by
 refine F.ok aib ?_ ?_
 .rintro _ _ _ _ ⟨x,j,ll,ml,md,c,r,y,g,R,L,M,rfl,_⟩;rfl
 .intro cdv A outer s H vs Q E hr h;have C4:=hu_of hr;have hu:=hr.units;refine ⟨_,QSs.out (A7 (qs_if (QW.pt (aP (Y7 (K:=K) (u8 (K:=K) (vi vcb))) (eD (Y7 (K:=K) (D1 G_is_figure (hm hr) (qa_c (qe_ix (K:=K) (vi zX) A4) A3)))))) (A8 (E7 (M9 (qa_c (M9 (qa_c (kJ T.g_FIGURES) (qa_c (qe_cT arJ T.b_int ark (qa_c (vi zX) A3)) (qa_c A4 A3)))) A3)))) G8)
   (A8 (E7 (akN (vi vcb) G_Order_steps (hm hr) (qa_c (vi zX) A3))))),?_⟩
  obtain ⟨x,j,ll,ml,md,c,r,y,g,R,L,M,rfl,hy,E6,hO,hf,q⟩:=h;obtain ⟨dx,h1⟩:=hO.ob;have hhd:y.cps.toList.headD 0=c:=by rw [hy];rfl
  walk_at "rd";refine ⟨_,_,_,h1,T.cl,T.na_figures,_,aeg _ _ _ _ _ _,?_⟩;walk_at "rd";have fin:stepY R L M y=stepF R L M y->∃ x_5 x_6,H x=some (HO.ins C x_5 x_6)/\dU (Str.ofString "steps") x_6=none/\sR C [V.ref x,V.str y] H Q E0:=fun e=>⟨_,_,h1,xQ _ _ _ _ _ _ 'c',x,j,ll,ml,md,y,g,R,L,M,rfl,hO,by rw [<- e];exact q⟩
  by_cases hw:hasW R "figures"=true
  .rw [if_pos hw];refine ⟨P7 'a',c,by rw [hy];exact T9 _ _,c,rfl,?_⟩
   by_cases hc:figO c=true
   .have hsy:stepY R L M y=[(1,((mW y.cps.toList:Nat):Int),0)]:=by unfold stepY;rw [hw,hhd,hc];rfl
    have hAD:=hf hw (by rw [hhd];exact hc);rw [hc];walk_at "rd";refine ⟨hAD,by rw [<- lenL,hy];simp,E6,by decide,fun p np=>⟨by decide,fun p1 O6=>?_⟩⟩;refine q p1 _ ((Same.new np).trans (Same.new O6)) ?_;rw [hsy];exact StepAt.one A5 (D3 A5 O6)
   .rw [mU] at hc;rw [hc];walk_at "rd";exact fin (by unfold stepY;rw [hhd,hc,Bool.and_false,if_neg N6])
  .rw [if_neg hw];rw [mU] at hw;exact fin (by rw [amS hw])
theorem aid:FnScope ["made", "place"] ["made", "place"] (C3 nZ):=G3
abbrev afM:List Str:=["made", "place"]
theorem zY:VS afM nZ "made" 0:=vq
theorem vce:VS afM nZ "place" 1:=vq
theorem aie(F:FunD K "add_mark" "add_mark" nZ f fd)(T:Txt P w K mg C):FnOk P w K mg base E8 1 f fd ["made", "place"] (agZ K):=by
 refine F.ok aid ?_ ?_
 .rintro _ _ _ _ ⟨l,p,H0,es,U,rfl,_⟩;rfl
 .intro cdv A outer s H vs Q E hr h;have C4:=hu_of hr;have hu:=hr.units;refine ⟨_,QSs.out (g4 (qs_if (arm (Y7 (K:=K) (vi zY))) (A8 (P3 (qe_mB (K:=K) R4 V3 V2 V5 (vi zY) (qa_c (M9 (qa_c (kJ T.g_MARK) (qa_c A4 (qa_c (M7 A3) (qa_c A4 A3))))) A3)))) G8)
   (A8 (P3 (qe_mB (K:=K) R4 V3 V2 V5 (qe_ix (K:=K) (qe_ix (K:=K) (vi zY) (qe_un q_neg A4)) A4) (qa_c (vi vce) A3))))),?_⟩
  obtain ⟨l,p,H0,es,U,rfl,J,hU,hM,q⟩:=h;walk_at "rd";refine cK (fun Y H1=>∃ (es':List (Addr×Addr)) (e:Addr×Addr) (U':List E1) (u:E1),Y=[some (.ref l),some (.int p)]/\UnI H0 H1 l (es'++[e]) (U'++[u])/\addM U p=U'++[(u.1,u.2.1,u.2.2.1++[p],u.2.2.2)]/\u.2.2.1.length<=10000) ?_ ?_
  .walk_at "rd";refine ⟨_,xB J.top,?_⟩
   by_cases he:es=[]
   .subst he;have hU0:=ajE J.row;subst hU0;simp only [bV,List.isEmpty_nil,Bool.not_true,Bool.not_false,if_true];refine ⟨R7 J.top,fun m nm=>⟨by decide,fun t nt=>appOk ((Same.new nm).trans (Same.new nt) _ _ J.top) (by decide) ⟨[],(t,m),[],(0,0,[],0),?_,rfl,by decide⟩⟩⟩;exact J.push nm nt
   .obtain ⟨es',e,rfl⟩:=yQ he;have hUn:U≠[]:=fun h=>by subst h;have:=Paired.length J.row;simp at this
    obtain ⟨U',u,rfl⟩:=yQ hUn;have N0:((es'++[e]).map fun e=>V.ref e.1).isEmpty=false:=by simp
    rw [N0];simp only [Bool.not_false,Bool.not_true,Bool.false_eq_true,if_false];refine ⟨es',e,U',u,J,?_,hM u (by simp)⟩;unfold addM;rw [List.getLast?_append,List.getLast?_singleton]
    simp
  rintro Y H1 ⟨es',e,U',u,rfl,J1,ea,hul⟩;obtain ⟨hr,hu⟩:=wU J1.row;have L4:K5 ((es'++[e]).map fun e=>V.ref e.1) (-1)=some (V.ref e.1):=by rw [D8];exact aiq _ _
  walk_at "rd";refine ⟨_,.inl (.of J1.top),_,L4,?_⟩;walk_at "rd";refine ⟨_,.inr (.of hu.1),V.ref e.2,N2 (j:=2) rfl,R7 hu.2,appOk hu.2 (by rw [A6];exact K1 'a') ?_⟩;refine q (es'++[e]) _ ?_;rw [ea];exact J1.mark p
theorem sc_add_part:FnScope ["order", "made", "part", "kind", "worth", "case"] ["order", "made", "part"] (C3 p7):=G3
abbrev lJ:List Str:=["order", "made", "part", "kind", "worth", "case"]
theorem vcf:VS lJ p7 "order" 0:=vq
theorem vcg:VS lJ p7 "made" 1:=vq
theorem vch:VS lJ p7 "part" 2:=vq
theorem vci:VS lJ p7 "kind" 3:=vq
theorem vcj:VS lJ p7 "worth" 4:=vq
theorem vck:VS lJ p7 "case" 5:=vq
theorem vcl:LS p7 "kind":=lq
theorem vcm:LS p7 "worth":=lq
theorem vcn:LS p7 "case":=lq
theorem aif(F:FunD K "add_part" "add_part" p7 f fd)(T:Txt P w K mg C)(G_steps_by:FO P w K mg base 2 "steps_by" ["order", "part"] [] (agY C))(G_add_mark:FO P w K mg base 1 "add_mark" ["made", "place"] [] (agZ K)):FnOk P w K mg base E8 3 f fd ["order", "made", "part"] (yN C):=by
 refine F.ok sc_add_part ?_ ?_
 .rintro _ _ _ _ ⟨x,l,j,ll,ml,md,c,r,y,g,R,L,M,H0,es,U,rfl,_⟩;rfl
 .intro cdv A outer s H vs Q E hr h;have C4:=hu_of hr;have hu:=hr.units;refine ⟨_,QSs.out (A8 (M0 PassesOwn.never (gP (K:=K) (D1 G_steps_by (hm hr) (qa_c (vi vcf) (qa_c (vi vch) A3)))) (aR (K:=K) (n:=3) (R8 ((D6 (n:=3) sc_add_part.nd rfl vcl (.inl rfl))) (R8 ((D6 (n:=4) sc_add_part.nd rfl vcm (.inl rfl))) (R8 ((D6 (n:=5) sc_add_part.nd rfl vcn (.inl rfl))) aQ)))) (A8 (qs_if (E5 (q_eq (K:=K) hu) (vi vci) (kJ T.g_MARK)) (A8 (P3 (D1 G_add_mark (hm hr) (qa_c (vi vcg) (qa_c (vi vcj) A3))))) (A8 (P3 (qe_mB (K:=K) R4 V3 V2 V5 (vi vcg) (qa_c (M9 (qa_c (vi vci) (qa_c (vi vcj) (qa_c (M7 A3) (qa_c (vi vck) A3))))) A3)))))))),?_⟩;obtain ⟨x,l,j,ll,ml,md,c,r,y,g,R,L,M,H0,es,U,rfl,hy,E6,hO,hf,J,hs,hU,hM,q⟩:=h;walk_at "rd";refine ⟨x,j,ll,ml,md,c,r,y,g,R,L,M,rfl,hy,E6,hO.same J.same,hf,fun a H1 S1 P6=>?_⟩;obtain ⟨ts,e1,e2⟩:=P6.ex;obtain ⟨H0',B0,J0,tp⟩:=(J.more S1).cut;have e1':=tp _ _ e1;have e2':=L0 e2 fun t s (e:H1 t=some (tupT s))=>(show H0' t=some (tupT s) from tp _ _ e)
  generalize stepY R L M y=ss at hs e2 e2' q;refine ⟨a,rfl,⟨_,.of e1⟩,forT (xs:=ts.map V.ref) (fun i Y H2=>∃ (u v w:Option V) (es:List (Addr×Addr)),Y=[some (.ref x),some (.ref l),some (.str y),u,v,w]/\UnI H0' H2 l es ((ss.take i).foldl addS U)) ⟨none,none,none,es,rfl,J0⟩ (by rintro i Y H2 _ ⟨_,_,_,_,_,h⟩;exact .of (h.same _ _ e1')) ?_ ?_⟩
  .rintro i v Y H2 hv ⟨u1,u2,u3,es,rfl,J2⟩;obtain ⟨t,ht,rfl⟩:=G4 hv;obtain ⟨s',uP,hts⟩:=Paired.at e2' ht;have hi:i<ss.length:=(I0.mp uP).1;have U9:=yO (ss.take i) U;have pM:=yP (ss.take i) U 9000 hM;rw [E9] at U9 pM;have et:(ss.take (i+1)).foldl addS U=addS ((ss.take i).foldl addS U) s':=by rw [K7 uP,aF];rfl
   have qG:C6 K H2 t [V.int s'.1,V.int s'.2.1,V.int s'.2.2]:=.of (J2.same _ _ hts);walk_at "rd";refine ⟨_,qG,rfl,_,_,rfl,_,_,rfl,_,_,rfl,rfl,?_⟩;walk_at "rd";rw [et];generalize (ss.take i).foldl addS U=U2 at J2 U9 pM;refine iteD (fun e=>⟨l,s'.2.1,H0',es,U2,rfl,J2,by lia,fun u hu=>by have:=pM u hu;lia,fun es' H3 J3=>?_⟩) fun e=>⟨R7 J2.top,fun m nm=>⟨by decide,fun t2 j5=>appOk ((Same.new nm).trans (Same.new j5) _ _ J2.top) (by rw [A6,Paired.length J2.row];exact K1 'a') ?_⟩⟩
   .unfold addS;rw [if_pos e];exact ⟨es',J3⟩
   .unfold addS;rw [if_neg e];exact ⟨_,J2.push nm j5⟩
  rintro Y H2 ⟨u1,u2,u3,es,rfl,J2⟩;rw [A6,Paired.length e2,K9] at J2;exact q es H2 (J2.base B0)
theorem sc_units:FnScope ["order", "text", "made", "part"] ["order", "text"] (C3 aZ):=G3
abbrev tP:List Str:=["order", "text", "made", "part"]
theorem vco:VS tP aZ "order" 0:=vq
theorem vcp:VS tP aZ "text" 1:=vq
theorem vcq:VS tP aZ "made" 2:=vq
theorem vcr:VS tP aZ "part" 3:=vq
theorem vcs:LS aZ "made":=lq
theorem vct:LS aZ "part":=lq
theorem am6(F:FunD K "units" "units" aZ f fd)(T:Txt P w K mg C)(G_parts_of:FO P w K mg base 5 "parts_of" ["order", "text"] [] (sS C))(G_add_part:FO P w K mg base 3 "add_part" ["order", "made", "part"] [] (yN C)):FnOk P w K mg base E8 6 f fd ["order", "text"] (yR C):=by
 refine F.ok sc_units ?_ ?_
 .rintro _ _ _ _ ⟨x,j,ll,ml,md,z,g,R,L,M,rfl,_⟩;rfl
 .intro cdv A outer s H vs Q E hr h;have C4:=hu_of hr;have hu:=hr.units;refine ⟨_,QSs.out (A7 (D0 (n:=2) sc_units.nd rfl vcs (M7 A3))
   (A7 (M0 PassesOwn.never (O2 (K:=K) (D1 G_parts_of (hm hr) (qa_c (vi vco) (qa_c (vi vcp) A3)))) (D6 (n:=3) sc_units.nd rfl vct (.inl rfl)) (A8 (P3 (D1 G_add_part (hm hr) (qa_c (vi vco) (qa_c (vi vcq) (qa_c (vi vcr) A3)))))))
   (A8 (E7 (b9  (Q7:CompOk ["order", "text", "made", "part"] (C3 aZ).names _ ["kind", "worth", "marks", "case"] 4 []) (O2 (K:=K) (vi vcq)) (fun _ _ _ _ _=>(aR (K:=K) (n:=4) (R8 (D6 (n:=0) (show List.Nodup (["kind", "worth", "marks", "case"]:List Str) by decide +kernel) rfl (Or.inl rfl)) (R8 (D6 (n:=1) (show List.Nodup (["kind", "worth", "marks", "case"]:List Str) by decide +kernel) rfl (Or.inl rfl)) (R8 (D6 (n:=2) (show List.Nodup (["kind", "worth", "marks", "case"]:List Str) by decide +kernel) rfl (Or.inl rfl)) (R8 (D6 (n:=3) (show List.Nodup (["kind", "worth", "marks", "case"]:List Str) by decide +kernel) rfl (Or.inl rfl)) aQ)))))) (fun _ _ _ _ _=>b8) (fun _ _ _ _ _=>(M9 (qa_c (qv 0) (qa_c (qv 1) (qa_c (qe_cT (kL (K:=K)) T.b_tuple kF (qa_c (qv 2) A3)) (qa_c (qv 3) A3))))))))))),?_⟩
  obtain ⟨x,j,ll,ml,md,z,g,R,L,M,rfl,hO,hk,hz,hw,hs,q⟩:=h;have hf:=yT (w:=hasW R "figures") (g:=D7 R) _ z.cps.toList (B3 _);have N0:=nS (w:=hasW R "figures") (g:=D7 R) _ z.cps.toList (B3 _);have mF:=(kY (w:=hasW R "figures") (g:=D7 R) _ z.cps.toList (B3 _)).2.1;rw [lenL] at mF;have aB:=sV (w:=hasW R "figures") (g:=D7 R) _ z.cps.toList (B3 _);rw [lenL] at aB;walk_at "rd";intro l nl;have S1:Same H (A0 H l (.lst [])):=Same.new nl;have pH:A0 H l (.lst []) l=some (.lst []):=A5;generalize A0 H l (.lst [])=H1 at S1 pH;refine ⟨x,j,ll,ml,md,z,g,R,L,M,rfl,hO.same S1,hk,by lia,hw,fun a H2 na S2 ha=>?_⟩;generalize (cutF (hasW R "figures") (D7 R) z.cps.toList).2=ps at ha hf N0 mF aB q;have nal:a≠l:=fun e=>by rw [e,pH] at na;cases na
  have C0:UnI (cutH H2 [l]) H2 l [] []:=⟨S2 _ _ pH,.nil,by simp,fun b hb=>by unfold cutH;exact if_pos (by simpa using hb),sT _ _⟩
  have S0:Same H (cutH H2 [l]):=fun b o hb=>by
   unfold cutH;rw [if_neg (fun e=>by rw [G2.mp e,nl] at hb;cases hb)];exact S2 _ _ (S1 _ _ hb)
  have ha0:cutH H2 [l] a=some (.lst (ps.map V.str)):=by
   unfold cutH;rw [if_neg (fun e=>nal (G2.mp e))];exact ha
  have hO0:=hO.same S0;generalize cutH H2 [l]=H0 at C0 S0 ha0 hO0;refine ⟨a,rfl,⟨_,.of ha⟩,forL (xs:=ps.map V.str) (fun i Y H3=>∃ (u:Option V) (es:List (Addr×Addr)),Y=[some (.ref x),some (.str z),some (.ref l),u]/\UnI H0 H3 l es (P5 (stepY R L M) (ps.take i))) ⟨none,[],rfl,C0⟩ (by rintro i Y H3 _ ⟨_,_,_,h⟩;exact .of (h.same _ _ ha0)) ?_ ?_⟩
  .rintro i v Y H3 hv ⟨u,es,rfl,J⟩;obtain ⟨y,hy,rfl⟩:=G4 hv;have hi:i<ps.length:=(I0.mp hy).1;have j6:=L6 hy;obtain ⟨C4,fD⟩:=sU (S:=stepY R L M) hs (ps.take i);rw [E9] at C4 fD;obtain ⟨c,r,hcr⟩:∃ c r,y.cps.toList=c::r:=by
    have:=N0 y j6
    rw [<- lenL] at this;cases e:y.cps.toList with
    | nil=>rw [e] at this;simp at this
    | cons c r=>exact ⟨c,r,rfl⟩
   have E6:y.length<=640:=by have:=aB y j6;lia
   walk_at "rd";refine ⟨x,l,j,ll,ml,md,c,r,y,g,R,L,M,H0,es,_,rfl,hcr,E6,hO0,hf y j6,J,by have:=hs y;lia,by lia,fun v hv=>by have:=fD v hv;lia,fun es' H4 J4=>?_⟩;rw [<- ahS hy] at J4;exact ⟨es',J4⟩
  rintro Y H3 ⟨u,es,rfl,J⟩;rw [A6,K9] at J;obtain ⟨C4,fD⟩:=sU (S:=stepY R L M) hs ps;have m9:=Paired.length J.row;generalize P5 (stepY R L M) ps=U at J C4 fD m9 q;walk_at "rd";refine ⟨⟨_,.of J.top⟩,arQ (xs:=es.map fun e=>V.ref e.1) [] rfl (fun D i ys H4=>∃ fs:List (Addr×Addr),ys=fs.map (fun e=>V.ref e.1)/\Same H3 H4/\Paired (fun e (u:E1)=>H4 e.1=some (.tup [.int u.1,.int u.2.1,.ref e.2,.int u.2.2.2])/\H4 e.2=some (.tup (u.2.2.1.map V.int))) fs (U.take i)) (fun D nD=>⟨[],rfl,Same.new nD,.nil⟩) (by rintro D i ys H4 nD _ ⟨_,_,S,_⟩;exact .of (S _ _ J.top)) ?_ ?_⟩
  .rintro D i v ys H4 nD hi hv ⟨fs,rfl,S4,P⟩ hD E6;obtain ⟨e,he,rfl⟩:=G4 hv;obtain ⟨w,hw,j7⟩:=Paired.at J.row he;have i8:fs.length<=7500:=by
    have:=Paired.length P
    rw [E9] at this;lia
   refine ⟨e.1,_,_,_,_,rfl,.of (S4 _ _ j7.1),?_⟩;walk_at "rd";refine rTupR.l (.of (S4 _ _ j7.2)) fun m nm=>⟨by decide,fun t nt=>?_⟩
   have S5:Same H4 (A0 (A0 H4 m (.tup (w.2.2.1.map V.int))) t (.tup [V.int w.1,V.int w.2.1,V.ref m,V.int w.2.2.2])):=(Same.new nm).trans (Same.new nt);have hm5:A0 (A0 H4 m (.tup (w.2.2.1.map V.int))) t (.tup [V.int w.1,V.int w.2.1,V.ref m,V.int w.2.2.2]) m=some (.tup (w.2.2.1.map V.int)):=D3 A5 nt;have fP:A0 (A0 H4 m (.tup (w.2.2.1.map V.int))) t (.tup [V.int w.1,V.int w.2.1,V.ref m,V.int w.2.2.2]) t=some (.tup [V.int w.1,V.int w.2.1,V.ref m,V.int w.2.2.2]):=A5;generalize A0 (A0 H4 m (.tup (w.2.2.1.map V.int))) t (.tup [V.int w.1,V.int w.2.1,V.ref m,V.int w.2.2.2])=H5 at S5 hm5 fP;have hD5:=S5 _ _ hD;have dn:∀ {b:Addr} {xs:List V},H5 b=some (.tup xs)->b≠D:=fun h q=>by rw [q,hD5] at h;cases h
   refine ⟨hD5,by rw [A6];exact K1 'a',hi,by rw [C1,O4];lia,⟨_,_,_,_,rfl⟩,fs++[(t,m)],by rw [D8];rfl,(S4.trans S5).put nD,?_⟩;rw [K7 hw];refine Paired.snoc (L0 P fun f w h=>⟨?_,?_⟩) ⟨?_,?_⟩
   .rw [A9 (dn (S5 _ _ h.1))];exact S5 _ _ h.1
   .rw [A9 (dn (S5 _ _ h.2))];exact S5 _ _ h.2
   .rw [A9 (dn fP)];exact fP
   .rw [A9 (dn hm5)];exact hm5
  rintro D ys H4 nD ⟨fs,rfl,S4,P⟩ hD E6;rw [A6,m9,K9] at P;have SS:Same H H3:=S0.trans J.same;exact q D H4 (SS.free nD) (SS.trans S4) ⟨fs,hD,P⟩
theorem sc_looks:FnScope ["order", "text", "made", "marks"] ["order", "text"] (C3 p8):=G3
abbrev tQ:List Str:=["order", "text", "made", "marks"]
theorem vcu:VS tQ p8 "order" 0:=vq
theorem vcv:VS tQ p8 "text" 1:=vq
theorem zZ:VS tQ p8 "made" 2:=vq
theorem vcx:VS tQ p8 "marks" 3:=vq
theorem vcy:LS p8 "made":=lq
theorem vcz:LS p8 "marks":=lq
theorem am7(F:FunD K "looks" "looks" p8 f fd)(T:Txt P w K mg C)(G_units:FO P w K mg base 6 "units" ["order", "text"] [] (yR C)):FnOk P w K mg base E8 7 f fd ["order", "text"] (alt C):=by
 refine F.ok sc_looks ?_ ?_
 .rintro _ _ _ _ ⟨x,j,ll,ml,md,z,g,R,L,M,rfl,_⟩;rfl
 .intro cdv A outer s H vs Q E hr h;have C4:=hu_of hr;have hu:=hr.units;refine ⟨_,QSs.out (A7 (D0 (n:=2) sc_looks.nd rfl vcy (D1 G_units (hm hr) (qa_c (vi vcu) (qa_c (vi vcv) A3))))
   (A7 (cJ (n:=3) sc_looks.nd rfl vcz (Q7:CompOk ["order", "text", "made", "marks"] (C3 p8).names _ ["unit"] 1 []) (O2 (K:=K) (vi zZ)) (fun _ _ _ _ _=>D6 (n:=0) (show List.Nodup (["unit"]:List Str) by decide +kernel) rfl (Or.inl rfl)) (fun _ _ _ _ _=>b8) (fun _ _ _ _ _=>(qe_ix (K:=K) (qv 0) A4)))
   (g4 (qs_if (Y7 (K:=K) (u8 (K:=K) (vi vcu))) (A8 (P3 (qe_m0 (K:=K) R4 PySem.F.slot_list_reverse PySem.F.type_list_reverse akB (vi vcx)))) G8)
   (A8 (E7 (M7 (qa_c (b9  (Q7:CompOk ["order", "text", "made", "marks"] (C3 p8).names _ ["unit"] 1 []) (O2 (K:=K) (vi zZ)) (fun _ _ _ _ _=>D6 (n:=0) (show List.Nodup (["unit"]:List Str) by decide +kernel) rfl (Or.inl rfl)) (fun _ _ _ _ _=>b8) (fun _ _ _ _ _=>(M5 (K:=K) (qv 0) P9 (K2 A4)))) (qa_c (vi vcx) (qa_c (b9  (Q7:CompOk ["order", "text", "made", "marks"] (C3 p8).names _ ["unit"] 1 []) (O2 (K:=K) (vi zZ)) (fun _ _ _ _ _=>D6 (n:=0) (show List.Nodup (["unit"]:List Str) by decide +kernel) rfl (Or.inl rfl)) (fun _ _ _ _ _=>b8) (fun _ _ _ _ _=>(qe_ix (K:=K) (qv 0) A4))) (qa_c (vi vcv) A3)))))))))),?_⟩
  obtain ⟨x,j,ll,ml,md,z,g,R,L,M,rfl,hO,hk,hz,hw,hs,q⟩:=h;obtain ⟨b1,b2,b3⟩:=ae1 hs (w:=hasW R "figures") (ks:=D7 R) (y:=z) hz;walk_at "rd";refine ⟨x,j,ll,ml,md,z,g,R,L,M,rfl,hO,hk,hz,hw,hs,fun u H1 nu S1 hU=>?_⟩;generalize P5 (stepY R L M) (cutF (hasW R "figures") (D7 R) z.cps.toList).2=U at *;obtain ⟨es,e1,e2⟩:=hU;have m9:=Paired.length e2;walk_at "rd";refine ⟨⟨_,.of e1⟩,compL (xs:=es.map fun e=>V.ref e.1) [] rfl (fun D i ys H2=>Same H1 H2/\ys=(es.take i).map fun e=>V.ref e.2) (fun D nD=>⟨Same.new nD,rfl⟩) (by rintro D i ys H2 nD _ ⟨S,_⟩;exact .of (S _ _ e1)) ?_ ?_⟩
  .rintro D i y ys H2 nD hi hy ⟨S2,rfl⟩ hD E6;obtain ⟨e,he,rfl⟩:=G4 (f:=fun e:Addr×Addr=>V.ref e.1) hy;obtain ⟨w,vD,j7⟩:=Paired.at e2 he;have lZ:i<es.length:=(I0.mp he).1;walk_at "rd";refine ⟨_,.inr (.of (S2 _ _ j7.1)),V.ref e.2,N2 (j:=2) rfl,hD,by simp only [A6,E9];exact K1 'a',CW.put hi E6 ⟨S2.put nD,?_⟩⟩;rw [K7 he,D8];rfl
  rintro D ys H2 nD ⟨S2,rfl⟩ hD _;rw [A6,K9] at hD;have pS:=aeh e2;refine cK (fun Y H'=>Y=[some (.ref x),some (.str z),some (.ref u),some (.ref D)]/\Same H1 H'/\∃ pP:List Addr,H' D=some (.lst (pP.map V.ref))/\Paired (fun c (x:List Int)=>H1 c=some (.tup (x.map V.int))) pP ((if hasW R "behind"=true then U.reverse else U).map fun u=>u.2.2.1)) ?_ ?_
  .obtain ⟨dx,ho⟩:=hO.ob;walk_at "rd";refine ⟨_,_,_,S2 _ _ (S1 _ _ ho),T.cl,T.na_behind,_,ahF _ _ _ _ _ _,_,rfl,?_⟩
   by_cases hb:hasW R "behind"=true
   .rw [if_pos hb,if_pos hb];refine ⟨R7 hD,D,_,rfl,rfl,hD,S2.put nD,(es.map (·.2)).reverse,?_,?_⟩
    .rw [A5,List.map_reverse,Z7];rfl
    .rw [List.map_reverse];exact afF pS
   .rw [if_neg hb,if_neg hb];refine ⟨S2,es.map (·.2),?_,pS⟩;rw [hD,Z7];rfl
  rintro Y H3 ⟨rfl,S3,pP,hD3,hP3⟩;clear hD S2 pS;have lU:=S3 _ _ e1;walk_at "rd";refine ⟨⟨_,.of lU⟩,compL (xs:=es.map fun e=>V.ref e.1) [] rfl (fun D i ys H2=>Same H3 H2/\∃ as:List Addr,ys=as.map V.ref/\Paired (fun c (x:List Int)=>H2 c=some (.tup (x.map V.int))/\H3 c=none/\c≠D) as ((U.take i).map fun u=>[u.1,u.2.1])) (fun D nD=>⟨Same.new nD,[],rfl,.nil⟩) (by rintro D i ys H2 nD _ ⟨S,_⟩;exact .of (S _ _ lU)) ?_ ?_⟩
  .rintro D i y ys H2 nD2 hi hy ⟨S2,as,rfl,hP⟩ hD E6;obtain ⟨e,he,rfl⟩:=G4 (f:=fun e:Addr×Addr=>V.ref e.1) hy;obtain ⟨w,vD,j7⟩:=Paired.at e2 he;have lZ:i<es.length:=(I0.mp he).1;have mE:=Paired.length hP;rw [A6,E9] at mE;walk_at "rd";refine rSlR.t (.of (S2 _ _ (S3 _ _ j7.1))) (by simp [HT.sIx]) fun p np=>?_
   rw [show cutV [V.int w.1,V.int w.2.1,V.ref e.2,V.int w.2.2.2] none (some 2)=[w.1,w.2.1].map V.int from eE _ 2];have S4:Same H2 (A0 H2 p (.tup ([w.1,w.2.1].map V.int))):=Same.new np;have fI:A0 H2 p (.tup ([w.1,w.2.1].map V.int)) p=some (.tup ([w.1,w.2.1].map V.int)):=A5;have hpD:p≠D:=fun e=>by rw [e,hD] at np;cases np
   generalize A0 H2 p (.tup ([w.1,w.2.1].map V.int))=H4 at S4 fI;refine ⟨S4 _ _ hD,by rw [A6];exact K1 'a',CW.put hi E6 ⟨(S2.trans S4).put nD2,as++[p],by rw [D8];rfl,?_⟩⟩;rw [K7 vD,D8];exact Paired.snoc (L0 hP fun c x ⟨h1,h2,h3⟩=>⟨by rw [A9 h3];exact S4 _ _ h1,h2,h3⟩) ⟨by rw [A9 hpD];exact fI,S2.free np,hpD⟩
  rintro D4 ys H4 nD4 ⟨S4,as1,rfl,hP4⟩ hD4 _;rw [A6,m9,K9] at hP4;have hi4:=S4 _ _ lU;refine ⟨⟨_,.of hi4⟩,compL (xs:=es.map fun e=>V.ref e.1) [] rfl (fun D i ys H2=>Same H4 H2/\ys=((U.take i).map fun u=>u.2.2.2).map V.int) (fun D nD=>⟨Same.new nD,rfl⟩) (by rintro D i ys H2 nD _ ⟨S,_⟩;exact .of (S _ _ hi4)) ?_ ?_⟩
  .rintro D i y ys H2 nD2 hi hy ⟨S2,rfl⟩ hD E6;obtain ⟨e,he,rfl⟩:=G4 (f:=fun e:Addr×Addr=>V.ref e.1) hy;obtain ⟨w,vD,j7⟩:=Paired.at e2 he;have lZ:i<es.length:=(I0.mp he).1;walk_at "rd";refine ⟨_,.inr (.of (S2 _ _ (S4 _ _ (S3 _ _ j7.1)))),V.int w.2.2.2,N2 (j:=3) rfl,hD,by simp only [A6,E9];exact K1 'a',CW.put hi E6 ⟨S2.put nD2,?_⟩⟩;rw [K7 vD,D8,D8];rfl
  rintro D5 ys H5 nD5 ⟨S5,rfl⟩ hD5 _;rw [A6,m9,K9] at hD5;refine ⟨by decide,fun p np=>?_⟩;have S6:Same H5 (A0 H5 p (.lst [V.ref D4,V.ref D,V.ref D5,V.str z])):=Same.new np;have mG:=S4.trans (S5.trans S6);refine q p _ ((S1.trans (S3.trans (S4.trans S5))).free np) (S1.trans (S3.trans mG)) ⟨_,A5,.cons ?_ (.cons ?_ (.cons ?_ (.cons rfl .nil)))⟩
  .exact ⟨D4,as1,rfl,(S5.trans S6) _ _ hD4,L0 hP4 fun c x h=>(S5.trans S6) _ _ h.1⟩
  .exact ⟨D,pP,rfl,mG _ _ hD3,L0 hP3 fun c x h=>mG _ _ (S3 _ _ h)⟩
  .exact ⟨D5,rfl,S6 _ _ hD5⟩
theorem sc_compare:FnScope ["order", "one", "other", "strength", "ours", "theirs", "level"] ["order", "one", "other", "strength"] (C3 Y8):=G3
abbrev iF:List Str:=["order", "one", "other", "strength", "ours", "theirs", "level"]
theorem vcA:VS iF Y8 "order" 0:=vq
theorem vcB:VS iF Y8 "one" 1:=vq
theorem vcC:VS iF Y8 "other" 2:=vq
theorem vcD:VS iF Y8 "strength" 3:=vq
theorem vcE:VS iF Y8 "ours" 4:=vq
theorem vcF:VS iF Y8 "theirs" 5:=vq
theorem tR:VS iF Y8 "level" 6:=vq
theorem vcH:LS Y8 "ours":=lq
theorem vcI:LS Y8 "theirs":=lq
theorem vcJ:LS Y8 "level":=lq
theorem afN(F:FunD K "compare" "compare" Y8 f fd)(T:Txt P w K mg C)(G_looks:FO P w K mg base 7 "looks" ["order", "text"] [] (alt C)):FnOk P w K mg base E8 8 f fd ["order", "one", "other", "strength"] (tD C):=by
 refine F.ok sc_compare ?_ ?_
 .rintro _ _ _ _ ⟨x,j,ll,ml,md,z,z',n,g,R,L,M,rfl,_⟩;rfl
 .intro cdv A outer s H vs Q E hr h;have C4:=hu_of hr;have hu:=hr.units;refine ⟨_,QSs.out (A7 (D0 (n:=4) sc_compare.nd rfl vcH (D1 G_looks (hm hr) (qa_c (vi vcA) (qa_c (vi vcB) A3))))
   (A7 (D0 (n:=5) sc_compare.nd rfl vcI (D1 G_looks (hm hr) (qa_c (vi vcA) (qa_c (vi vcC) A3))))
   (A7 (M0 PassesOwn.never (qi_r1 T.b_range (qa_c (vi vcD) A3)) (D6 (n:=6) sc_compare.nd rfl vcJ (.inl rfl)) (A8 (qs_if (E5 (q_ne (K:=K) hu) (qe_ix (K:=K) (vi vcE) (vi tR)) (qe_ix (K:=K) (vi vcF) (vi tR))) (A8 (E7 (aix (E5 (q_ltK hu (K:=K)) (qe_ix (K:=K) (vi vcE) (vi tR)) (qe_ix (K:=K) (vi vcF) (vi tR))) (qe_un q_neg A4) A4))) G8)))
   (A8 (E7 A4))))),?_⟩
  obtain ⟨x,j,ll,ml,md,z,z',n,g,R,L,M,rfl,hn,hO,hk,hz,bJ,hw,hw',hs,q⟩:=h;walk_at "rd";refine ⟨x,j,ll,ml,md,z,g,R,L,M,rfl,hO,hk,hz,hw,hs,fun l H1 nl S1 hl=>?_⟩;refine ⟨x,j,ll,ml,md,z',g,R,L,M,rfl,hO.same S1,hk,bJ,hw',hs,fun l' H2 nl' S2 hl'=>?_⟩;have hkd:=ahX (hasW R "behind") (hasW R "behind") (P5 (stepY R L M) (cutF (hasW R "figures") (D7 R) z.cps.toList).2) (P5 (stepY R L M) (cutF (hasW R "figures") (D7 R) z'.cps.toList).2) z z';have U9:=hl.same S2;have B1:(W5 (hasW R "behind") (P5 (stepY R L M) (cutF (hasW R "figures") (D7 R) z.cps.toList).2) z).length=4:=rfl;have hlen':(W5 (hasW R "behind") (P5 (stepY R L M) (cutF (hasW R "figures") (D7 R) z'.cps.toList).2) z').length=4:=rfl;unfold lD at q;generalize W5 (hasW R "behind") (P5 (stepY R L M) (cutF (hasW R "figures") (D7 R) z.cps.toList).2) z=ds at *;generalize W5 (hasW R "behind") (P5 (stepY R L M) (cutF (hasW R "figures") (D7 R) z'.cps.toList).2) z'=ds' at *;obtain ⟨vs,v1,v2⟩:=U9;obtain ⟨vs',w1,w2⟩:=hl';have z1:=Paired.length v2;have z2:=Paired.length w2;refine ⟨by lia,by lia,forRs (fun i Y H'=>(∃ u:Option V,Y=[some (.ref x),some (.str z),some (.str z'),some (.int n),some (.ref l),some (.ref l'),u])/\H'=H2/\∀ k<i,ds[k]?=ds'[k]?) ⟨⟨none,rfl⟩,rfl,by simp⟩ ?_ ?_⟩
  .rintro P' Bk hP i Y H' hi ⟨⟨u,rfl⟩,rfl,fG⟩;have K4:i<n:=by simpa using hi
   have a1:vs[i]?=some vs[i]:=G5 'a';have a2:vs'[i]?=some vs'[i]:=G5 'a';obtain ⟨d,hd,ld⟩:=Paired.at v2 a1;obtain ⟨d',iL,ld'⟩:=Paired.at w2 a2;have kd:=hkd i d d' hd iL;generalize vs[i]=v at *;generalize vs'[i]=v' at *;have i1:K5 vs (0+(i:Int))=some v:=by rw [t7];exact N2 a1
   have i2:K5 vs' (0+(i:Int))=some v':=by rw [t7];exact N2 a2
   walk_at "rd";refine ⟨_,.inl (.of v1),_,i1,_,.inl (.of w1),_,i2,LvAt.ne ld ld' kd ⟨_,rfl,?_⟩⟩
   by_cases qH:d=d'
   .rw [if_neg (by simp [qH])];refine hP _ _ _ ⟨⟨_,rfl⟩,rfl,fun k hk=>?_⟩
    by_cases hki:k=i
    .rw [hki,hd,iL,qH]
    .exact fG k 'a'
   .rw [if_pos (by simp [qH])];have hq:=q H' (S1.trans S2);rw [aiY K4 hd iL fG qH] at hq;unfold cmpD at hq;rw [if_neg qH] at hq;refine ⟨_,.inl (.of v1),_,i1,_,.inl (.of w1),_,i2,LvAt.lt ld ld' kd ⟨_,rfl,?_⟩⟩
    by_cases C9:d.lt d'=true
    .rw [if_pos C9] at hq ⊢
     exact hq
    .rw [if_neg C9] at hq ⊢
     exact hq
  rintro Y H' ⟨⟨u,rfl⟩,rfl,fG⟩;walk_at "rd"
  have:=q H' (S1.trans S2)
  rw [ahb (by simpa using fG)] at this;exact this
theorem sc_starts:FnScope ["parts", "places", "part"] ["parts"] (C3 eR):=G3
abbrev agj:List Str:=["parts", "places", "part"]
theorem vcK:VS agj eR "parts" 0:=vq
theorem vcL:VS agj eR "places" 1:=vq
theorem vcM:VS agj eR "part" 2:=vq
theorem vcN:LS eR "places":=lq
theorem vcO:LS eR "part":=lq
theorem alG(F:FunD K "starts" "starts" eR f fd)(T:Txt P w K mg C):FnOk P w K mg base E8 1 f fd ["parts"] (yZ K):=by
 refine F.ok sc_starts ?_ ?_
 .rintro _ _ _ _ ⟨a,zs,rfl,_⟩;rfl
 .intro cdv A outer s H vs Q E hr h;have C4:=hu_of hr;have hu:=hr.units;refine ⟨_,QSs.out (A7 (D0 (n:=1) sc_starts.nd rfl vcN (M7 (qa_c A4 A3)))
   (A7 (M0 PassesOwn.never (O2 (K:=K) (vi vcK)) (D6 (n:=2) sc_starts.nd rfl vcO (.inl rfl)) (A8 (P3 (qe_mB (K:=K) R4 V3 V2 V5 (vi vcL) (qa_c (qe_op (q_add (K:=K)) (qe_ix (K:=K) (vi vcL) (qe_un q_neg A4)) (qe_cB (q_len (K:=K)) T.b_len O1 (qa_c (vi vcM) A3))) A3)))))
   (A8 (E7 (vi vcL))))),?_⟩
  obtain ⟨a,zs,rfl,hS,hl,hz,q⟩:=h;walk_at "rd";refine ⟨by decide,fun p np=>⟨⟨_,(Same.new np).seq hS⟩,forL (xs:=zs.map V.str) (fun i Y H2=>∃ u:Option V,Y=[some (.ref a),some (.ref p),u]/\Same H H2/\H2 p=some (.lst ((bB zs (i+1)).map V.int))) ⟨none,rfl,Same.new np,A5⟩ (by rintro i Y H2 _ ⟨_,_,S,_⟩;exact S.seq hS) ?_ ?_⟩⟩
  .rintro i x Y H2 hx ⟨u,rfl,S,hp⟩;obtain ⟨z,hk,rfl⟩:=G4 hx;have hi:i<zs.length:=(I0.mp hk).1;have O3:=hz z (L6 hk);walk_at "rd";refine ⟨R7 hp,_,.inl (.of hp),V.int (X2 (zs.take i):Nat),?_,P7 'a',?_⟩
   .rw [aiZ,D8];exact aiq _ _
   .walk_at "rd";refine appOk hp (by rw [A6,yX];exact K1 'a') ⟨S.put np,?_⟩;rw [A5,aiZ zs (i+1),D8,amY hk];rfl
  .rintro Y H2 ⟨u,rfl,S,hp⟩;rw [A6] at hp;walk_at "rd";exact q p H2 np S hp
theorem aig:FnScope ["order", "parts", "at"] ["order", "parts", "at"] (C3 lA):=G3
abbrev aed:List Str:=["order", "parts", "at"]
theorem vcP:VS aed lA "order" 0:=vq
theorem vcQ:VS aed lA "parts" 1:=vq
theorem vcR:VS aed lA "at" 2:=vq
theorem aih(F:FunD K "is_joint" "is_joint" lA f fd)(T:Txt P w K mg C)(G_Order_job:MO P w K mg base 1 C "job" ["self", "piece"] (yC C)):FnOk P w K mg base E8 2 f fd ["order", "parts", "at"] (spIsJ C):=by
 refine F.ok aig ?_ ?_
 .rintro _ _ _ _ ⟨x,j,ll,ml,md,a,i,zs,ns,R,L,M,rfl,_⟩;rfl
 .intro cdv A outer s H vs Q E hr h;have C4:=hu_of hr;have hu:=hr.units;refine ⟨_,QSs.out (A8 (E7 (qe_or (gN (q_eq (K:=K) hu) (vi vcR) A4) (qe_or (gN (q_eq (K:=K) hu) (vi vcR) (qe_cB (q_len (K:=K)) T.b_len O1 (qa_c (vi vcQ) A3))) (wW (gN (q_ne (K:=K) hu) (akN (vi vcP) G_Order_job (hm hr) (qa_c (qe_ix (K:=K) (vi vcQ) (vi vcR)) A3)) K6)))))),?_⟩;obtain ⟨x,j,ll,ml,md,a,i,zs,ns,R,L,M,rfl,hO,G,ha,hi,q⟩:=h;obtain ⟨dx,h1⟩:=hO.ob;walk_at "rd";refine iteD (fun h0=>?_) fun h0=>⟨zs.length,.inl ⟨_,.of ha,by rw [A6]⟩,iteD (fun h2=>?_) fun h2=>?_⟩
  .have e:i=0:=by lia
   rw [show jntB M zs i=true by simp [jntB,e]] at q;exact q
  .have e:i=zs.length:=by lia
   rw [show jntB M zs i=true by simp [jntB,e]] at q;exact q
  have lZ:i<zs.length:=by lia
  obtain ⟨w,hw⟩:∃ w,zs[i]?=some w:=⟨_,G5 lZ⟩
  refine ⟨_,_,h1,xQ _ _ _ _ _ _ 'c',_,.inl (.of ha),V.str w,N2 (by rw [O7,hw];rfl),x,j,ll,ml,md,w,g6 R,R,L,M,rfl,hO,?_⟩;rw [show jntB M zs i=!decide (w∈M) by
   unfold jntB dueB;rw [hw,decide_eq_false 'a',decide_eq_false 'a']
   simp] at q
  have hj:=amZ G w
  by_cases hk:w∈keysP (C7 R)++U6 R
  .rw [if_pos hk] at hj ⊢
   obtain ⟨s,hs⟩:∃ s,jobG (g6 R) w=V.str s:=by
    unfold jobG
    split
    .exact ⟨_,rfl⟩
    .exact ⟨_,rfl⟩
   rw [hs] at hj ⊢
   show Q (.bl (!decide (s=Str.ofString "mark"))) H;rw [show decide (s=Str.ofString "mark")=decide (w∈M) from decide_eq_decide.mpr ⟨fun e=>hj.mp (by rw [e]),fun h=>V.str.inj (hj.mpr h)⟩];exact q
  .rw [if_neg hk] at hj ⊢
   have hm:w∉M:=fun h=>by cases hj.mpr h
   rw [decide_eq_false hm] at q;exact ⟨_,_,.non,.str _ 'c',by decide,q⟩
theorem sc_joints:FnScope ["order", "text", "parts"] ["order", "text"] (C3 eS):=G3
abbrev agk:List Str:=["order", "text", "parts"]
theorem vcS:VS agk eS "order" 0:=vq
theorem vcT:VS agk eS "text" 1:=vq
theorem vcU:VS agk eS "parts" 2:=vq
theorem vcV:LS eS "parts":=lq
theorem alH(F:FunD K "joints" "joints" eS f fd)(T:Txt P w K mg C)(G_parts_of:FO P w K mg base 5 "parts_of" ["order", "text"] [] (sS C))(G_starts:FO P w K mg base 1 "starts" ["parts"] [] (yZ K))(G_is_joint:FO P w K mg base 2 "is_joint" ["order", "parts", "at"] [] (spIsJ C)):FnOk P w K mg base E8 6 f fd ["order", "text"] (ai1 C):=by
 refine F.ok sc_joints ?_ ?_
 .rintro _ _ _ _ ⟨x,j,ll,ml,md,z,ns,R,L,M,rfl,_⟩;rfl
 .intro cdv A outer s H vs Q E hr h;have C4:=hu_of hr;have hu:=hr.units;refine ⟨_,QSs.out (A7 (D0 (n:=2) sc_joints.nd rfl vcV (D1 G_parts_of (hm hr) (qa_c (vi vcS) (qa_c (vi vcT) A3))))
   (A8 (E7 (b9  (Q7:CompOk ["order", "text", "parts"] (C3 eS).names _ ["at", "place", "order", "parts"] 2 [0,2]) (kN T.b_enumerate (qa_c (D1 G_starts (hm hr) (qa_c (vi vcU) A3)) A3)) (fun _ _ _ _ _=>(aR (K:=K) (n:=2) (R8 (D6 (n:=0) (show List.Nodup (["at", "place", "order", "parts"]:List Str) by decide +kernel) rfl (Or.inl rfl)) (R8 (D6 (n:=1) (show List.Nodup (["at", "place", "order", "parts"]:List Str) by decide +kernel) rfl (Or.inl rfl)) aQ)))) (fun _ _ _ _ _=>(aS (Y7 (K:=K) (D1 G_is_joint (hm hr) (qa_c (qv 2) (qa_c (qv 3) (qa_c (qv 0) A3))))))) (fun _ _ _ _ _=>(qv 1)))))),?_⟩
  obtain ⟨x,j,ll,ml,md,z,ns,R,L,M,rfl,hO,G,hz,hw,q⟩:=h;have hf:=(kY (w:=hasW R "figures") (g:=D7 R) _ z.cps.toList (B3 _)).2.1;have hy:=sV (w:=hasW R "figures") (g:=D7 R) _ z.cps.toList (B3 _);rw [lenL] at hf hy;walk_at "rd";refine ⟨x,j,ll,ml,md,z,g6 R,R,L,M,rfl,hO,G.known_len,by lia,hw,fun a H1 na S1 ha=>?_⟩;generalize (cutF (hasW R "figures") (D7 R) z.cps.toList).2=zs at hf hy ha q;refine ⟨a,zs,rfl,.of ha,by lia,fun y lY=>by have:=hy y lY;lia,fun l H2 nl S2 hl=>?_⟩;have ha2:=S2 _ _ ha;have L5:=yX zs (zs.length+1);walk_at "rd";refine ⟨⟨_,hl⟩,compE (xs:=(bB zs (zs.length+1)).map V.int) [some (.ref x),some (.ref a)] rfl (fun D i ys H3=>Same H2 H3/\ys=(jntL M zs i).map V.int) (fun D nD=>⟨Same.new nD,rfl⟩) (by rintro D i ys H3 nD _ ⟨S,_⟩;exact S _ _ hl) ?_ ?_⟩
  .rintro D i y t ys H3 nD hi hy3 ⟨S3,rfl⟩ hD E6 nt;obtain ⟨v,hv,rfl⟩:=G4 hy3;have i7:i<zs.length+1:=by rw [A6,L5] at hi;exact hi
   rw [yY zs i7] at hv;obtain rfl:=Option.some.inj hv;have S4:Same H3 (A0 H3 t (.tup [V.int i,V.int ((X2 (zs.take i):Nat):Int)])):=Same.new nt;generalize A0 H3 t (.tup [V.int i,V.int ((X2 (zs.take i):Nat):Int)])=H4 at S4;have qI:=S1.trans (S2.trans (S3.trans S4));have vE:=ai0 M zs i;walk_at "rd";refine ⟨x,j,ll,ml,md,a,i,zs,ns,R,L,M,rfl,hO.same qI,G,S4 _ _ (S3 _ _ ha2),by lia,_,rfl,?_⟩
   by_cases hb:jntB M zs i=true
   .rw [if_pos hb];refine ⟨S4 _ _ hD,by rw [A6];exact K1 'a',gT.put hi E6 ⟨(S3.trans S4).put nD,?_⟩⟩;rw [jntL,if_pos hb,D8];rfl
   .rw [if_neg hb];exact ⟨S4 _ _ hD,hi,Nat.le_succ_of_le E6,⟨_,_,rfl⟩,S3.trans S4,by rw [jntL,if_neg hb]⟩
  rintro D ys H3 nD ⟨S3,rfl⟩ hD _;rw [A6,L5,aly] at hD;exact q D H3 ((S1.trans S2).free nD) (S1.trans (S2.trans S3)) hD
theorem aqe:FnScope ["unit", "strength"] ["unit", "strength"] (C3 oA):=G3
abbrev anF:List Str:=["unit", "strength"]
theorem tS:VS anF oA "unit" 0:=vq
theorem vcX:VS anF oA "strength" 1:=vq
theorem aqf(F:FunD K "seen" "seen" oA f fd)(T:Txt P w K mg C):FnOk P w K mg base E8 1 f fd ["unit", "strength"] (tG K):=by
 refine F.ok aqe ?_ ?_
 .rintro _ _ _ _ ⟨a,m,s,u,rfl,_⟩;rfl
 .intro cdv A outer s H vs Q E hr h;have C4:=hu_of hr;have hu:=hr.units;refine ⟨_,QSs.out (A8 (E7 (M5 (K:=K) (M9 (qa_c (qe_ix (K:=K) (vi tS) A4) (qa_c (qe_ix (K:=K) (vi tS) A4) (qa_c (qe_cT (kL (K:=K)) T.b_tuple kF (qa_c (qe_ix (K:=K) (vi tS) A4) A3)) (qa_c (qe_ix (K:=K) (vi tS) A4) A3))))) P9 (K2 (qe_op (q_add (K:=K)) (vi vcX) A4))))),?_⟩;obtain ⟨a,m,s,u,rfl,hs,ha,hm,hl,q⟩:=h;walk_at "rd";refine ⟨_,.inr (.of ha),_,T9 _ _,_,.inr (.of ha),_,N2 (j:=1) rfl,_,.inr (.of ha),_,N2 (j:=2) rfl,?_⟩;walk_at "rd";have go:∀ (m2:Addr) (H1:Hp),Same H H1->H1 m2=some (.tup (u.2.2.1.map V.int))->∃ xs,(D9 K H1 a xs\/C6 K H1 a xs)/\∃ x,K5 xs 3=some x/\4<=sizeLine/\∀ p,H1 p=none->rSlR K p none (some ((s:Int)+1)) (A0 H1 p (.tup [V.int u.1,V.int u.2.1,.ref m2,x])) Q:=fun m2 H1 S1 h1=>by
   refine ⟨_,.inr (.of (S1 _ _ ha)),_,N2 (j:=3) rfl,by decide,fun p np=>?_⟩;have S2:Same H1 (A0 H1 p (.tup [V.int u.1,V.int u.2.1,.ref m2,V.int u.2.2.2])):=Same.new np;have hp:A0 H1 p (.tup [V.int u.1,V.int u.2.1,.ref m2,V.int u.2.2.2]) p=some (.tup [V.int u.1,V.int u.2.1,.ref m2,V.int u.2.2.2]):=A5;have iW:=S1.free np;generalize A0 H1 p (.tup [V.int u.1,V.int u.2.1,.ref m2,V.int u.2.2.2])=H2 at S2 hp;have ei:HT.sIx 4 4 (some ((s:Int)+1))=min (s+1) 4:=by
    rw [show (s:Int)+1=((s+1:Nat):Int) by lia,HT.sIx_nat]
   by_cases h3:3<=s
   .refine rSlR.w (.of hp) ⟨rfl,?_⟩ (q p H2 iW (S1.trans S2) ⟨m2,S2 _ _ h1,?_⟩)
    .show HT.sIx 4 4 _=4;rw [ei];lia
    .rw [hp,Z2 (by simp;lia)]
   .refine rSlR.t (.of hp) (fun e=>?_) fun p3 fQ=>?_
    .have e2:HT.sIx 4 4 (some ((s:Int)+1))=4:=e.2;rw [ei] at e2;lia
    .rw [show (s:Int)+1=((s+1:Nat):Int) by lia,eE];exact q p3 _ ((S1.trans S2).free fQ) (S1.trans (S2.trans (Same.new fQ))) ⟨m2,D3 (S2 _ _ h1) fQ,A5⟩
  rcases hm with hm | hm
  .exact rTupR.l (.of hm) fun l nl=>go l _ (Same.new nl) A5
  .exact rTupR.t (.of hm) (go m H (aN H) hm)
theorem sc_count_alike:FnScope ["made", "wanted", "strength", "count", "most"] ["made", "wanted", "strength", "count"] (C3 bA):=G3
abbrev oJ:List Str:=["made", "wanted", "strength", "count", "most"]
theorem vcY:VS oJ bA "made" 0:=vq
theorem vcZ:VS oJ bA "wanted" 1:=vq
theorem vc0:VS oJ bA "strength" 2:=vq
theorem tT:VS oJ bA "count" 3:=vq
theorem vc2:VS oJ bA "most" 4:=vq
theorem vc3:LS bA "count":=lq
theorem vc4:LS bA "most":=lq
theorem afn(F:FunD K "count_alike" "count_alike" bA f fd)(T:Txt P w K mg C)(G_seen:FO P w K mg base 1 "seen" ["unit", "strength"] [] (tG K)):FnOk P w K mg base E8 2 f fd ["made", "wanted", "strength", "count"] (spCnt K):=by
 refine F.ok sc_count_alike ?_ ?_
 .rintro _ _ _ _ ⟨a,b,s,n,es,ws,U,W,rfl,_⟩;rfl
 .intro cdv A outer s H vs Q E hr h;have C4:=hu_of hr;have hu:=hr.units;refine ⟨_,QSs.out (A7 (D0 (n:=4) sc_count_alike.nd rfl vc4 (qe_cB (q_min (calm:=true)) T.b_min anj (qa_c (qe_op q_sub (qe_cB (q_len (K:=K)) T.b_len O1 (qa_c (vi vcY) A3)) A4) (qa_c (qe_cB (q_len (K:=K)) T.b_len O1 (qa_c (vi vcZ) A3)) A3))))
   (A7 (rY PassesOwn.never (QW.pt (aP (E5 q_lt (vi tT) (vi vc2)) (eD (E5 (q_eq (K:=K) hu) (D1 G_seen (hm hr) (qa_c (qe_ix (K:=K) (vi vcY) (vi tT)) (qa_c (vi vc0) A3))) (qe_ix (K:=K) (vi vcZ) (vi tT)))))) (A8 (wY (n:=3) sc_count_alike.nd rfl vc3 A4 xA)))
   (A8 (E7 (vi tT))))),?_⟩
  obtain ⟨a,b,s,n,es,ws,U,W,rfl,h1,h4,ha,hU,hb,hW,hUl,hWl,hm,hn,q⟩:=h;have el:=Paired.length hU;have wl:=Paired.length hW;walk_at "rd";refine ⟨es.length,.inl ⟨_,.of ha,by rw [A6]⟩,ws.length,.inl ⟨_,.of hb,by rw [A6]⟩,?_⟩;obtain ⟨mo,hmo⟩:∃ mo:Int,(if ((ws.length:Nat):Int)<((es.length:Nat):Int)-1 then ((ws.length:Nat):Int) else ((es.length:Nat):Int)-1)=mo:=⟨_,rfl⟩
  have vF:∀ k:Nat,(k:Int)<mo↔k+1<U.length/\k<W.length:=fun k=>by
   rw [<- hmo]
   split <;> lia
  rw [hmo];refine rZ (fun m Y H'=>∃ n':Nat,Y=[some (.ref a),some (.ref b),some (.int s),some (.int n'),some (.int mo)]/\Same H H'/\n<=n'/\n'<=10000/\m=10000-n'/\∀ k,n<=k->k<n'->AlkAt s U W k/\k+1<U.length/\k<W.length) (10000-n) ⟨n,rfl,aN _,B3 _,hn,rfl,fun k k1 k2=>by lia⟩ ?_;rintro m Y H' ⟨n',rfl,S,hnn,hn10,rfl,N4⟩;walk_at "rd"
  by_cases C9:(n':Int)<mo
  .rw [if_pos (decide_eq_true C9)];obtain ⟨l1,l2⟩:=(vF n').mp C9;have vG:es[n']?=some (es[n']'(by lia)):=G5 _;have fF:ws[n']?=some (ws[n']'(by lia)):=G5 _;generalize es[n']'(by lia)=e at vG;generalize ws[n']'(by lia)=f at fF;obtain ⟨u,hu,j7⟩:=Paired.at hU vG;obtain ⟨v,hv,hvf⟩:=Paired.at hW fF;refine ⟨_,.inl (.of (S _ _ ha)),V.ref e.1,N2 (by rw [O7,vG];rfl),?_⟩;refine ⟨e.1,e.2,s,u,rfl,h4,S _ _ j7.1,.inl (S _ _ j7.2),hm u (L6 hu),fun l H1 nl S1 hl=>?_⟩;refine ⟨_,.inl (.of ((S.trans S1) _ _ hb)),V.ref f,N2 (by rw [O7,fF];rfl),?_⟩;walk_at "rd";refine ⟨_,hl.dn,_,(hvf.same (S.trans S1)).dn,F8 (dW _ _) (F8 (afI _ _) (by decide)),?_⟩;rw [ai4 h1];have alk:AlkAt s U W n'↔seenK s u=seenK s v:=by
    unfold AlkAt;rw [O7,O7,hu,hv];show some (seenK s u)=some (seenK s v)↔_;exact ⟨Option.some.inj,congrArg some⟩
   by_cases vH:seenK s u=seenK s v
   .rw [if_pos (decide_eq_true vH)];refine ⟨fun σ' H2=>σ'=[some (.ref a),some (.ref b),some (.int s),some (.int ((n':Int)+1)),some (.int mo)]/\H2=H1,?_,rfl,rfl⟩;rintro σ' H2 ⟨rfl,rfl⟩;refine ⟨10000-(n'+1),by lia,n'+1,rfl,S.trans S1,by lia,by lia,rfl,fun k k1 k2=>?_⟩
    by_cases hk:k=n'
    .rw [hk];exact ⟨alk.mpr vH,l1,l2⟩
    .exact N4 k k1 'a'
   .rw [if_neg (by simpa using vH)];exact q n' _ (S.trans S1) hnn N4 fun _ _ z=>vH (alk.mp z)
  .rw [if_neg (by simpa using C9)];exact q n' _ S hnn N4 fun l1 l2=>absurd ((vF n').mpr ⟨l1,l2⟩) C9
theorem sc_ends_from:FnScope ["order", "parts", "first", "wanted", "strength", "ends", "made", "alike", "at", "last"] ["order", "parts", "first", "wanted", "strength"] (C3 W3):=G3
abbrev bC:List Str:=["order", "parts", "first", "wanted", "strength", "ends", "made", "alike", "at", "last"]
theorem vc5:VS bC W3 "order" 0:=vq
theorem tU:VS bC W3 "parts" 1:=vq
theorem vc7:VS bC W3 "first" 2:=vq
theorem vc8:VS bC W3 "wanted" 3:=vq
theorem vc9:VS bC W3 "strength" 4:=vq
theorem vda:VS bC W3 "ends" 5:=vq
theorem oK:VS bC W3 "made" 6:=vq
theorem vdc:VS bC W3 "alike" 7:=vq
theorem tV:VS bC W3 "at" 8:=vq
theorem vde:VS bC W3 "last" 9:=vq
theorem vdf:LS W3 "ends":=lq
theorem vdg:LS W3 "made":=lq
theorem vdh:LS W3 "alike":=lq
theorem vdi:LS W3 "at":=lq
theorem vdj:LS W3 "last":=lq
theorem aho(F:FunD K "ends_from" "ends_from" W3 f fd)(T:Txt P w K mg C)(G_add_part:FO P w K mg base 3 "add_part" ["order", "made", "part"] [] (yN C))(G_is_joint:FO P w K mg base 2 "is_joint" ["order", "parts", "at"] [] (spIsJ C))(G_seen:FO P w K mg base 1 "seen" ["unit", "strength"] [] (tG K))(G_count_alike:FO P w K mg base 2 "count_alike" ["made", "wanted", "strength", "count"] [] (spCnt K)):FnOk P w K mg base E8 4 f fd ["order", "parts", "first", "wanted", "strength"] (anB C):=by
 refine F.ok sc_ends_from ?_ ?_
 .rintro _ _ _ _ ⟨x,j,ll,ml,md,a,b,f,s,ws,zs,ns,R,L,M,W,rfl,_⟩;rfl
 .intro cdv A outer s H vs Q E hr h;have C4:=hu_of hr;have hu:=hr.units;refine ⟨_,QSs.out (A7 (D0 (n:=5) sc_ends_from.nd rfl vdf (M7 A3))
   (A7 (D0 (n:=6) sc_ends_from.nd rfl vdg (M7 A3))
   (A7 (D0 (n:=7) sc_ends_from.nd rfl vdh A4)
   (A7 (M0 PassesOwn.never (qi_r2 T.b_range (qa_c (vi vc7) (qa_c (qe_op (q_add (K:=K)) (qe_cB (q_len (K:=K)) T.b_len O1 (qa_c (vi tU) A3)) A4) A3))) (D6 (n:=8) sc_ends_from.nd rfl vdi (.inl rfl)) (A7 (D0 (n:=7) sc_ends_from.nd rfl vdh (D1 G_count_alike (hm hr) (qa_c (vi oK) (qa_c (vi vc8) (qa_c (vi vc9) (qa_c (vi vdc) A3))))))
   (A7 (qs_if (E5 q_lt (vi vdc) (qe_op q_sub (qe_cB (q_len (K:=K)) T.b_len O1 (qa_c (vi oK) A3)) A4)) (A8 amv) G8)
   (A7 (cJ (n:=9) sc_ends_from.nd rfl vdj (Q7:CompOk ["order", "parts", "first", "wanted", "strength", "ends", "made", "alike", "at", "last"] (C3 W3).names _ ["unit", "strength"] 1 [4]) (O2 (K:=K) (M5 (K:=K) (vi oK) (K2 (qe_un q_neg A4)) P9)) (fun _ _ _ _ _=>D6 (n:=0) (show List.Nodup (["unit", "strength"]:List Str) by decide +kernel) rfl (Or.inl rfl)) (fun _ _ _ _ _=>b8) (fun _ _ _ _ _=>(D1 G_seen (hm hr) (qa_c (qv 0) (qa_c (qv 1) A3)))))
   (g4 (qs_if (QW.pt (aP (E5 (q_eq (K:=K) hu) (qe_cB (q_len (K:=K)) T.b_len O1 (qa_c (vi oK) A3)) (qe_cB (q_len (K:=K)) T.b_len O1 (qa_c (vi vc8) A3))) (aP (E5 (q_eq (K:=K) hu) (vi vde) (M5 (K:=K) (vi vc8) (K2 (qe_un q_neg A4)) P9)) (eD (Y7 (K:=K) (D1 G_is_joint (hm hr) (qa_c (vi vc5) (qa_c (vi tU) (qa_c (vi tV) A3))))))))) (A8 (P3 (qe_mB (K:=K) R4 V3 V2 V5 (vi vda) (qa_c (vi tV) A3)))) G8)
   (A8 (qs_if (E5 q_lt (vi tV) (qe_cB (q_len (K:=K)) T.b_len O1 (qa_c (vi tU) A3))) (A8 (P3 (D1 G_add_part (hm hr) (qa_c (vi vc5) (qa_c (vi oK) (qa_c (qe_ix (K:=K) (vi tU) (vi tV)) A3)))))) G8)))))))
   (A8 (E7 (vi vda))))))),?_⟩
  obtain ⟨x,j,ll,ml,md,a,b,f,s,ws,zs,ns,R,L,M,W,rfl,h1,h4,hO,G,ha,hf,O3,hy,vI,P6,hb,hW,hWl,q⟩:=h;have hUb:∀ i,(T6 (stepY R L M) zs f i).length<=7500/\∀ u∈T6 (stepY R L M) zs f i,u.2.2.1.length<=7500:=fun i=>by
   have h:=sU P6 ((zs.take i).drop f);have hl:((zs.take i).drop f).length<=500:=by rw [U3,E9];lia
   exact ⟨F8 h.1 'a',fun u hu=>F8 (h.2 u hu) 'a'⟩
  have wl:=Paired.length hW;walk_at "rd";intro p np p1 O6;have J0:UnI (A0 H p (.lst [])) (A0 (A0 H p (.lst [])) p1 (.lst [])) p1 [] (T6 (stepY R L M) zs f (f+0)):=by
   rw [Nat.add_zero,aqb];exact ⟨A5,.nil,by simp,fun c hc=>by rw [G2.mp hc];exact O6,Same.new O6⟩
  have SB:Same H (A0 H p (.lst [])):=Same.new np;have hp0:A0 H p (.lst []) p=some (.lst ((endsF (stepY R L M) s M zs W f 0).map fun n:Nat=>V.int n)):=A5;have np10:=SB.free O6;generalize A0 H p (.lst [])=HB at J0 SB hp0;generalize A0 HB p1 (.lst [])=H1 at J0;have fin:∀ {H':Hp} {HB:Hp} {es:List (Addr×Addr)} {U:List E1},UnI HB H' p1 es U->Same H HB->HB p=some (.lst ((endsF (stepY R L M) s M zs W f (zs.length+1-f)).map fun n:Nat=>V.int n))->Q (.ref p) H':=fun J S h=>q p _ np (S.trans J.same) (J.same _ _ h)
  refine ⟨zs.length,.inl ⟨_,.of ((SB.trans J0.same) _ _ ha),by rw [A6]⟩,by lia,by lia,by lia,by lia,?_⟩;rw [show ((zs.length:Int)+1-(f:Int)).toNat=zs.length+1-f by lia];refine forR (fun i Y H'=>∃ (n:Nat) (u v:Option V) (es:List (Addr×Addr)) (HB:Hp),Y=[some (.ref x),some (.ref a),some (.int f),some (.ref b),some (.int s),some (.ref p),some (.ref p1),some (.int n),u,v]/\UnI HB H' p1 es (T6 (stepY R L M) zs f (f+i))/\Same H HB/\HB p=some (.lst ((endsF (stepY R L M) s M zs W f i).map fun n:Nat=>V.int n))/\n<=10000/\∀ k<n,AlkAt s (T6 (stepY R L M) zs f (f+i)) W k/\k+1<(T6 (stepY R L M) zs f (f+i)).length/\k<W.length) ⟨0,none,none,[],HB,rfl,J0,SB,hp0,by lia,fun k hk=>absurd hk (Nat.not_lt_zero _)⟩ ?_ ?_
  .rintro i Y H' hi ⟨n,u,v,es,HB,rfl,J,S,hp,hn,N4⟩;have hU:=hUb (f+i);have hG:∀ y,zs[f+i]?=some y->T6 (stepY R L M) zs f (f+i+1)=(stepY R L M y).foldl addS (T6 (stepY R L M) zs f (f+i)):=fun y h=>ai5 'a' h
   have fR:=fun k=>ahf (S:=stepY R L M) (s:=s) (ms:=M) (zs:=zs) (W:=W) (f:=f) (i:=i) (k:=k)
   generalize hUe:T6 (stepY R L M) zs f (f+i)=U at J N4 hU hG fR;have T:=S.trans J.same;walk_at "rd";refine ⟨p1,b,s,n,es,ws,U,W,rfl,h1,h4,J.top,J.row,T _ _ hb,L0 hW fun _ _ e=>e.same T,by lia,hWl,fun u hu=>F8 (hU.2 u hu) (by decide),hn,fun n' H2 S2 hnn fS qJ=>?_⟩;have J2:=J.more S2;have j8:∀ k<n',AlkAt s U W k/\k+1<U.length/\k<W.length:=fun k hk=>by
    by_cases z:n<=k
    .exact fS k z hk
    .exact N4 k 'a'
   have uI:n'<=10000:=by
    by_cases z:n'=n
    .lia
    .have:=(j8 (n'-1) 'a').2.1
     lia
   have el:=Paired.length J2.row;clear N4 fS J S2;refine ⟨es.length,.inl ⟨_,.of J2.top,by rw [A6]⟩,?_⟩;walk_at "rd"
   by_cases hbr:(n':Int)<(es.length:Int)-1
   .rw [if_pos (decide_eq_true hbr)];have hna:¬ AlkAt s U W n':=fun z=>by
     by_cases hw:n'<W.length
     .exact qJ 'a' hw z
     .unfold AlkAt at z;rw [List.getElem?_eq_none (l:=W.map (seenK s)) (by rw [A6];lia),G5 (by rw [A6];lia)] at z
      cases z
    have hd:=fR n' 'a' hna (zs.length+1-f-i) 'a';rw [show i+(zs.length+1-f-i)=zs.length+1-f by lia] at hd;exact fin J2 S (by rw [hd];exact hp)
   rw [if_neg (by simpa using hbr)];refine rSlR.l (.of J2.top) fun l3 n3=>?_
   rw [ahe,A6,<- W7];have J3:=J2.more (Same.new (u:=.lst ((es.drop (es.length-1)).map fun e=>V.ref e.1)) n3);have h3:A0 H2 l3 (.lst ((es.drop (es.length-1)).map fun e=>V.ref e.1)) l3=some (.lst ((es.drop (es.length-1)).map fun e=>V.ref e.1)):=A5;generalize A0 H2 l3 (.lst ((es.drop (es.length-1)).map fun e=>V.ref e.1))=H3 at J3 h3;have C8:=nP (es.length-1) J3.row;generalize hes:es.drop (es.length-1)=es1 at h3 C8;generalize hUs:U.drop (es.length-1)=U1 at C8;have hes1:es1.length<=1:=by rw [<- hes,U3];lia
   have hU1:∀ u∈U1,u.2.2.1.length<=10000:=fun u hu=>F8 (hU.2 u (by rw [<- hUs] at hu;exact mK hu)) (by decide)
   refine ⟨l3,rfl,⟨_,.of h3⟩,compL (xs:=es1.map fun e=>V.ref e.1) [some (.int s)] rfl (fun D i ys H4=>∃ vs:List Addr,Same H3 H4/\ys=vs.map V.ref/\Paired (SeenAt H4 s) vs (U1.take i)) (fun D nD=>⟨[],Same.new nD,rfl,.nil⟩) (by rintro D i ys H4 nD _ ⟨_,S,_⟩;exact .of (S _ _ h3)) ?_ ?_⟩
   .rintro D i y ys H4 nD hi hy ⟨vs,S4,rfl,hP⟩ hD E6;obtain ⟨e,he,rfl⟩:=G4 (f:=fun e:Addr×Addr=>V.ref e.1) hy;obtain ⟨u,hu,j7⟩:=Paired.at C8 he;walk_at "rd";refine ⟨e.1,e.2,s,u,rfl,h4,S4 _ _ j7.1,.inl (S4 _ _ j7.2),hU1 u (L6 hu),fun l5 H5 n5 S5 h5=>?_⟩;have hD5:=S5 _ _ hD;refine ⟨hD5,?_,CW.put hi E6 ⟨(S4.trans S5).put nD,vs++[l5],by rw [D8];rfl,?_⟩⟩
    .rw [A6,Paired.length hP,E9]
     have:=Paired.length C8
     exact K1 'a'
    .rw [K7 hu];exact Paired.snoc (L0 hP fun _ _ q=>(q.same S5).mod hD5) (h5.mod hD5)
   rintro D ys H4 nD ⟨vs,S4,rfl,hP⟩ hD _;rw [A6,Paired.length C8,K9] at hP;have J4:=J3.more S4;refine cK (fun Y H'=>∃ (HB:Hp),Y=[some (.ref x),some (.ref a),some (.int f),some (.ref b),some (.int s),some (.ref p),some (.ref p1),some (.int n'),some (.int ((f:Int)+(i:Int))),some (.ref D)]/\UnI HB H' p1 es U/\Same H HB/\HB p=some (.lst ((endsF (stepY R L M) s M zs W f (i+1)).map fun n:Nat=>V.int n))) ?_ ?_
   .have T4:=S.trans J4.same;have qK:=T4 _ _ hb;have hW4:=L0 hW fun _ _ e=>e.same T4
    have B1:=tH (S:=stepY R L M) (s:=s) (ms:=M) (zs:=zs) (W:=W) (f:=f) i;have dG:hitB (stepY R L M) s M zs W f (f+i)=(decide (U.map (seenK s)=W.map (seenK s))&&jntB M zs (f+i)):=by unfold hitB;rw [hUe]
    have keep:hitB (stepY R L M) s M zs W f (f+i)=false->∀ {H':Hp},Same H4 H'->∃ HB,UnI HB H' p1 es U/\Same H HB/\HB p=some (.lst ((endsF (stepY R L M) s M zs W f (i+1)).map fun n:Nat=>V.int n)):=fun h {H'} S'=>⟨HB,J4.more S',S,by
     rw [show endsF (stepY R L M) s M zs W f (i+1)=if hitB (stepY R L M) s M zs W f (f+i)=true then endsF (stepY R L M) s M zs W f i++[f+i] else endsF (stepY R L M) s M zs W f i from rfl,if_neg (by rw [h];decide)];exact hp⟩
    walk_at "rd";refine ⟨es.length,.inl ⟨_,.of J4.top,by rw [A6]⟩,ws.length,.inl ⟨_,.of qK,by rw [A6]⟩,?_⟩
    by_cases n8:es.length=ws.length
    .rw [if_pos (decide_eq_true (by rw [n8]))];refine rSlR.l (.of qK) fun l6 n6=>?_
     rw [ahe,A6,<- W7];have S6:Same H4 (A0 H4 l6 (.lst ((ws.drop (ws.length-1)).map V.ref))):=Same.new n6;have h6:A0 H4 l6 (.lst ((ws.drop (ws.length-1)).map V.ref)) l6=some (.lst ((ws.drop (ws.length-1)).map V.ref)):=A5;generalize A0 H4 l6 (.lst ((ws.drop (ws.length-1)).map V.ref))=H6 at S6 h6;have hPs:=L0 hP fun _ _ e=>e.same S6
     have hWs:=nP (ws.length-1) (L0 hW4 fun _ _ e=>e.same S6);refine ⟨_,.lst (.of (S6 _ _ hD)) (zC hPs),_,.lst (.of h6) (zC hWs),F8 (dW _ _) (by have:=ae7 s U1;rw [U5];lia),?_⟩;rw [O9,ahg h1]
     by_cases hl:U1.map (seenK s)=(W.drop (ws.length-1)).map (seenK s)
     .rw [if_pos (decide_eq_true hl)];have qL:U.map (seenK s)=W.map (seenK s):=by
       have e1:=am5 (s:=s) (U:=U) (W:=W) (n:=es.length-1) fun k hk=>(j8 k 'a').1
       rw [<- hUs,W7,W7,<- n8] at hl;rw [<- V0 (es.length-1) (U.map (seenK s)),e1,hl,V0]
      refine ⟨x,j,ll,ml,md,a,f+i,zs,ns,R,L,M,rfl,hO.same (T4.trans S6),G,(T4.trans S6) _ _ ha,by lia,_,rfl,?_⟩
      by_cases hj:jntB M zs (f+i)=true
      .rw [if_pos hj];have J6:=J4.more S6;have hpH:=J6.same _ _ hp;refine ⟨R7 hpH,appOk hpH (by rw [A6];exact K1 'a') ⟨_,uam J6 hp,S.put np,?_⟩⟩;rw [A5,show endsF (stepY R L M) s M zs W f (i+1)=if hitB (stepY R L M) s M zs W f (f+i)=true then endsF (stepY R L M) s M zs W f i++[f+i] else endsF (stepY R L M) s M zs W f i from rfl,if_pos (by rw [dG,hj,decide_eq_true qL];rfl),D8];rfl
      .rw [if_neg hj];exact keep (by rw [dG];cases hjb:jntB M zs (f+i) with
        | true=>exact absurd hjb hj
        | false=>rw [Bool.and_false]) S6
     .rw [if_neg (by simpa using hl)];exact keep (by
       rw [dG,decide_eq_false (fun e=>hl (by rw [<- hUs,W7,W7,e,n8])),jP]) S6
    .rw [if_neg (by simpa using fun e=>n8 'a')];exact keep (by
      rw [dG,decide_eq_false (fun e=>n8 (by
       have:=congrArg Z8 e
       rw [A6,A6] at this;lia)),jP]) (aN _)
   rintro Y H5 ⟨HB5,rfl,J5,S5,fT⟩;walk_at "rd";have ha5:=(S5.trans J5.same) _ _ ha;refine ⟨zs.length,.inl ⟨_,.of ha5,by rw [A6]⟩,?_⟩
   by_cases C9:f+i<zs.length
   .rw [if_pos (decide_eq_true 'a')];obtain ⟨y,pO⟩:∃ y,zs[f+i]?=some y:=⟨_,G5 C9⟩
    have j6:=L6 pO;have e1:T6 (stepY R L M) zs f (f+(i+1))=(stepY R L M y).foldl addS U:=hG y pO;have hy1:=hy y j6;obtain ⟨c,r,hcr⟩:∃ c r,y.cps.toList=c::r:=by
     have:=hy1.1
     rw [<- lenL] at this;cases e:y.cps.toList with
     | nil=>rw [e] at this;simp at this
     | cons c r=>exact ⟨c,r,rfl⟩
    refine ⟨_,.inl (.of ha5),V.str y,N2 (j:=f+i) (by rw [O7,pO];rfl),?_⟩;refine ⟨x,p1,j,ll,ml,md,c,r,y,g6 R,R,L,M,HB5,es,U,rfl,hcr,by lia,hO.same S5,fun w=>vI w y j6,J5,by have:=P6 y;lia,by lia,fun u hu=>F8 (hU.2 u hu) (by decide),fun es' H' J'=>?_⟩;refine ⟨n',rfl,es',HB5,by rw [e1];exact J',S5,fT,uI,fun k hk=>?_⟩;obtain ⟨a1,a2,a3⟩:=j8 k hk;have gr:=zB (stepY R L M y) U;rw [e1];refine ⟨?_,Q9 a2 gr.1,a3⟩;unfold AlkAt at a1 ⊢
    rw [O7] at a1 ⊢
    rw [gr.2 k a2];exact a1
   .rw [if_neg (by rw [decide_eq_true_iff];lia)];have e1:T6 (stepY R L M) zs f (f+(i+1))=U:=by
     rw [<- hUe];unfold T6;rw [Z2 'a',Z2 'a']
    rw [e1];exact ⟨n',rfl,es,HB5,J5,S5,fT,uI,j8⟩
  rintro Y H' ⟨n,u,v,es,HB,rfl,J,S,hp,hn,N4⟩;walk_at "rd";exact fin J S hp
theorem sc_found_in:FnScope ["order", "one", "other", "strength", "wanted", "parts", "places", "found", "first", "end"] ["order", "one", "other", "strength"] (C3 R1):=G3
abbrev bD:List Str:=["order", "one", "other", "strength", "wanted", "parts", "places", "found", "first", "end"]
theorem tW:VS bD R1 "order" 0:=vq
theorem vdl:VS bD R1 "one" 1:=vq
theorem vdm:VS bD R1 "other" 2:=vq
theorem vdn:VS bD R1 "strength" 3:=vq
theorem vdo:VS bD R1 "wanted" 4:=vq
theorem vdp:VS bD R1 "parts" 5:=vq
theorem vdq:VS bD R1 "places" 6:=vq
theorem vdr:VS bD R1 "found" 7:=vq
theorem vds:VS bD R1 "first" 8:=vq
theorem vdt:VS bD R1 "end" 9:=vq
theorem vdu:LS R1 "wanted":=lq
theorem vdv:LS R1 "parts":=lq
theorem vdw:LS R1 "places":=lq
theorem vdx:LS R1 "found":=lq
theorem vdy:LS R1 "first":=lq
theorem vdz:LS R1 "end":=lq
theorem afa(F:FunD K "found_in" "found_in" R1 f fd)(T:Txt P w K mg C)(G_parts_of:FO P w K mg base 5 "parts_of" ["order", "text"] [] (sS C))(G_units:FO P w K mg base 6 "units" ["order", "text"] [] (yR C))(G_starts:FO P w K mg base 1 "starts" ["parts"] [] (yZ K))(G_is_joint:FO P w K mg base 2 "is_joint" ["order", "parts", "at"] [] (spIsJ C))(G_seen:FO P w K mg base 1 "seen" ["unit", "strength"] [] (tG K))(G_ends_from:FO P w K mg base 4 "ends_from" ["order", "parts", "first", "wanted", "strength"] [] (anB C)):FnOk P w K mg base E8 7 f fd ["order", "one", "other", "strength"] (tI C):=by
 refine F.ok sc_found_in ?_ ?_
 .rintro _ _ _ _ ⟨x,j,ll,ml,md,z,z',s,ns,R,L,M,rfl,_⟩;rfl
 .intro cdv A outer s H vs Q E hr h;have C4:=hu_of hr;have hu:=hr.units;refine ⟨_,QSs.out (A7 (cJ (n:=4) sc_found_in.nd rfl vdu (Q7:CompOk ["order", "one", "other", "strength", "wanted", "parts", "places", "found", "first", "end"] (C3 R1).names _ ["unit", "strength"] 1 [3]) (O2 (K:=K) (D1 G_units (hm hr) (qa_c (vi tW) (qa_c (vi vdl) A3)))) (fun _ _ _ _ _=>D6 (n:=0) (show List.Nodup (["unit", "strength"]:List Str) by decide +kernel) rfl (Or.inl rfl)) (fun _ _ _ _ _=>b8) (fun _ _ _ _ _=>(D1 G_seen (hm hr) (qa_c (qv 0) (qa_c (qv 1) A3)))))
   (A7 (D0 (n:=5) sc_found_in.nd rfl vdv (D1 G_parts_of (hm hr) (qa_c (vi tW) (qa_c (vi vdm) A3))))
   (A7 (D0 (n:=6) sc_found_in.nd rfl vdw (D1 G_starts (hm hr) (qa_c (vi vdp) A3)))
   (A7 (D0 (n:=7) sc_found_in.nd rfl vdx (M7 A3))
   (A7 (M0 PassesOwn.never (qi_r1 T.b_range (qa_c (qe_cB (q_len (K:=K)) T.b_len O1 (qa_c (vi vdq) A3)) A3)) (D6 (n:=8) sc_found_in.nd rfl vdy (.inl rfl)) (A8 (qs_if (Y7 (K:=K) (D1 G_is_joint (hm hr) (qa_c (vi tW) (qa_c (vi vdp) (qa_c (vi vds) A3))))) (A8 (M0 PassesOwn.never (O2 (K:=K) (D1 G_ends_from (hm hr) (qa_c (vi tW) (qa_c (vi vdp) (qa_c (vi vds) (qa_c (vi vdo) (qa_c (vi vdn) A3))))))) (D6 (n:=9) sc_found_in.nd rfl vdz (.inl rfl)) (A8 (P3 (qe_mB (K:=K) R4 V3 V2 V5 (vi vdr) (qa_c (M9 (qa_c (qe_ix (K:=K) (vi vdq) (vi vds)) (qa_c (qe_ix (K:=K) (vi vdq) (vi vdt)) A3))) A3)))))) G8)))
   (A7 (qs_if (E5 q_lt (vi vdn) A4) (A8 (E7 (vi vdr))) G8)
   (A8 (E7 (b9  (Q7:CompOk ["order", "one", "other", "strength", "wanted", "parts", "places", "found", "first", "end"] (C3 R1).names _ ["place", "one", "other"] 1 [1,2]) (O2 (K:=K) (vi vdr)) (fun _ _ _ _ _=>D6 (n:=0) (show List.Nodup (["place", "one", "other"]:List Str) by decide +kernel) rfl (Or.inl rfl)) (fun _ _ _ _ _=>(aS (E5 (q_eq (K:=K) hu) (M5 (K:=K) (qv 2) (K2 (qe_ix (K:=K) (qv 0) A4)) (K2 (qe_ix (K:=K) (qv 0) A4))) (qv 1)))) (fun _ _ _ _ _=>(qv 0))))))))))),?_⟩
  obtain ⟨x,j,ll,ml,md,z,z',s,ns,R,L,M,rfl,h1,h4,hO,G,hz,bJ,hw,hw',q⟩:=h;have P6:=ag2 G L M;obtain ⟨b1,b2,b3⟩:=ae1 P6 (w:=hasW R "figures") (ks:=D7 R) (y:=z) 'a';walk_at "rd";refine ⟨x,j,ll,ml,md,z,_,R,L,M,rfl,hO,G.known_len,by lia,hw,P6,fun u H1 nu S1 hu=>?_⟩;generalize P5 (stepY R L M) (cutF (hasW R "figures") (D7 R) z.cps.toList).2=W at hu q b1 b2 b3;obtain ⟨es,e1,e2⟩:=hu;refine ⟨u,rfl,⟨_,.of e1⟩,compL (xs:=es.map fun e=>V.ref e.1) [some (.int s)] rfl (fun D i ys H4=>∃ vs:List Addr,Same H1 H4/\ys=vs.map V.ref/\Paired (SeenAt H4 s) vs (W.take i)) (fun D nD=>⟨[],Same.new nD,rfl,.nil⟩) (by rintro D i ys H4 nD _ ⟨_,S,_⟩;exact .of (S _ _ e1)) ?_ ?_⟩
  .rintro D i y ys H4 nD hi hy ⟨vs,S4,rfl,hP⟩ hD E6;obtain ⟨e,he,rfl⟩:=G4 (f:=fun e:Addr×Addr=>V.ref e.1) hy;obtain ⟨w,hw3,hwe⟩:=Paired.at e2 he;walk_at "rd";refine ⟨e.1,e.2,s,w,rfl,h4,S4 _ _ hwe.1,.inr (S4 _ _ hwe.2),b2 w (L6 hw3),fun l5 H5 n5 S5 h5=>?_⟩;have hD5:=S5 _ _ hD;refine ⟨hD5,?_,CW.put hi E6 ⟨(S4.trans S5).put nD,vs++[l5],by rw [D8];rfl,?_⟩⟩
   .rw [A6,Paired.length hP,E9];exact K1 'a'
   .rw [K7 hw3];exact Paired.snoc (L0 hP fun _ _ q=>(q.same S5).mod hD5) (h5.mod hD5)
  rintro D ys H2 nD ⟨ws,S2,rfl,hW⟩ hD _;rw [A6,Paired.length e2,K9] at hW;have Z0:=S1.trans S2;clear e1 e2 nD nu;refine ⟨x,j,ll,ml,md,z',_,R,L,M,rfl,hO.same Z0,G.known_len,by lia,hw',fun a H3 na S3 ha=>?_⟩;have O3:(cutF (hasW R "figures") (D7 R) z'.cps.toList).2.length<=300:=F8 (kY _ _ (B3 _)).2.1 (by rw [lenL];exact bJ);have hy:∀ y∈(cutF (hasW R "figures") (D7 R) z'.cps.toList).2,1<=y.length/\y.length<=500:=fun y hy=>⟨nS _ _ (B3 _) y hy,F8 (sV _ _ (B3 _) y hy) (by rw [lenL];lia)⟩
  have vI:hasW R "figures"=true->∀ y∈(cutF (hasW R "figures") (D7 R) z'.cps.toList).2,FigR y:=fun h y hy=>yT _ _ (B3 _) y hy h
  generalize (cutF (hasW R "figures") (D7 R) z'.cps.toList).2=zs at ha O3 hy vI q;refine ⟨a,zs,rfl,.of ha,by lia,fun y h=>by have:=hy y h;lia,fun pl H4 npl S4 L5=>fun p np=>?_⟩;have ha4:=S4 _ _ ha;have bP:=S3.trans S4;have hD4:=bP _ _ hD;have hW4:=L0 hW fun _ _ e=>e.same bP
  have qI:=Z0.trans bP;have hO4:=hO.same qI;clear bP Z0 S1 S2 S3 S4 hD hW ha npl na;have iW:=qI.free np;walk_at "rd";refine ⟨zs.length+1,.inl ⟨_,.of (D3 L5 np),by rw [A6,yX]⟩,by lia,by lia,?_⟩;rw [show ((zs.length+1:Nat):Int).toNat=zs.length+1 from rfl];refine forRs (fun i Y H'=>∃ (u v:Option V) (ps:List Addr),Y=[some (.ref x),some (.str z),some (.str z'),some (.int s),some (.ref D),some (.ref a),some (.ref pl),some (.ref p),u,v]/\Same H4 H'/\IsPr H' p ps zs (g9 (stepY R L M) s M zs W i)) ⟨none,none,[],rfl,Same.new np,A5,.nil⟩ ?_ ?_
  .rintro P' Bk hP i Y H' hi ⟨u,v,ps,rfl,S,hp⟩;walk_at "rd";rw [t7];refine ⟨x,j,ll,ml,md,a,i,zs,ns,R,L,M,rfl,hO4.same S,G,S _ _ ha4,by lia,_,rfl,?_⟩;have N9:g9 (stepY R L M) s M zs W (i+1)=g9 (stepY R L M) s M zs W i++(if jntB M zs i=true then (endsF (stepY R L M) s M zs W i (zs.length+1-i)).map fun e=>(i,e) else []):=rfl;have i8:=zD (S:=stepY R L M) (s:=s) (ms:=M) (zs:=zs) (W:=W) i;have hm:(zs.length+1)*i<=301*301:=Nat.mul_le_mul 'a' 'a'
   by_cases hj:jntB M zs i=true
   .rw [if_pos hj];refine ⟨x,j,ll,ml,md,a,D,i,s,ws,zs,ns,R,L,M,W,rfl,h1,h4,hO4.same S,G,S _ _ ha4,by lia,by lia,hy,vI,P6,S _ _ hD4,L0 hW4 fun _ _ e=>e.same S,b1,fun l6 H6 n6 S6 h6=>⟨l6,rfl,⟨_,.of h6⟩,?_⟩⟩;have n8:=ai7 (S:=stepY R L M) (s:=s) (ms:=M) (zs:=zs) (W:=W) (f:=i) (zs.length+1-i);have m9:=tH (S:=stepY R L M) (s:=s) (ms:=M) (zs:=zs) (W:=W) (f:=i) (zs.length+1-i);rw [if_pos hj] at N9;generalize endsF (stepY R L M) s M zs W i (zs.length+1-i)=E at h6 n8 m9 N9;have n6p:l6≠p:=fun e=>by rw [e,hp.top] at n6;cases n6
    refine forLs (xs:=E.map fun n:Nat=>V.int n) (fun m Y H7=>∃ (v:Option V) (ps:List Addr),Y=[some (.ref x),some (.str z),some (.str z'),some (.int s),some (.ref D),some (.ref a),some (.ref pl),some (.ref p),some (.int i),v]/\Same H4 H7/\H7 l6=some (.lst (E.map fun n:Nat=>V.int n))/\IsPr H7 p ps zs (g9 (stepY R L M) s M zs W i++(E.take m).map fun e=>(i,e))) ⟨_,ps,rfl,S.trans S6,h6,by rw [Z6,bV,G7];exact hp.same S6⟩ (by rintro m Y H7 _ ⟨_,_,_,_,h,_⟩;exact .of h) ?_ ?_
    .rintro P2 Bk2 hP2 m v0 Y H7 hv ⟨v1,ps,rfl,S7,mB,dH⟩;obtain ⟨e,he,rfl⟩:=G4 (f:=fun n:Nat=>V.int n) hv;have vG:=n8 e (L6 he);have vC:=(I0.mp he).1;have qM:=S7 _ _ L5;have jB:=Paired.length dH.row;rw [C1,A6,E9] at jB;walk_at "rd";refine ⟨R7 dH.top,_,.inl (.of qM),V.int (G0 zs i),N2 (j:=i) (by rw [O7,yY zs 'a'];rfl),_,.inl (.of qM),V.int (G0 zs e),N2 (j:=e) (by rw [O7,yY zs 'a'];rfl),by decide,fun t nt=>?_⟩;have ntp:t≠p:=fun q=>by rw [q,dH.top] at nt;cases nt
     refine appOk (D3 dH.top nt) (by rw [A6];exact K1 'a') (hP2 _ _ _ ⟨_,ps++[t],rfl,(S7.trans (Same.new nt)).put np,by rw [A9 n6p];exact D3 mB nt,by rw [A5,D8];rfl,?_⟩);rw [K7 he,D8,<- Q1];refine Paired.snoc (L0 dH.row fun b c hb=>?_) (by rw [A9 ntp,A5]);rw [A9 (fun q=>by rw [q,dH.top] at hb;cases hb)];exact D3 hb nt
    .rintro Y H7 ⟨v1,ps,rfl,S7,mB,dH⟩;rw [A6,K9] at dH;exact hP _ _ _ ⟨_,_,ps,rfl,S7,by rw [N9];exact dH⟩
   .rw [if_neg hj];exact hP _ _ _ ⟨_,_,ps,rfl,S,by rw [N9,if_neg hj,G7];exact hp⟩
  rintro Y H' ⟨u,v,ps,rfl,S,hp⟩;walk_at "rd";have S0:=qI.trans S;have hPl:=zD (S:=stepY R L M) (s:=s) (ms:=M) (zs:=zs) (W:=W) (zs.length+1);have hm:(zs.length+1)*(zs.length+1)<=301*301:=Nat.mul_le_mul 'a' 'a'
  by_cases hs:s<4
  .rw [if_pos (decide_eq_true 'a')];exact q p ps _ iW S0 (by unfold lE;rw [if_pos hs];exact hp)
  rw [if_neg (by rw [decide_eq_true_iff];lia)];unfold lE at q;rw [if_neg hs] at q;generalize g9 (stepY R L M) s M zs W (zs.length+1)=P at hp q hPl;have jB:=Paired.length hp.row;refine ⟨⟨_,.of hp.top⟩,compL (xs:=ps.map V.ref) [some (.str z),some (.str z')] rfl (fun D i ys H2=>∃ vs:List Addr,Same H' H2/\ys=vs.map V.ref/\Paired (fun p e=>H' p=some (.tup [V.int (G0 zs e.1),V.int (G0 zs e.2)])) vs ((P.take i).filter fun e=>decide (cutS z' (some (G0 zs e.1)) (some (G0 zs e.2))=z))) (fun D nD=>⟨[],Same.new nD,rfl,.nil⟩) (by rintro D i ys H2 nD _ ⟨_,S,_⟩;exact .of (S _ _ hp.top)) ?_ ?_⟩
  .rintro D i y ys H2 nD hi hy ⟨vs,S2,rfl,hP⟩ hD E6;obtain ⟨t,ht,rfl⟩:=G4 hy;obtain ⟨e,he,hte⟩:=Paired.at hp.row ht;have qN:=S2 _ _ hte;have lT:vs.length<=P.length:=by
    rw [Paired.length hP];refine F8 (fZ _ _) ?_;rw [E9];lia
   walk_at "rd";refine ⟨_,.inr (.of qN),_,T9 _ _,_,rfl,_,.inr (.of qN),_,N2 (j:=1) rfl,_,rfl,P7 'a',?_⟩
   by_cases hc:cutS z' (some (G0 zs e.1)) (some (G0 zs e.2))=z
   .rw [if_pos (decide_eq_true hc)];refine ⟨hD,by rw [A6];exact K1 'a',CW.put hi E6 ⟨S2.put nD,vs++[t],by rw [D8];rfl,?_⟩⟩;rw [K7 he,Y1,show [e].filter (fun e=>decide (cutS z' (some (G0 zs e.1)) (some (G0 zs e.2))=z))=[e] by simp [hc]];exact Paired.snoc hP hte
   .rw [if_neg (by simpa using hc)];refine ⟨hD,kG hi E6 ⟨S2,vs,rfl,?_⟩⟩;rw [K7 he,Y1,show [e].filter (fun e=>decide (cutS z' (some (G0 zs e.1)) (some (G0 zs e.2))=z))=[] by simp [hc],G7];exact hP
  rintro D ys H2 nD ⟨vs,S2,rfl,hP⟩ hD _;rw [A6,jB,K9] at hP;exact q D vs _ (S0.free nD) (S0.trans S2) ⟨hD,L0 hP fun _ _ e=>S2 _ _ e⟩
theorem ahp:FnScope ["_law_script", "_law_k"] ["_law_script", "_law_k"] (C3 oB):=G3
abbrev afb:List Str:=["_law_script", "_law_k"]
theorem vdA:VS afb oB "_law_script" 0:=vq
theorem vdB:VS afb oB "_law_k" 1:=vq
theorem ahq(F:FunD K "_law_cell_at" "_law_cell_at" oB f fd)(T:Txt P w K mg C):FnOk P w K mg base E8 1 f fd ["_law_script", "_law_k"] (kP K):=by
 refine F.ok ahp ?_ ?_
 .rintro _ _ _ _ ⟨a,ns,k,rfl,_⟩;rfl
 .intro cdv A outer s H vs Q E hr h;have C4:=hu_of hr;have hu:=hr.units;refine ⟨_,QSs.out (A7 (qs_if (E5 q_lt (vi vdB) (qe_cB (q_len (K:=K)) T.b_len O1 (qa_c (vi vdA) A3))) (A8 (E7 (qe_ix (K:=K) (vi vdA) (vi vdB)))) G8)
   (A8 (E7 A4))),?_⟩
  obtain ⟨a,ns,k,rfl,hS,hk,q⟩:=h;walk_at "rd";unfold cellF at q;refine ⟨ns.length,.inl ⟨_,hS,by rw [A6]⟩,iteD (fun C9=>?_) fun uU=>?_⟩
  .rw [if_pos C9] at q;have hi:k.toNat<ns.length:=by lia
   refine ⟨_,.inl hS,V.int (ns.getD k.toNat 0),?_,q⟩;have e:((k.toNat:Nat):Int)=k:=by lia
   have h1:K5 (ns.map V.int) ((k.toNat:Nat):Int)=some (V.int (ns.getD k.toNat 0)):=N2 (by rw [O7,dO,G5 hi];rfl);rw [e] at h1;exact h1
  .rw [if_neg uU] at q;exact q
theorem sc_l_sign:FnScope ["_law_script", "_law_k", "_law_some", "_law_step"] ["_law_script", "_law_k"] (C3 cQ):=G3
abbrev tX:List Str:=["_law_script", "_law_k", "_law_some", "_law_step"]
theorem vdC:VS tX cQ "_law_script" 0:=vq
theorem vdD:VS tX cQ "_law_k" 1:=vq
theorem vdE:VS tX cQ "_law_some" 2:=vq
theorem vdF:VS tX cQ "_law_step" 3:=vq
theorem vdG:LS cQ "_law_some":=lq
theorem vdH:LS cQ "_law_step":=lq
theorem alI(F:FunD K "_law_sign" "_law_sign" cQ f fd)(T:Txt P w K mg C)(G_l_cell_at:FO P w K mg base 1 "_law_cell_at" ["_law_script", "_law_k"] [] (kP K)):FnOk P w K mg base E8 2 f fd ["_law_script", "_law_k"] (spSgn K):=by
 refine F.ok sc_l_sign ?_ ?_
 .rintro _ _ _ _ ⟨a,ns,k,rfl,_⟩;rfl
 .intro cdv A outer s H vs Q E hr h;have C4:=hu_of hr;have hu:=hr.units;refine ⟨_,QSs.out (A7 (D0 (n:=2) sc_l_sign.nd rfl vdG K6)
   (A7 (D0 (n:=3) sc_l_sign.nd rfl vdH (qe_ix (K:=K) (M7 (qa_c A4 (qa_c A4 (qa_c A4 (qa_c A4 (qa_c A4 (qa_c A4 (qa_c A4 (qa_c A4 (qa_c A4 (qa_c A4 (qa_c A4 (qa_c A4 A3))))))))))))) (qe_op q_mod (D1 G_l_cell_at (hm hr) (qa_c (vi vdC) (qa_c A4 A3))) A4)))
   (g4 (qs_if (E5 (q_eq (K:=K) hu) (qe_op q_mod (qe_op L7 (D1 G_l_cell_at (hm hr) (qa_c (vi vdC) (qa_c A4 A3))) A4) A4) A4) (A8 (D0 (n:=2) sc_l_sign.nd rfl vdG (qe_op (q_add (K:=K)) (vi vdE) K6))) G8)
   (A8 (E7 (qe_ix (K:=K) (vi vdE) (qe_op q_mod (qe_op (q_add (K:=K)) (D1 G_l_cell_at (hm hr) (qa_c (vi vdC) (qa_c A4 A3))) (qe_op q_mul (vi vdD) (vi vdF))) (qe_cB (q_len (K:=K)) T.b_len O1 (qa_c (vi vdE) A3))))))))),?_⟩
  obtain ⟨a,ns,k,rfl,hS,hk,q⟩:=h;walk_at "rd";refine ⟨by decide,fun p np=>⟨a,ns,1,rfl,(Same.new np).seq hS,by decide,_,rfl,_,.inl (.of A5),V.int (v4 ns),(xS ns).1,cK (fun Y H2=>∃ z:Str,Y=[some (.ref a),some (.int k),some (.str z),some (.int (v4 ns))]/\Same H H2/\z.cps.toList=listF (Q5 ns)) ?_ ?_⟩⟩
  .walk_at "rd";refine ⟨a,ns,1,rfl,(Same.new np).seq hS,by decide,_,rfl,iteD (fun e=>⟨by decide,Same.new np,?_⟩) fun e=>⟨Same.new np,?_⟩⟩
   .unfold Q5;rw [decide_eq_true e];exact SB_eq
   .unfold Q5;rw [decide_eq_false e];exact SA_eq
  rintro Y H2 ⟨z,rfl,S,hz⟩;have P6:=aoW ns;have O3:(z.length:Int)=lenF (Q5 ns):=by rw [<- sF,<- hz];simp [Str.length]
  have hp:=xR (Q5 ns);have L4:=(anq ns k).1;rw [<- hz,<- O3] at L4;have hsz:z.length<=sizeLine:=P7 'a';walk_at "rd";refine ⟨a,ns,0,rfl,S.seq hS,by decide,.inr ⟨by lia,by lia⟩,?_⟩;walk_at "rd";exact ⟨hsz,by lia,hsz,_,L4,q _ S⟩
theorem sc_l_letters:FnScope ["_law_script", "_law_cell", "_law_many", "_law_found", "_law_k", "_law_number", "_law_piece", "_law_at"] ["_law_script"] (C3 W4):=G3
abbrev eT:List Str:=["_law_script", "_law_cell", "_law_many", "_law_found", "_law_k", "_law_number", "_law_piece", "_law_at"]
theorem vdI:VS eT W4 "_law_script" 0:=vq
theorem tY:VS eT W4 "_law_cell" 1:=vq
theorem tZ:VS eT W4 "_law_many" 2:=vq
theorem oM:VS eT W4 "_law_found" 3:=vq
theorem vdM:VS eT W4 "_law_k" 4:=vq
theorem vdN:VS eT W4 "_law_number" 5:=vq
theorem vdO:VS eT W4 "_law_piece" 6:=vq
theorem vdP:VS eT W4 "_law_at" 7:=vq
theorem vdQ:LS W4 "_law_cell":=lq
theorem vdR:LS W4 "_law_many":=lq
theorem vdS:LS W4 "_law_found":=lq
theorem vdT:LS W4 "_law_k":=lq
theorem vdU:LS W4 "_law_number":=lq
theorem vdV:LS W4 "_law_piece":=lq
theorem vdW:LS W4 "_law_at":=lq
theorem ahr(F:FunD K "_law_letters" "_law_letters" W4 f fd)(T:Txt P w K mg C)(G_l_cell_at:FO P w K mg base 1 "_law_cell_at" ["_law_script", "_law_k"] [] (kP K))(G_l_sign:FO P w K mg base 2 "_law_sign" ["_law_script", "_law_k"] [] (spSgn K)):FnOk P w K mg base E8 3 f fd ["_law_script"] (afA K):=by
 refine F.ok sc_l_letters ?_ ?_
 .rintro _ _ _ _ ⟨a,ns,rfl,_⟩;rfl
 .intro cdv A outer s H vs Q E hr h;have C4:=hu_of hr;have hu:=hr.units;refine ⟨_,QSs.out (A7 (D0 (n:=1) sc_l_letters.nd rfl vdQ (D1 G_l_cell_at (hm hr) (qa_c (vi vdI) (qa_c A4 A3))))
   (A7 (D0 (n:=2) sc_l_letters.nd rfl vdR (qe_op (q_add (K:=K)) A4 (qe_op q_mod (vi tY) A4)))
   (g4 (qs_if (E5 (q_eq (K:=K) hu) (qe_op q_mod (qe_op L7 (vi tY) A4) A4) A4) (A8 (D0 (n:=2) sc_l_letters.nd rfl vdR (qe_op (q_add (K:=K)) (vi tZ) A4))) G8)
   (A7 (cJ (n:=3) sc_l_letters.nd rfl vdS (Q7:CompOk ["_law_script", "_law_cell", "_law_many", "_law_found", "_law_k", "_law_number", "_law_piece", "_law_at"] (C3 W4).names _ ["_law_k", "_law_script"] 1 [0]) (qi_r1 T.b_range (qa_c (vi tZ) A3)) (fun _ _ _ _ _=>D6 (n:=0) (show List.Nodup (["_law_k", "_law_script"]:List Str) by decide +kernel) rfl (Or.inl rfl)) (fun _ _ _ _ _=>b8) (fun _ _ _ _ _=>(D1 G_l_sign (hm hr) (qa_c (qv 1) (qa_c (qv 0) A3)))))
   (A7 (M0 PassesOwn.never (qi_r1 T.b_range (qa_c (qe_op q_mod (qe_op L7 (vi tY) A4) A4) A3)) (D6 (n:=4) sc_l_letters.nd rfl vdT (.inl rfl)) (A7 (D0 (n:=5) sc_l_letters.nd rfl vdU (qe_op q_mod (qe_op q_mul (qe_op L7 (vi tY) A4) (qe_ix (K:=K) (M7 (qa_c A4 (qa_c A4 (qa_c A4 A3)))) (vi vdM))) A4))
   (A7 (D0 (n:=6) sc_l_letters.nd rfl vdV (qe_op (q_add (K:=K)) (D1 G_l_sign (hm hr) (qa_c (vi vdI) (qa_c (qe_op q_mod (vi vdN) (vi tZ)) A3))) (D1 G_l_sign (hm hr) (qa_c (vi vdI) (qa_c (qe_op q_mod (qe_op L7 (vi vdN) A4) (vi tZ)) A3)))))
   (A7 (D0 (n:=7) sc_l_letters.nd rfl vdW (qe_op q_mod (qe_op L7 (vi vdN) A4) (qe_op (q_add (K:=K)) (qe_cB (q_len (K:=K)) T.b_len O1 (qa_c (vi oM) A3)) A4)))
   (A8 (qs_if (E5 (wZ (K:=K) hu) (vi vdO) (vi oM)) (A8 (D0 (n:=3) sc_l_letters.nd rfl vdS (qe_op (q_add (K:=K)) (qe_op (q_add (K:=K)) (M5 (K:=K) (vi oM) P9 (K2 (vi vdP))) (M7 (qa_c (vi vdO) A3))) (M5 (K:=K) (vi oM) (K2 (vi vdP)) P9)))) G8))))))
   (A8 (E7 (vi oM)))))))),?_⟩
  obtain ⟨a,ns,rfl,hS,q⟩:=h;walk_at "rd";refine ⟨a,ns,2,rfl,hS,by decide,?_⟩;generalize cellF ns 2=c;walk_at "rd";refine cK (fun Y H2=>∃ n:Int,Y=[some (.ref a),some (.int c),some (.int n),none,none,none,none,none]/\H2=H/\2<=n/\n<=16) ?_ ?_
  .walk_at "rd";exact iteD (fun _=>by lia) fun _=>by lia
  rintro Y H2 ⟨n,rfl,rfl,hn0,hn1⟩;walk_at "rd";refine ⟨by lia,by lia,compR [some (.ref a)] rfl (fun D j ys H4=>ys=(eI ns j).map V.str/\Same H2 H4) (fun D nD=>⟨rfl,Same.new nD⟩) ?_ ?_⟩
  .rintro D i ys H4 nD hi ⟨rfl,S4⟩ hD E6;walk_at "rd";refine ⟨a,ns,_,rfl,S4.seq hS,by lia,fun H5 S5=>⟨S5 _ _ hD,jO E6 (Q9 hi (P7 'a')),⟨hi,by rw [C1,O4];lia,⟨_,rfl⟩,by rw [aiO,D8,t7];rfl,(S4.trans S5).put nD⟩⟩⟩
  rintro D ys H4 nD ⟨rfl,S4⟩ hD E6;refine ⟨by lia,by lia,forR (fun i Y H5=>∃ (l:Addr) (ps:List Str) (u v w x:Option V),Y=[some (.ref a),some (.int c),some (.int n),some (.ref l),u,v,w,x]/\LetI ns H2 H5 l ps i/\LetW ns n ps) ⟨D,_,none,none,none,none,rfl,⟨nD,S4,hD,(ak7 ns n.toNat 'a').wide fun k hk=>⟨hk.1,by lia⟩,⟨n,anu hn0 hn1⟩,by rw [ak6];lia,by rw [ak6];lia⟩,anu hn0 hn1⟩ ?_ ?_⟩
  .rintro i Y H5 hi ⟨l,ps,u,v,w,x,rfl,J,JW⟩;walk_at "rd";obtain ⟨m,hm,vJ⟩:=mul3 (i:=i) 'a';refine ⟨by decide,fun p np=>⟨_,.inl (.of A5),V.int m,hm,?_⟩⟩;have S6:Same H5 (A0 H5 p (HO.lst [V.int 48271,V.int 69621,V.int 16807])):=Same.new np;generalize A0 H5 p (HO.lst [V.int 48271,V.int 69621,V.int 16807])=H6 at S6 ⊢
   walk_at "rd";refine ⟨.inr ⟨by lia,by lia⟩,?_⟩;generalize c / 20*m % 2147483647=N;have a1:=k5 N (show n≠0 by lia);have a2:=t6 N (show 0<n by lia);have b1:=k5 (N / 7) (show n≠0 by lia);have b2:=t6 (N / 7) (show 0<n by lia);have S6':=J.same.trans S6;refine ⟨by lia,a,ns,_,rfl,S6'.seq hS,a1,fun H7 S7=>⟨by lia,a,ns,_,rfl,(S6'.trans S7).seq hS,b1,fun H8 S8=>?_⟩⟩;have h8:=S8 _ _ (S7 _ _ (S6 _ _ J.lst));have S8':=S6'.trans (S7.trans S8);have mD:nQ ns LetS (one (K8 ns (N % n))++one (K8 ns (N / 7 % n))):=⟨N % n,⟨a1,by lia⟩,yE ns _ _⟩
   have vE:=J.hi;obtain ⟨t,ht,lS⟩:∃ t:Nat,N / 49 % ((ps.length:Int)+1)=(t:Int)/\t<=ps.length:=⟨(N / 49 % ((ps.length:Int)+1)).toNat,by
    have:=k5 (N / 49) (show (ps.length:Int)+1≠0 by lia)
    lia,by
    have:=t6 (N / 49) (show 0<(ps.length:Int)+1 by lia)
    lia⟩
   walk_at "rd";refine ⟨by show 1+1<=sizeLine;decide,ps.length,.inl ⟨_,.of h8,by rw [A6]⟩,by lia,rInR.l (.inl (.of h8)) rfl (agF _) ⟨_,rfl,?_⟩⟩;rw [wT,Bool.true_xor,ht];have hpw:∃ k:Int,0<=k/\k<n/\(one (K8 ns (N % n))++one (K8 ns (N / 7 % n))=one (K8 ns k)\/∃ m:Int,0<=m/\m<n/\one (K8 ns (N % n))++one (K8 ns (N / 7 % n))=one (K8 ns k)++one (K8 ns m)):=⟨N % n,a1,a2,.inr ⟨N / 7 % n,b1,b2,rfl⟩⟩
   generalize one (K8 ns (N % n))++one (K8 ns (N / 7 % n))=pc at mD hpw ⊢
   refine iteN (fun Q8=>rSlR.l (.of h8) fun q2 nq2=>?_) fun hold=>⟨ps,⟨J.new,S8',h8,J.dis,J.wd,J.lo,by lia⟩,JW⟩
   rw [eE,<- s0];refine ⟨by decide,fun q3 nq3=>?_⟩;walk_at "rd";refine rAddR.l (D3 A5 nq3) A5 (by rw [A6,E9,O4];exact P7 'a') fun q4 nq4=>?_
   refine rSlR.l (.of (D3 (D3 (D3 h8 nq2) nq3) nq4)) fun q5 nq5=>?_
   rw [o7,<- W7];walk_at "rd";refine rAddR.l (D3 A5 nq5) A5 (by rw [C1,A6,A6,E9,U3,O4];exact P7 'a') fun q6 nq6=>?_
   have S9:=S8'.trans ((Same.new nq2).trans ((Same.new nq3).trans ((Same.new nq4).trans (Same.new (u:=HO.lst ((ps.drop t).map V.str)) nq5))));refine ⟨q6,rfl,ps.take t++[pc]++ps.drop t,⟨S9.free nq6,S9.trans (Same.new nq6),?_,Dis.ins (fun k hk=>by unfold LetS at hk;lia) J.dis mD Q8,⟨n,JW.ins hpw⟩,?_,?_⟩,JW.ins hpw⟩
   .rw [A5,D8,D8];rfl
   .have:=J.lo
    simp only [C1,E9,U3,O4];lia
   .simp only [C1,E9,U3,O4];lia
  rintro Y H5 ⟨l,ps,u,v,w,x,rfl,J,_⟩;walk_at "rd";exact q l ps H5 ⟨J.new,J.same,J.lst,J.dis,J.wd,J.lo,by have:=J.hi;lia⟩
theorem alJ:FnScope ["_law_letters_here", "_law_marks", "_law_number", "_law_first"] ["_law_letters_here", "_law_marks", "_law_number", "_law_first"] (C3 iC):=G3
abbrev uA:List Str:=["_law_letters_here", "_law_marks", "_law_number", "_law_first"]
theorem vdX:VS uA iC "_law_letters_here" 0:=vq
theorem vdY:VS uA iC "_law_marks" 1:=vq
theorem vdZ:VS uA iC "_law_number" 2:=vq
theorem vd0:VS uA iC "_law_first" 3:=vq
theorem alK(F:FunD K "_law_part" "_law_part" iC f fd)(T:Txt P w K mg C):FnOk P w K mg base E8 1 f fd ["_law_letters_here", "_law_marks", "_law_number", "_law_first"] (anv K):=by
 refine F.ok alJ ?_ ?_
 .rintro _ _ _ _ ⟨l,m,n,b,ls,ms,rfl,_⟩;rfl
 .intro cdv A outer s H vs Q E hr h;have C4:=hu_of hr;have hu:=hr.units;refine ⟨_,QSs.out (A7 (qs_if (QW.pt (qw_or (Y7 (K:=K) (vi vd0)) (qw_or (E5 (q_eq (K:=K) hu) (vi vdY) (M7 A3)) (wX (E5 (q_eq (K:=K) hu) (qe_op q_mod (vi vdZ) A4) A4))))) (A8 (E7 (qe_ix (K:=K) (vi vdX) (qe_op q_mod (qe_op L7 (vi vdZ) A4) (qe_cB (q_len (K:=K)) T.b_len O1 (qa_c (vi vdX) A3)))))) G8)
   (A8 (E7 (qe_ix (K:=K) (vi vdY) (qe_op q_mod (qe_op L7 (vi vdZ) A4) (qe_cB (q_len (K:=K)) T.b_len O1 (qa_c (vi vdY) A3))))))),?_⟩
  obtain ⟨l,m,n,b,ls,ms,rfl,hl,hm,h1,h2,h3,hok,q⟩:=h;walk_at "rd"
  cases b with
  | true=>exact pickL hl h1 fun p hp=>q p H (aN H) (.inl hp)
  | false=>
   intro p np;have S:Same H (A0 H p (.lst [])):=Same.new np;have hp:A0 H p (.lst []) p=some (.lst (([]:List Str).map V.str)):=A5;generalize A0 H p (.lst [])=H1 at S hp ⊢
   refine ⟨_,.lst (.of (S _ _ hm)) (u5 hok),_,.lst (.of hp) (u5 (by simp)),by rw [U5,nH];exact F8 (dW _ _) (by decide),?_⟩;rw [aiw];refine iteD (fun e=>pickL (S _ _ hl) h1 fun p hp=>q p H1 S (.inl hp)) fun e=>iteD (fun _=>pickL (S _ _ hl) h1 fun p hp=>q p H1 S (.inl hp)) fun _=>pickL (S _ _ hm) ?_ fun p hp=>q p H1 S (.inr ⟨rfl,hp⟩)
   cases ms with
   | nil=>exact absurd rfl e
   | cons x xs=>simp
theorem am8:FnScope ["_law_script", "_law_k", "_law_cell"] ["_law_script", "_law_k", "_law_cell"] (C3 lB):=G3
abbrev aii:List Str:=["_law_script", "_law_k", "_law_cell"]
theorem vd1:VS aii lB "_law_script" 0:=vq
theorem vd2:VS aii lB "_law_k" 1:=vq
theorem vd3:VS aii lB "_law_cell" 2:=vq
theorem am9(F:FunD K "_law_two" "_law_two" lB f fd)(T:Txt P w K mg C)(G_l_sign:FO P w K mg base 2 "_law_sign" ["_law_script", "_law_k"] [] (spSgn K)):FnOk P w K mg base E8 3 f fd ["_law_script", "_law_k", "_law_cell"] (spTwo K):=by
 refine F.ok am8 ?_ ?_
 .rintro _ _ _ _ ⟨a,ns,k,c,rfl,_⟩;rfl
 .intro cdv A outer s H vs Q E hr h;have C4:=hu_of hr;have hu:=hr.units;refine ⟨_,QSs.out (A7 (qs_if (E5 (q_eq (K:=K) hu) (qe_op q_mod (qe_op L7 (vi vd3) (qe_op (q_add (K:=K)) (qe_op q_mod (vi vd2) A4) A4)) A4) A4) (A8 (E7 (qe_op (q_add (K:=K)) (D1 G_l_sign (hm hr) (qa_c (vi vd1) (qa_c (vi vd2) A3))) (D1 G_l_sign (hm hr) (qa_c (vi vd1) (qa_c (qe_op q_mod (qe_op L7 (vi vd3) A4) A4) A3)))))) G8)
   (A8 (E7 (D1 G_l_sign (hm hr) (qa_c (vi vd1) (qa_c (vi vd2) A3)))))),?_⟩
  obtain ⟨a,ns,k,c,rfl,hS,hk,q⟩:=h;walk_at "rd";refine ⟨by lia,by lia,iteD (fun _=>⟨a,ns,_,rfl,hS,hk,fun H1 S1=>⟨a,ns,_,rfl,S1.seq hS,by lia,fun H2 S2=>?_⟩⟩) fun _=>⟨a,ns,_,rfl,hS,hk,fun H1 S1=>q _ H1 S1 (sP ns k)⟩⟩;walk_at "rd";exact ⟨by show 1+1<=sizeLine;decide,q _ H2 (S1.trans S2) (yE ns k _)⟩
theorem sc_l_others:FnScope ["_law_script", "_law_letters_here", "_law_marks", "_law_cell", "_law_rules_here", "_law_k", "_law_form", "_law_rule", "_law_j", "_law_number", "_law_pieces_here"] ["_law_script", "_law_letters_here", "_law_marks"] (C3 T5):=G3
abbrev w5:List Str:=["_law_script", "_law_letters_here", "_law_marks", "_law_cell", "_law_rules_here", "_law_k", "_law_form", "_law_rule", "_law_j", "_law_number", "_law_pieces_here"]
theorem lK:VS w5 T5 "_law_script" 0:=vq
theorem vd5:VS w5 T5 "_law_letters_here" 1:=vq
theorem vd6:VS w5 T5 "_law_marks" 2:=vq
theorem w6:VS w5 T5 "_law_cell" 3:=vq
theorem uB:VS w5 T5 "_law_rules_here" 4:=vq
theorem eU:VS w5 T5 "_law_k" 5:=vq
theorem vea:VS w5 T5 "_law_form" 6:=vq
theorem uC:VS w5 T5 "_law_rule" 7:=vq
theorem vec:VS w5 T5 "_law_j" 8:=vq
theorem ved:VS w5 T5 "_law_number" 9:=vq
theorem vee:VS w5 T5 "_law_pieces_here" 10:=vq
theorem vef:LS T5 "_law_cell":=lq
theorem veg:LS T5 "_law_rules_here":=lq
theorem veh:LS T5 "_law_k":=lq
theorem vei:LS T5 "_law_form":=lq
theorem uD:LS T5 "_law_rule":=lq
theorem vek:LS T5 "_law_j":=lq
theorem vel:LS T5 "_law_number":=lq
theorem vem:LS T5 "_law_pieces_here":=lq
theorem aij(F:FunD K "_law_others" "_law_others" T5 f fd)(T:Txt P w K mg C)(G_l_cell_at:FO P w K mg base 1 "_law_cell_at" ["_law_script", "_law_k"] [] (kP K))(G_l_sign:FO P w K mg base 2 "_law_sign" ["_law_script", "_law_k"] [] (spSgn K))(G_l_part:FO P w K mg base 1 "_law_part" ["_law_letters_here", "_law_marks", "_law_number", "_law_first"] [] (anv K))(G_l_two:FO P w K mg base 3 "_law_two" ["_law_script", "_law_k", "_law_cell"] [] (spTwo K)):FnOk P w K mg base E8 4 f fd ["_law_script", "_law_letters_here", "_law_marks"] (aiP K):=by
 refine F.ok sc_l_others ?_ ?_
 .rintro _ _ _ _ ⟨a,b,c,ns,ls,ms,rfl,_⟩;rfl
 .intro cdv A outer s H vs Q E hr h;have C4:=hu_of hr;have hu:=hr.units;refine ⟨_,QSs.out (A7 (D0 (n:=3) sc_l_others.nd rfl vef (qe_op L7 (D1 G_l_cell_at (hm hr) (qa_c (vi lK) (qa_c A4 A3))) A4))
   (A7 (D0 (n:=4) sc_l_others.nd rfl veg (M7 A3))
   (A7 (M0 PassesOwn.never (qi_r1 T.b_range (qa_c (qe_op q_mod (vi w6) A4) A3)) (D6 (n:=5) sc_l_others.nd rfl veh (.inl rfl)) (A7 (D0 (n:=6) sc_l_others.nd rfl vei (D1 G_l_sign (hm hr) (qa_c (vi lK) (qa_c (qe_op (q_add (K:=K)) A4 (vi eU)) A3))))
   (g4 (qs_if (E5 (q_eq (K:=K) hu) (qe_op q_mod (qe_op L7 (qe_op L7 (vi w6) A4) (qe_op (q_add (K:=K)) (vi eU) A4)) A4) A4) (A8 (D0 (n:=6) sc_l_others.nd rfl vei (qe_op (q_add (K:=K)) (vi vea) (D1 G_l_sign (hm hr) (qa_c (vi lK) (qa_c (qe_op q_mod (qe_op L7 (vi w6) A4) A4) A3)))))) G8)
   (A7 (D0 (n:=7) sc_l_others.nd rfl uD (M9 (qa_c K6 (qa_c (qe_ix (K:=K) (vi vd5) (qe_op q_mod (qe_op L7 (qe_op L7 (vi w6) A4) (qe_op (q_add (K:=K)) (vi eU) A4)) (qe_cB (q_len (K:=K)) T.b_len O1 (qa_c (vi vd5) A3)))) (qa_c (vi vea) A3)))))
   (g4 (qs_if (E5 (q_eq (K:=K) hu) (qe_op q_mod (qe_op L7 (qe_op L7 (vi w6) A4) (qe_op (q_add (K:=K)) (vi eU) A4)) A4) A4) (A8 (D0 (n:=7) sc_l_others.nd rfl uD (qe_op (q_add (K:=K)) (vi uC) (M9 (qa_c (D1 G_l_sign (hm hr) (qa_c (vi lK) (qa_c (qe_op (q_add (K:=K)) A4 (vi eU)) A3))) A3))))) G8)
   (A8 (P3 (qe_mB (K:=K) R4 V3 V2 V5 (vi uB) (qa_c (vi uC) A3)))))))))
   (A7 (D0 (n:=3) sc_l_others.nd rfl vef (D1 G_l_cell_at (hm hr) (qa_c (vi lK) (qa_c A4 A3))))
   (A7 (M0 PassesOwn.never (qi_r1 T.b_range (qa_c (qe_op q_mod (vi w6) A4) A3)) (D6 (n:=5) sc_l_others.nd rfl veh (.inl rfl)) (A7 (D0 (n:=7) sc_l_others.nd rfl uD (M9 (qa_c K6 (qa_c (D1 G_l_two (hm hr) (qa_c (vi lK) (qa_c (qe_op (q_add (K:=K)) A4 (vi eU)) (qa_c (qe_op L7 (vi w6) A4) A3)))) A3))))
   (A7 (M0 PassesOwn.never (qi_r1 T.b_range (qa_c (qe_op (q_add (K:=K)) A4 (qe_op q_mod (qe_op L7 (qe_op L7 (vi w6) A4) (qe_op (q_add (K:=K)) (vi eU) A4)) A4)) A3)) (D6 (n:=8) sc_l_others.nd rfl vek (.inl rfl)) (A7 (D0 (n:=9) sc_l_others.nd rfl vel (qe_op q_mod (qe_op q_mul (qe_op L7 (vi w6) A4) (qe_ix (K:=K) (M7 (qa_c A4 (qa_c A4 (qa_c A4 A3)))) (vi vec))) (qe_op q_sub A4 (vi eU))))
   (A8 (D0 (n:=7) sc_l_others.nd rfl uD (qe_op (q_add (K:=K)) (vi uC) (M9 (qa_c (D1 G_l_part (hm hr) (qa_c (vi vd5) (qa_c (vi vd6) (qa_c (vi ved) (qa_c (gN (q_eq (K:=K) hu) (vi vec) A4) A3))))) A3)))))))
   (A8 (P3 (qe_mB (K:=K) R4 V3 V2 V5 (vi uB) (qa_c (vi uC) A3)))))))
   (g4 (qs_if (E5 q_gt (qe_op q_mod (qe_op L7 (vi w6) A4) A4) A4) (A7 (cJ (n:=10) sc_l_others.nd rfl vem (Q7:CompOk ["_law_script", "_law_letters_here", "_law_marks", "_law_cell", "_law_rules_here", "_law_k", "_law_form", "_law_rule", "_law_j", "_law_number", "_law_pieces_here"] (C3 T5).names _ ["_law_k", "_law_script", "_law_cell"] 1 [0,3]) (qi_r1 T.b_range (qa_c (qe_op q_mod (qe_op L7 (vi w6) A4) A4) A3)) (fun _ _ _ _ _=>D6 (n:=0) (show List.Nodup (["_law_k", "_law_script", "_law_cell"]:List Str) by decide +kernel) rfl (Or.inl rfl)) (fun _ _ _ _ _=>b8) (fun _ _ _ _ _=>(D1 G_l_two (hm hr) (qa_c (qv 1) (qa_c (qe_op (q_add (K:=K)) A4 (qv 0)) (qa_c (qe_op L7 (qv 2) A4) A3))))))
   (A8 (P3 (qe_mB (K:=K) R4 V3 V2 V5 (vi uB) (qa_c (qe_op (q_add (K:=K)) (M9 (qa_c K6 A3)) (qe_cT (kL (K:=K)) T.b_tuple kF (qa_c (vi vee) A3))) A3))))) G8)
   (A8 (E7 (vi uB))))))))),?_⟩
  obtain ⟨a,b,c,ns,ls,ms,rfl,hS,hb,hc,h1,h2,h3,hok,q⟩:=h;walk_at "rd";refine ⟨a,ns,3,rfl,hS,by decide,_,rfl,fun r nr=>?_⟩;generalize cellF ns 3 / 5=c3;refine ⟨by lia,by lia,forRs (fun i Y H2=>∃ (v w x y z z2:Option V) (ts:List Addr) (R:List Rl),Y=[some (.ref a),some (.ref b),some (.ref c),some (.int c3),some (.ref r),v,w,x,y,z,z2]/\RulesAt H H2 r ts R/\OthI ns ls ms (GS i) i R)
   ⟨none,none,none,none,none,none,[],[],rfl,⟨⟨A5,.nil⟩,by simp,fun t ht=>by rw [G2.mp ht];exact nr,Same.new nr⟩,⟨Dis.nil,by simp,by simp⟩⟩ ?_ ?_⟩
  .rintro P' Bk hP i Y H2 hi ⟨v,w,x,y,z,z2,ts,R,rfl,RA,J⟩;walk_at "rd";refine ⟨a,ns,_,rfl,RA.same.seq hS,by lia,fun H3 S3=>midS (fun Y H4=>∃ f:Str,Y=[some (.ref a),some (.ref b),some (.ref c),some (.int c3),some (.ref r),some (.int (0+(i:Int))),some (.str f),x,y,z,z2]/\Same H3 H4/\Q6 ns (30+(0+(i:Int))) f) ?_ ?_⟩
   .intro M' hM';walk_at "rd";refine ⟨by lia,by lia,iteD (fun _=>⟨a,ns,_,rfl,(RA.same.trans S3).seq hS,by lia,fun H4 S4=>?_⟩) fun _=>hM' _ _ ⟨_,rfl,aN _,sP ns _⟩⟩;walk_at "rd";exact ⟨by show 1+1<=sizeLine;decide,hM' _ _ ⟨_,rfl,S4,yE ns _ _⟩⟩
   rintro Y H4 ⟨f,rfl,S4,hf⟩;have bP:=S3.trans S4;walk_at "rd";obtain ⟨l,hl,L4⟩:=pickA (c3 / 4 / (0+(i:Int)+2)) h1;have qK:=RA.same.trans bP _ _ hb;refine ⟨by lia,by lia,ls.length,.inl ⟨_,.of qK,by rw [A6]⟩,by lia,_,.inl (.of qK),_,L4,by decide,fun t nt=>midS (fun Y H5=>∃ (t:Addr) (fs:List Str),Y=[some (.ref a),some (.ref b),some (.ref c),some (.int c3),some (.ref r),some (.int (0+(i:Int))),some (.str f),some (.ref t),y,z,z2]/\Same H4 H5/\H5 t=some (tupR ("great",l::fs))/\H4 t=none/\(fs=[f]\/∃ f2,fs=[f,f2]/\Q6 ns (34+(0+(i:Int))) f2)) ?_ ?_⟩
   .intro M' hM';have S5:Same H4 (A0 H4 t (HO.tup [V.str (Str.ofString "great"),V.str l,V.str f])):=Same.new nt;have ht:A0 H4 t (HO.tup [V.str (Str.ofString "great"),V.str l,V.str f]) t=some (HO.tup [V.str (Str.ofString "great"),V.str l,V.str f]):=A5;generalize A0 H4 t (HO.tup [V.str (Str.ofString "great"),V.str l,V.str f])=H5 at S5 ht ⊢
    walk_at "rd";refine ⟨by lia,by lia,iteD (fun _=>⟨a,ns,_,rfl,(RA.same.trans (bP.trans S5)).seq hS,by lia,fun H6 S6=>⟨by decide,fun p np=>rAddR.t (.of (D3 (S6 _ _ ht) np)) (.of A5) (by simp) (by show 3+1<=sizeLine;decide) (by simp) fun _ t2 j5=>?_⟩⟩) fun _=>hM' _ _ ⟨_,[f],rfl,S5,ht,nt,.inl rfl⟩⟩;have S7:=S5.trans (S6.trans (Same.new (u:=HO.tup [V.str (one (K8 ns (34+(0+(i:Int)))))]) np));exact hM' _ _ ⟨t2,[f,one (K8 ns (34+(0+(i:Int))))],rfl,S7.trans (Same.new j5),A5,S7.free j5,.inr ⟨_,rfl,sP ns _⟩⟩
   rintro Y H5 ⟨t,fs,rfl,S5,ht,nt,hfs⟩;have p9:=S5 _ _ (bP _ _ RA.rows.top);have vE:=J.len;walk_at "rd";refine ⟨R7 p9,appOk p9 (by rw [A6,RA.rows.len];exact K1 'a') (hP _ _ _ ⟨_,_,_,_,_,_,_,_,rfl,RA.grow (bP.trans S5) (bP.free nt) ht,?_⟩)⟩;rw [t7] at hf hfs;refine J.add (ak8 hl (hfs.imp id fun ⟨f2,e,_⟩=>⟨f2,e⟩)) (ak9 'a' 'a' hf hfs) (fun k hk=>?_) (fun k hk=>by lia) (fun k hk e=>?_) fun k hk=>?_
   .unfold GS at hk;lia
   .unfold GS at hk;lia
   .unfold GS at hk ⊢;lia
  rintro Y H2 ⟨v,w,x,y,z,z2,ts,R,rfl,RA,J⟩;have J:OthI ns ls ms (AS 0) 3 R:=⟨J.dis.wide fun k hk=>by unfold AS;unfold GS at hk ⊢;lia,J.each,by have:=J.len;lia⟩
  walk_at "rd";refine ⟨a,ns,4,rfl,RA.same.seq hS,by decide,?_⟩;generalize cellF ns 4=c4;walk_at "rd";refine ⟨by lia,by lia,forRs (fun i Y H3=>∃ (v w x y z z2:Option V) (ts:List Addr) (R:List Rl),Y=[some (.ref a),some (.ref b),some (.ref c),some (.int c4),some (.ref r),v,w,x,y,z,z2]/\RulesAt H H3 r ts R/\OthI ns ls ms (AS i) (3+i) R) ⟨v,w,x,y,z,z2,ts,R,rfl,RA,J⟩ ?_ ?_⟩
  .clear RA J v w x y z z2;rintro P' Bk hP i Y H3 hi ⟨v,w,x,y,z,z2,ts,R,rfl,RA,J⟩;walk_at "rd";refine ⟨a,ns,_,_,rfl,RA.same.seq hS,by lia,fun p H4 S4 hp=>⟨by decide,fun t nt=>?_⟩⟩;refine ⟨by lia,by lia,by lia,by lia,forRs (fun j Y H5=>∃ (t:Addr) (qs:List Str) (y z:Option V),Y=[some (.ref a),some (.ref b),some (.ref c),some (.int c4),some (.ref r),some (.int (0+(i:Int))),w,some (.ref t),y,z,z2]/\AsR ls ms H4 H5 t p qs j) ⟨t,[],y,z,rfl,Same.new nt,A5,nt,rfl,by simp⟩ ?_ ?_⟩
   .rintro P2 B2 hP2 j Y H5 hj ⟨t,qs,y,z,rfl,A⟩;walk_at "rd";obtain ⟨m,hm,vJ⟩:=mul3 (i:=j) 'a';refine ⟨by decide,fun p1 np=>⟨_,.inl (.of A5),V.int m,hm,?_⟩⟩;have S6:Same H5 (A0 H5 p1 (HO.lst [V.int 48271,V.int 69621,V.int 16807])):=Same.new np;generalize A0 H5 p1 (HO.lst [V.int 48271,V.int 69621,V.int 16807])=H6 at S6 ⊢
    walk_at "rd";have SS:=RA.same.trans (S4.trans (A.same.trans S6));have dE:=A.len;refine ⟨.inr ⟨by lia,by lia⟩,by lia,b,c,_,_,ls,ms,rfl,SS _ _ hb,SS _ _ hc,h1,h2,h3,hok,fun q H7 S7 hq=>⟨by decide,fun p2 z0=>?_⟩⟩;have ht7:A0 H7 p2 (HO.tup [V.str q]) t=some (tupR ("as",p::qs)):=D3 (S7 _ _ (S6 _ _ A.tup)) z0;have S8:Same H5 (A0 H7 p2 (HO.tup [V.str q])):=S6.trans (S7.trans (Same.new z0));have X4:A0 H7 p2 (HO.tup [V.str q]) p2=some (HO.tup [V.str q]):=A5;generalize A0 H7 p2 (HO.tup [V.str q])=H8 at ht7 S8 X4 ⊢
    refine rAddR.t (.of ht7) (.of X4) (by simp) (by simp only [A6,L1,Z5];exact P7 'a') (by simp) fun _ t2 j5=>hP2 _ _ _ ⟨t2,qs++[q],_,_,rfl,A.same.trans (S8.trans (Same.new j5)),?_,(A.same.trans S8).free j5,by rw [C1,dE];rfl,fun k x hk=>?_⟩
    .rw [A5];show some (HO.tup _)=some (HO.tup _)
     simp
    .by_cases i4:k<qs.length
     .rw [dQ i4] at hk;exact A.ok k x hk
     .rw [fW 'a'] at hk;have lV:k-qs.length=0:=by
       have:=(I0.mp hk).1
       rw [O4] at this;lia
      rw [lV] at hk;have hx:q=x:=by simpa using hk
      subst hx;refine hq.imp id fun ⟨e,hm⟩=>⟨?_,hm⟩
      have:¬ (0+(j:Int)=0):=by simpa using e
      lia
   rintro Y H5 ⟨t,qs,y,z,rfl,A⟩;have p9:=A.same _ _ (S4 _ _ RA.rows.top);have vE:=J.len;walk_at "rd";refine ⟨R7 p9,appOk p9 (by rw [A6,RA.rows.len];exact K1 'a') (hP _ _ _ ⟨_,_,_,_,_,_,_,_,rfl,RA.grow (S4.trans A.same) (S4.free A.new) A.tup,?_⟩)⟩;rw [t7] at hp;refine J.add (A.oth 'a' 'a') (T:=fun k=>k=40+(i:Int)) (by rw [W2.2.1 rfl];exact gY hp) (fun k hk=>?_) (fun k hk=>by lia) (fun k hk e=>?_) fun k hk=>?_
   .unfold AS GS at hk;lia
   .unfold AS GS at hk;lia
   .rcases hk with (hk | hk) | hk
    .exact .inl hk
    .exact .inr ⟨by lia,by lia⟩
    .exact .inr ⟨by lia,by lia⟩
  rintro Y H3 ⟨v,w,x,y,z,z2,ts,R,rfl,RA,J⟩;walk_at "rd";refine midS (fun Y H4=>∃ (v w x y z z2:Option V) (ts:List Addr) (R:List Rl),Y=[some (.ref a),some (.ref b),some (.ref c),some (.int c4),some (.ref r),v,w,x,y,z,z2]/\RulesAt H H4 r ts R/\OthI ns ls ms OS 7 R) ?_ ?_
  .intro M' hM';walk_at "rd";have vE:=J.len;have J3:OthI ns ls ms (AS 3) 6 R:=⟨J.dis.wide fun k hk=>hk.imp id fun h=>⟨h.1,by lia⟩,J.each,by lia⟩
   refine iteD (fun _=>⟨by lia,by lia,compR [some (.ref a),some (.int c4)] rfl (fun D j ys H4=>∃ ps:List Str,ys=ps.map V.str/\Same H3 H4/\Dis ns (fun k=>50<=k/\k<50+(j:Int)) ps/\ps.length=j) (fun D nD=>⟨[],rfl,Same.new nD,Dis.nil,rfl⟩) ?_ ?_⟩) fun _=>hM' _ _ ⟨_,_,_,_,_,_,ts,R,rfl,RA,⟨J3.dis.wide fun k hk=>.inl hk,J3.each,by lia⟩⟩
   .rintro D i ys H4 nD hi ⟨ps,rfl,S4,ds,L5⟩ hD E6;walk_at "rd";refine ⟨a,ns,_,_,rfl,(RA.same.trans S4).seq hS,by lia,fun p H5 S5 hp=>⟨S5 _ _ hD,jO E6 (Q9 hi (P7 'a')),⟨hi,by rw [C1,O4];lia,⟨_,rfl⟩,ps++[p],by rw [D8];rfl,(S4.trans S5).put nD,?_,by rw [C1,L5];rfl⟩⟩⟩;rw [t7] at hp;exact (ds.cat (gY hp) (fun k hk=>by lia) (fun k hk=>by lia) (fun k hk e=>by lia)).wide fun k hk=>by
     rcases hk with hk | hk <;> lia
   rintro D ys H4 nD ⟨ps,rfl,S4,ds,L5⟩ hD E6;have hr4:=S4 _ _ RA.rows.top;refine ⟨R7 hr4,by decide,fun p np=>?_⟩;have S5:Same H4 (A0 H4 p (HO.tup [V.str (Str.ofString "over")])):=Same.new np;have fT:A0 H4 p (HO.tup [V.str (Str.ofString "over")]) p=some (HO.tup [V.str (Str.ofString "over")]):=A5;generalize A0 H4 p (HO.tup [V.str (Str.ofString "over")])=H5 at S5 fT ⊢
   walk_at "rd";refine rTupR.l (.of (S5 _ _ hD)) fun t2 j5=>?_
   walk_at "rd";have hpn:ps≠[]:=fun e=>by rw [e] at L5;simp at L5;lia
   refine rAddR.t (.of (D3 fT j5)) (.of A5) (by simp) (by simp only [A6,L1,Z5];exact P7 'a') (fun e=>absurd (List.map_eq_nil_iff.mp e) hpn) fun _ t3 qO=>?_
   have S6:=S4.trans (S5.trans (Same.new (u:=HO.tup (ps.map V.str)) j5));have S7:=S6.trans (Same.new (u:=HO.tup ([V.str (Str.ofString "over")]++ps.map V.str)) qO);refine appOk (S7 _ _ RA.rows.top) (by rw [A6,RA.rows.len];exact K1 'a') (hM' _ _ ⟨_,_,_,_,_,_,_,_,rfl,RA.grow S7 (S6.free qO) (z:=("over",ps)) A5,?_⟩);refine J3.add (.inr (.inr ⟨rfl,by show ps.length<=2;lia⟩)) (T:=fun k=>50<=k/\k<52) (by rw [W2.2.2 (.inr (.inr rfl))];exact ds.wide fun k hk=>⟨hk.1,by lia⟩) (fun k hk=>?_) (fun k hk=>by lia) (fun k hk e=>?_) fun k hk=>hk
   .unfold AS GS at hk;lia
   .unfold AS GS at hk;lia
  rintro Y H4 ⟨v,w,x,y,z,z2,ts,R,rfl,RA,J⟩;walk_at "rd";exact q r ts R H4 RA J
theorem sc_l_rules:FnScope ["_law_script", "_law_letters_here", "_law_cell", "_law_marks", "_law_rules_here", "_law_at"] ["_law_script"] (C3 e8):=G3
abbrev lL:List Str:=["_law_script", "_law_letters_here", "_law_cell", "_law_marks", "_law_rules_here", "_law_at"]
theorem oN:VS lL e8 "_law_script" 0:=vq
theorem veo:VS lL e8 "_law_letters_here" 1:=vq
theorem uE:VS lL e8 "_law_cell" 2:=vq
theorem veq:VS lL e8 "_law_marks" 3:=vq
theorem iG:VS lL e8 "_law_rules_here" 4:=vq
theorem ves:VS lL e8 "_law_at" 5:=vq
theorem vet:LS e8 "_law_letters_here":=lq
theorem veu:LS e8 "_law_cell":=lq
theorem vev:LS e8 "_law_marks":=lq
theorem vew:LS e8 "_law_rules_here":=lq
theorem vex:LS e8 "_law_at":=lq
theorem ajP(F:FunD K "_law_rules" "_law_rules" e8 f fd)(T:Txt P w K mg C)(G_l_cell_at:FO P w K mg base 1 "_law_cell_at" ["_law_script", "_law_k"] [] (kP K))(G_l_letters:FO P w K mg base 3 "_law_letters" ["_law_script"] [] (afA K))(G_l_two:FO P w K mg base 3 "_law_two" ["_law_script", "_law_k", "_law_cell"] [] (spTwo K))(G_l_others:FO P w K mg base 4 "_law_others" ["_law_script", "_law_letters_here", "_law_marks"] [] (aiP K)):FnOk P w K mg base E8 5 f fd ["_law_script"] (aiR K):=by
 refine F.ok sc_l_rules ?_ ?_
 .rintro _ _ _ _ ⟨a,ns,rfl,_⟩;rfl
 .intro cdv A outer s H vs Q E hr h;have C4:=hu_of hr;have hu:=hr.units;refine ⟨_,QSs.out (A7 (D0 (n:=1) sc_l_rules.nd rfl vet (D1 G_l_letters (hm hr) (qa_c (vi oN) A3)))
   (A7 (D0 (n:=2) sc_l_rules.nd rfl veu (D1 G_l_cell_at (hm hr) (qa_c (vi oN) (qa_c A4 A3))))
   (A7 (cJ (n:=3) sc_l_rules.nd rfl vev (Q7:CompOk ["_law_script", "_law_letters_here", "_law_cell", "_law_marks", "_law_rules_here", "_law_at"] (C3 e8).names _ ["_law_k", "_law_script", "_law_cell"] 1 [0,2]) (qi_r1 T.b_range (qa_c (qe_op q_mod (vi uE) A4) A3)) (fun _ _ _ _ _=>D6 (n:=0) (show List.Nodup (["_law_k", "_law_script", "_law_cell"]:List Str) by decide +kernel) rfl (Or.inl rfl)) (fun _ _ _ _ _=>b8) (fun _ _ _ _ _=>(D1 G_l_two (hm hr) (qa_c (qv 1) (qa_c (qe_op (q_add (K:=K)) A4 (qv 0)) (qa_c (qe_op L7 (qv 2) A4) A3))))))
   (A7 (D0 (n:=4) sc_l_rules.nd rfl vew (qe_op (q_add (K:=K)) (M7 (qa_c (qe_op (q_add (K:=K)) (M9 (qa_c K6 A3)) (qe_cT (kL (K:=K)) T.b_tuple kF (qa_c (vi veo) A3))) A3)) (D1 G_l_others (hm hr) (qa_c (vi oN) (qa_c (vi veo) (qa_c (vi veq) A3))))))
   (g4 (qs_if (E5 (q_ne (K:=K) hu) (vi veq) (M7 A3)) (A8 (P3 (qe_mB (K:=K) R4 V3 V2 V5 (vi iG) (qa_c (qe_op (q_add (K:=K)) (M9 (qa_c K6 A3)) (qe_cT (kL (K:=K)) T.b_tuple kF (qa_c (vi veq) A3))) A3)))) G8)
   (A7 (D0 (n:=2) sc_l_rules.nd rfl veu (D1 G_l_cell_at (hm hr) (qa_c (vi oN) (qa_c A4 A3))))
   (g4 (qs_if (E5 (q_eq (K:=K) hu) (qe_op q_mod (qe_op L7 (D1 G_l_cell_at (hm hr) (qa_c (vi oN) (qa_c A4 A3))) A4) A4) A4) (A8 (P3 (qe_mB (K:=K) R4 V3 V2 V5 (vi iG) (qa_c (M9 (qa_c K6 A3)) A3)))) G8)
   (g4 (qs_if (E5 (q_eq (K:=K) hu) (qe_op q_mod (vi uE) A4) A4) (A8 (P3 (qe_mB (K:=K) R4 V3 V2 V5 (vi iG) (qa_c (M9 (qa_c K6 A3)) A3)))) G8)
   (g4 (qs_if (E5 (q_eq (K:=K) hu) (qe_op q_mod (qe_op L7 (vi uE) A4) A4) A4) (A8 (P3 (qe_mB (K:=K) R4 V3 V2 V5 (vi iG) (qa_c (M9 (qa_c K6 A3)) A3)))) G8)
   (A7 (D0 (n:=5) sc_l_rules.nd rfl vex (qe_op q_mod (qe_op L7 (vi uE) A4) (qe_cB (q_len (K:=K)) T.b_len O1 (qa_c (vi iG) A3))))
   (A8 (E7 (qe_op (q_add (K:=K)) (M5 (K:=K) (vi iG) (K2 (vi ves)) P9) (M5 (K:=K) (vi iG) P9 (K2 (vi ves)))))))))))))))),?_⟩
  obtain ⟨a,ns,rfl,hS,q⟩:=h;walk_at "rd";refine ⟨a,ns,rfl,hS,fun b ls H1 JL=>⟨a,ns,3,rfl,JL.same.seq hS,by decide,?_⟩⟩;generalize cellF ns 3=c3;walk_at "rd";refine ⟨by lia,by lia,compR [some (.ref a),some (.int c3)] rfl (fun D j ys H4=>∃ ps:List Str,ys=ps.map V.str/\Same H1 H4/\Dis ns (fun k=>20<=k/\k<20+(j:Int)) ps/\ps.length=j) (fun D nD=>⟨[],rfl,Same.new nD,Dis.nil,rfl⟩) ?_ ?_⟩
  .rintro D i ys H4 nD hi ⟨ps,rfl,S4,ds,L5⟩ hD E6;walk_at "rd";refine ⟨a,ns,_,_,rfl,(JL.same.trans S4).seq hS,by lia,fun p H5 S5 hp=>⟨S5 _ _ hD,jO E6 (Q9 hi (P7 'a')),⟨hi,by rw [C1,O4];lia,⟨_,rfl⟩,ps++[p],by rw [D8];rfl,(S4.trans S5).put nD,?_,by rw [C1,L5];rfl⟩⟩⟩;rw [t7] at hp;exact (ds.cat (gY hp) (fun k hk=>by lia) (fun k hk=>by lia) (fun k hk e=>by lia)).wide fun k hk=>by
    rcases hk with hk | hk <;> lia
  rintro c ys H2 nc ⟨ms,rfl,S2,ds,L5⟩ hc E6;have qB:Dis ns MarkS ms:=ds.wide fun k hk=>⟨hk.1,by lia⟩
  have vC:ms.length<=4:=by lia
  clear ds L5 E6;have uQ:=S2 _ _ JL.lst;have S02:=JL.same.trans S2;have h0:=JL.lo;have h1:=JL.hi;have qP:∀ p∈ms,W9 p=true:=fun p hp=>by
   obtain ⟨k,_,hk⟩:=qB.pc p hp;exact (kH hk.ok.1).1
  have hln:ls≠[]:=fun e=>by rw [e] at h0;simp at h0
  refine ⟨by decide,fun p np=>?_⟩;have S3:Same H2 (A0 H2 p (HO.tup [V.str (Str.ofString "row")])):=Same.new np;have R3:A0 H2 p (HO.tup [V.str (Str.ofString "row")]) p=some (HO.tup [V.str (Str.ofString "row")]):=A5;generalize A0 H2 p (HO.tup [V.str (Str.ofString "row")])=H3 at S3 R3 ⊢
  refine rTupR.l (.of (S3 _ _ uQ)) fun t nt=>?_
  walk_at "rd";refine rAddR.t (.of (D3 R3 nt)) (.of A5) (by simp) (by simp only [A6,L1,Z5];exact P7 'a') (fun e=>absurd (List.map_eq_nil_iff.mp e) hln) fun _ t2 j5=>⟨by decide,fun l1 bQ=>?_⟩
  have S4:=S3.trans (Same.new (u:=HO.tup (ls.map V.str)) nt);have nt20:H t2=none:=(S02.trans S4).free j5;have S5:=(S4.trans (Same.new (u:=HO.tup ([V.str (Str.ofString "row")]++ls.map V.str)) j5)).trans (Same.new (u:=HO.lst [V.ref t2]) bQ);have fP:=D3 (u:=HO.lst [V.ref t2]) (A5 (H:=A0 H3 t (HO.tup (ls.map V.str))) (a:=t2) (o:=HO.tup ([V.str (Str.ofString "row")]++ls.map V.str))) bQ;have fM:=A5 (H:=A0 (A0 H3 t (HO.tup (ls.map V.str))) t2 (HO.tup ([V.str (Str.ofString "row")]++ls.map V.str))) (a:=l1) (o:=HO.lst [V.ref t2]);generalize A0 (A0 (A0 H3 t (HO.tup (ls.map V.str))) t2 (HO.tup ([V.str (Str.ofString "row")]++ls.map V.str))) l1 (HO.lst [V.ref t2])=H5 at S5 fP fM ⊢
  have y3:=S02.trans S5;refine ⟨a,b,c,ns,ls,ms,rfl,y3.seq hS,S5 _ _ uQ,S5 _ _ hc,by lia,by lia,by lia,qP,fun l2 ts R H6 RA OI=>?_⟩;walk_at "rd";have hol:=OI.len;refine rAddR.l (RA.same _ _ fM) RA.rows.top (by rw [A6,RA.rows.len,O4];exact P7 'a') fun r nr=>?_
  have RB:RulesAt H (A0 H6 r (HO.lst ([V.ref t2]++ts.map V.ref))) r (t2::ts) ((("row" : Str),ls)::R):=by
   have n2:t2∉ts:=fun e=>by have:=RA.new t2 (M6 _ e);rw [fP] at this;cases this
   have n3:∀ x∈t2::ts,r≠x:=fun x hx e=>by
    rcases F6.mp hx with q | q
    .rw [e,q,RA.same _ _ fP] at nr;cases nr
    .obtain ⟨o,ho⟩:=RA.live (M6 _ q);rw [e,ho] at nr;cases nr
   refine ⟨⟨A5,.cons (D3 (RA.same _ _ fP) nr) (L0 RA.rows.row fun x z e=>D3 e nr)⟩,V8.mpr ⟨fun e=>n3 r e rfl,V8.mpr ⟨n2,(V8.mp RA.nd).2⟩⟩,fun x hx=>?_,(y3.trans RA.same).trans (Same.new nr)⟩
   rcases F6.mp hx with q | q
   .rw [q];exact (y3.trans RA.same).free nr
   .rcases F6.mp q with q | q
    .rw [q];exact nt20
    .exact y3.free (RA.new x (M6 _ q))
  have pU:A0 H6 r (HO.lst ([V.ref t2]++ts.map V.ref)) c=some (HO.lst (ms.map V.str)):=D3 (RA.same _ _ (S5 _ _ hc)) nr;have P0:=ao3 JL.dis OI;generalize A0 H6 r (HO.lst ([V.ref t2]++ts.map V.ref))=H7 at RB pU ⊢
  generalize (("row" : Str),ls)::R=R at RB P0;generalize t2::ts=ts at RB;refine cK (fun Y H8=>∃ (bb:Bool) (ts:List Addr) (R:List Rl),Y=[some (.ref a),some (.ref b),some (.int c3),some (.ref c),some (.ref r),none]/\RulesAt H H8 r ts R/\RulP ns ls ms bb 9 R/\(bb=false->ms=[])) ?_ ?_
  .walk_at "rd";intro e ne;have S8:Same H7 (A0 H7 e (.lst [])):=Same.new ne;have he8:A0 H7 e (.lst []) e=some (.lst (([]:List Str).map V.str)):=A5;generalize A0 H7 e (.lst [])=H8 at S8 he8 ⊢
   refine ⟨_,.lst (.of (S8 _ _ pU)) (u5 qP),_,.lst (.of he8) (u5 (by simp)),by rw [U5,nH];exact F8 (dW _ _) (by decide),?_⟩;rw [aiw];have RC:=RB.more S8;have L5:=P0.len;refine iteN (fun N0=>⟨R7 RC.rows.top,by decide,fun p np=>?_⟩) fun he=>⟨false,ts,R,RC,P0.wide 'a',fun _=>he⟩
   have S9:Same H8 (A0 H8 p (HO.tup [V.str (Str.ofString "marks")])):=Same.new np;have fU:A0 H8 p (HO.tup [V.str (Str.ofString "marks")]) p=some (HO.tup [V.str (Str.ofString "marks")]):=A5;generalize A0 H8 p (HO.tup [V.str (Str.ofString "marks")])=H9 at S9 fU ⊢
   refine rTupR.l (.of (S9 _ _ (S8 _ _ pU))) fun t nt=>?_
   walk_at "rd";refine rAddR.t (.of (D3 fU nt)) (.of A5) (by simp) (by simp only [A6,L1,Z5];exact P7 'a') (fun e=>absurd (List.map_eq_nil_iff.mp e) N0) fun _ t3 qO=>?_
   have q0:=S9.trans (Same.new (u:=HO.tup (ms.map V.str)) nt);have qQ:=q0.trans (Same.new (u:=HO.tup ([V.str (Str.ofString "marks")]++ms.map V.str)) qO);exact appOk (qQ _ _ RC.rows.top) (by rw [A6,RC.rows.len];exact K1 'a') ⟨true,_,_,RC.grow qQ (q0.free qO) (z:=("marks",ms)) A5,P0.marks qB,by simp⟩
  rintro Y H8 ⟨bb,ts,R,rfl,RA,P,hbb⟩;walk_at "rd";refine ⟨a,ns,5,rfl,RA.same.seq hS,by decide,?_⟩;generalize cellF ns 5=c5;refine cK (fun Y H8=>∃ (ts:List Addr) (R:List Rl),Y=[some (.ref a),some (.ref b),some (.int c5),some (.ref c),some (.ref r),none]/\RulesAt H H8 r ts R/\RulP ns ls ms bb 10 R) ?_ ?_
  .walk_at "rd";refine ⟨a,ns,1,rfl,RA.same.seq hS,by decide,_,rfl,iteD (fun e=>yI RA P (by decide) (.inl rfl) fun _=>?_) fun _=>⟨ts,R,RA,P.wide (by decide)⟩⟩;unfold Q5;exact decide_eq_false 'a'
  clear RA P ts R;rintro Y H9 ⟨ts,R,rfl,RA,P⟩;refine cK (fun Y H8=>∃ (ts:List Addr) (R:List Rl),Y=[some (.ref a),some (.ref b),some (.int c5),some (.ref c),some (.ref r),none]/\RulesAt H H8 r ts R/\RulP ns ls ms bb 11 R) ?_ ?_
  .walk_at "rd";exact iteD (fun e=>yI RA P (by decide) (.inr (.inl rfl)) fun e=>absurd e 'c') fun _=>⟨ts,R,RA,P.wide (by decide)⟩
  clear RA P ts R;rintro Y X5 ⟨ts,R,rfl,RA,P⟩;refine cK (fun Y H8=>∃ (ts:List Addr) (R:List Rl),Y=[some (.ref a),some (.ref b),some (.int c5),some (.ref c),some (.ref r),none]/\RulesAt H H8 r ts R/\RulP ns ls ms bb 12 R) ?_ ?_
  .walk_at "rd";exact iteD (fun e=>yI RA P (by decide) (.inr (.inr rfl)) fun e=>absurd e 'c') fun _=>⟨ts,R,RA,P.wide (by decide)⟩
  clear RA P ts R;rintro Y fK ⟨ts,R,rfl,RA,P⟩;have hl:=P.len;have qD:=RA.rows.len;have hR1:1<=R.length:=by
   have:=P.row
   cases R with
   | nil=>exact absurd this (by simp [rowsW])
   | cons z R=>simp
  walk_at "rd";obtain ⟨t,ht,lS⟩:∃ t:Nat,c5 / 6 % (R.length:Int)=(t:Int)/\t<R.length:=⟨(c5 / 6 % (R.length:Int)).toNat,by
   have:=k5 (c5 / 6) (show (R.length:Int)≠0 by lia)
   lia,by
   have:=t6 (c5 / 6) (show 0<(R.length:Int) by lia)
   lia⟩
  refine ⟨R.length,.inl ⟨_,.of RA.rows.top,by rw [A6,qD]⟩,by lia,?_⟩;rw [ht];refine rSlR.l (.of RA.rows.top) fun l1 bQ=>rSlR.l (.of (D3 RA.rows.top bQ)) fun l2 jC=>?_
  rw [o7,<- W7] at jC ⊢
  rw [eE,<- s0];walk_at "rd";have A1:=ak4 RA.rows t bQ;have A2:=ao2 (RA.rows.same (Same.new (u:=HO.lst ((ts.drop t).map V.ref)) bQ)) t jC;have A1':=A1.same (Same.new (u:=HO.lst ((ts.take t).map V.ref)) jC);have Z0:Same fK (A0 (A0 fK l1 (HO.lst ((ts.drop t).map V.ref))) l2 (HO.lst ((ts.take t).map V.ref))):=(Same.new bQ).trans (Same.new jC);generalize A0 (A0 fK l1 (HO.lst ((ts.drop t).map V.ref))) l2 (HO.lst ((ts.take t).map V.ref))=H12 at A2 A1' Z0 ⊢
  refine rAddR.l A1'.top A2.top (by simp only [A6,U3,E9];exact P7 'a') fun l3 qR=>?_
  refine q l3 _ _ ls ms _ ((RA.same.trans Z0).trans (Same.new qR)) ((RA.same.trans Z0).free qR) (A1'.cat A2 qR) ⟨⟨bb,P.turn t,hbb⟩,h0,by lia,JL.dis,JL.wd,vC,qB⟩
theorem sc_l_row_of:FnScope ["_law_rules_here", "_law_word", "_law_found", "_law_rule"] ["_law_rules_here", "_law_word"] (C3 cR):=G3
abbrev uF:List Str:=["_law_rules_here", "_law_word", "_law_found", "_law_rule"]
theorem vey:VS uF cR "_law_rules_here" 0:=vq
theorem vez:VS uF cR "_law_word" 1:=vq
theorem veA:VS uF cR "_law_found" 2:=vq
theorem veB:VS uF cR "_law_rule" 3:=vq
theorem veC:LS cR "_law_found":=lq
theorem veD:LS cR "_law_rule":=lq
theorem aik(F:FunD K "_law_row_of" "_law_row_of" cR f fd)(T:Txt P w K mg C):FnOk P w K mg base E8 1 f fd ["_law_rules_here", "_law_word"] (alg K):=by
 refine F.ok sc_l_row_of ?_ ?_
 .rintro _ _ _ _ ⟨a,ts,R,w,rfl,_⟩;rfl
 .intro cdv A outer s H vs Q E hr h;have C4:=hu_of hr;have hu:=hr.units;refine ⟨_,QSs.out (A7 (D0 (n:=2) sc_l_row_of.nd rfl veC (M7 A3))
   (A7 (M0 PassesOwn.never (O2 (K:=K) (vi vey)) (D6 (n:=3) sc_l_row_of.nd rfl veD (.inl rfl)) (A8 (qs_if (E5 (q_eq (K:=K) hu) (qe_ix (K:=K) (vi veB) A4) (vi vez)) (A8 (D0 (n:=2) sc_l_row_of.nd rfl veC (qe_op (q_add (K:=K)) (vi veA) (qe_cT (aT (K:=K) (calm:=true)) T.b_list u7 (qa_c (M5 (K:=K) (vi veB) (K2 A4) P9) A3))))) G8)))
   (A8 (E7 (vi veA))))),?_⟩
  obtain ⟨a,ts,R,w,rfl,hR,hl,hz,q⟩:=h;walk_at "rd";intro f nf;refine ⟨⟨_,.of (D3 hR.top nf)⟩,forLs (xs:=ts.map V.ref) (fun i Y H2=>∃ (l:Addr) (u:Option V),Y=[some (.ref a),some (.str w),some (.ref l),u]/\Same H H2/\H l=none/\H2 l=some (.lst ((rowsW (R.take i) w).flatten.map V.str))/\(rowsW (R.take i) w).flatten.length<=100*i) ⟨f,none,rfl,Same.new nf,nf,A5,F9 _⟩ (by rintro i Y H2 _ ⟨_,_,_,S,_⟩;exact .of (S _ _ hR.top)) ?_ ?_⟩
  .rintro P' Bk hP i x Y H2 hx ⟨l,u,rfl,S,nl,U9,n8⟩;obtain ⟨t,ht,rfl⟩:=G4 hx;obtain ⟨z,jD,C8⟩:=Paired.at hR.row ht;have O3:=hz z (L6 jD);have hi:i<R.length:=(I0.mp jD).1;have hT:C6 K H2 t ((z.1::z.2).map V.str):=.of (S _ _ C8);walk_at "rd";refine ⟨_,.inr hT,V.str z.1,T9 _ _,?_⟩;walk_at "rd";refine iteD (fun e=>rSlR.t hT (o9 (k:=1) (by decide) (by simp)) fun s ns=>?_) fun e=>?_
   .rw [G1,xC];walk_at "rd";refine rListR.l (.inr (.of A5)) fun s2 fL=>?_
    walk_at "rd";refine rAddR.l (D3 (D3 U9 ns) fL) A5 (by rw [A6,A6];exact P7 'a') fun s3 ns3=>?_
    have S2:=S.trans ((Same.new (u:=HO.tup (z.2.map V.str)) ns).trans (Same.new (u:=HO.lst (z.2.map V.str)) fL));exact hP _ _ _ ⟨s3,_,rfl,S2.trans (Same.new ns3),S2.free ns3,by rw [A5,sW jD,if_pos e,D8],by rw [sW jD,if_pos e,C1];lia⟩
   .exact hP _ _ _ ⟨l,_,rfl,S,nl,by rw [sW jD,if_neg e];exact U9,by rw [sW jD,if_neg e];lia⟩
  rintro Y H2 ⟨l,u,rfl,S,nl,U9,n8⟩;rw [A6,hR.len,K9] at U9;walk_at "rd";exact q l H2 nl S U9
theorem sc_l_forms:FnScope ["_law_rules_here", "_law_makes_here", "_law_k", "_law_case", "_law_other", "_law_j"] ["_law_rules_here", "_law_makes_here"] (C3 l9):=G3
abbrev lM:List Str:=["_law_rules_here", "_law_makes_here", "_law_k", "_law_case", "_law_other", "_law_j"]
theorem iH:VS lM l9 "_law_rules_here" 0:=vq
theorem veF:VS lM l9 "_law_makes_here" 1:=vq
theorem lN:VS lM l9 "_law_k" 2:=vq
theorem veH:VS lM l9 "_law_case" 3:=vq
theorem veI:VS lM l9 "_law_other" 4:=vq
theorem veJ:VS lM l9 "_law_j" 5:=vq
theorem veK:LS l9 "_law_k":=lq
theorem veL:LS l9 "_law_case":=lq
theorem veM:LS l9 "_law_other":=lq
theorem veN:LS l9 "_law_j":=lq
theorem ajQ(F:FunD K "_law_forms" "_law_forms" l9 f fd)(T:Txt P w K mg C):FnOk P w K mg base E8 1 f fd ["_law_rules_here", "_law_makes_here"] (ag3 K):=by
 refine F.ok sc_l_forms ?_ ?_
 .rintro _ _ _ _ ⟨a,d,ts,R,ns,ls,ms,P,H0,rfl,_⟩;rfl
 .intro cdv A outer s H vs Q E hr h;have C4:=hu_of hr;have hu:=hr.units;refine ⟨_,QSs.out (A8 (M0 PassesOwn.never (qi_r1 T.b_range (qa_c (qe_cB (q_len (K:=K)) T.b_len O1 (qa_c (vi iH) A3)) A3)) (D6 (n:=2) sc_l_forms.nd rfl veK (.inl rfl)) (A8 (qs_if (E5 (q_eq (K:=K) hu) (qe_ix (K:=K) (qe_ix (K:=K) (vi iH) (vi lN)) A4) K6) (A7 (D0 (n:=3) sc_l_forms.nd rfl veL A4)
   (A7 (M0 PassesOwn.never (O2 (K:=K) (M5 (K:=K) (vi iH) P9 (K2 (vi lN)))) (D6 (n:=4) sc_l_forms.nd rfl veM (.inl rfl)) (A8 (qs_if (E5 (q_eq (K:=K) hu) (M5 (K:=K) (vi veI) P9 (K2 A4)) (M5 (K:=K) (qe_ix (K:=K) (vi iH) (vi lN)) P9 (K2 A4))) (A8 (D0 (n:=3) sc_l_forms.nd rfl veL (qe_op q_sub (qe_op (q_add (K:=K)) (vi veH) (qe_cB (q_len (K:=K)) T.b_len O1 (qa_c (vi veI) A3))) A4))) G8)))
   (A8 (M0 PassesOwn.never (qi_r2 T.b_range (qa_c A4 (qa_c (qe_cB (q_len (K:=K)) T.b_len O1 (qa_c (qe_ix (K:=K) (vi iH) (vi lN)) A3)) A3))) (D6 (n:=5) sc_l_forms.nd rfl veN (.inl rfl)) (A8 (b0 C4 (vi veF) (qe_ix (K:=K) (qe_ix (K:=K) (vi iH) (vi lN)) (vi veJ)) (M7 (qa_c (M9 (qa_c A4 (qa_c (qe_ix (K:=K) (qe_ix (K:=K) (g0 C4 (vi veF) (qe_ix (K:=K) (qe_ix (K:=K) (vi iH) (vi lN)) A4)) A4) A4) (qa_c (qe_op q_sub (qe_op (q_add (K:=K)) (vi veH) (vi veJ)) A4) A3)))) A3)))))))) G8)))),?_⟩
  obtain ⟨a,d,ts,R,ns,ls,ms,P,H0,rfl,nd,hR,hR0,G,hL,hM,J,hlP,hPl,q⟩:=h;have md:=yA G.good hL hM;have hRl:=G.len;have hfA:∀ n,(Q0 (R.take n)).length<=10000:=fun n=>by
   have h1:(Q0 (R.take n)).length<=(C7 (R.take n)).length:=by
    unfold Q0;rw [<- aU,A6];exact fZ _ _
   obtain ⟨more,e⟩:=xM R n;have h2:=G.good.plen;rw [e,C1] at h2;lia
  have hgr:∀ z∈R,z.1=("great" : Str)->∃ l fs,z=(("great" : Str),l::fs)/\l∈ls:=fun z hz e=>by
   rcases G.each hz with rfl | rfl | o | o
   .exact absurd (show Str.ofString "row"=_ from e) 'c'
   .exact absurd (show Str.ofString "marks"=_ from e) 'c'
   .rcases o with ⟨_,l,fs,e2,hl,_⟩ | ⟨e2,_⟩ | ⟨e2,_⟩
    .exact ⟨l,fs,Prod.ext e e2,hl⟩
    .rw [e2] at e;exact absurd e 'c'
    .rw [e2] at e;exact absurd e 'c'
   .exact absurd e o.2.no.2.2.1
  walk_at "rd";refine ⟨R.length,.inl ⟨_,.of hR.top,by rw [A6,hR.len]⟩,by lia,by lia,forRs (fun i Y H2=>∃ (u v w x:Option V),Y=[some (.ref a),some (.ref d),u,v,w,x]/\MkI H0 H2 d (P++Q0 (R.take i)) (stepF R ls ms)) ⟨none,none,none,none,rfl,by rw [Z6,show Q0 []=[] from rfl,G7];exact J⟩ ?_ ?_⟩
  .clear J;rintro P' Bk hP i Y H2 hi ⟨u,v,w,x,rfl,J⟩;have hi:i<R.length:=by lia
   have hit:i<ts.length:=by rw [hR.len];exact hi
   have hz:R[i]?=some R[i]:=G5 hi;have qG:ts[i]?=some ts[i]:=G5 hit;generalize jD:R[i]=z at hz;generalize ts[i]=t at qG;obtain ⟨z',bJ,C8⟩:=Paired.at hR0.row qG;rw [hz] at bJ;cases bJ;have j4:=L6 hz;have L4:K5 (ts.map V.ref) (0+(i:Int))=some (V.ref t):=by rw [t7];exact N2 (by rw [O7,qG];rfl)
   have hT:C6 K H2 t ((z.1::z.2).map V.str):=.of (J.same _ _ C8);walk_at "rd";refine ⟨_,.inl (.of (J.same _ _ hR0.top)),_,L4,?_⟩;walk_at "rd";refine ⟨_,.inr hT,V.str z.1,T9 _ _,?_⟩;walk_at "rd";refine iteD (fun e=>?_) fun e=>hP _ _ _ ⟨_,_,_,_,rfl,by rw [aeZ hz,alh e,G7];exact J⟩
   obtain ⟨l,fs,rfl,hl⟩:=hgr z j4 e;have jA:l∈F7 R:=mem_formKs.mpr ⟨(l,fs),jM.mpr ⟨_,j4,by rw [if_pos rfl];rfl⟩,rfl⟩;refine rSlR.l (.of (J.same _ _ hR0.top)) fun s fL=>?_
   rw [show cutV (ts.map V.ref) none (some (0+(i:Int)))=(ts.take i).map V.ref by rw [t7,eE,s0]];have S3:Same H2 (A0 H2 s (.lst ((ts.take i).map V.ref))):=Same.new fL;have jE:A0 H2 s (.lst ((ts.take i).map V.ref)) s=some (.lst ((ts.take i).map V.ref)):=A5;generalize A0 H2 s (.lst ((ts.take i).map V.ref))=H3 at S3 jE;have J3:=J.more S3;clear hT J;refine ⟨s,rfl,⟨_,.of jE⟩,forLs (xs:=(ts.take i).map V.ref) (fun m Y H4=>∃ (w:Option V),Y=[some (.ref a),some (.ref d),some (.int (0+(i:Int))),some (.int (1+((E3 (R.take m) l).length:Int))),w,x]/\Same H3 H4) ⟨w,by rfl,aN _⟩ (by rintro m Y H4 _ ⟨_,_,S⟩;exact .of (S _ _ jE)) ?_ ?_⟩
   .rintro P2 B2 hP2 m y Y H4 hy ⟨w,rfl,S4⟩;obtain ⟨t2,qS,rfl⟩:=G4 hy;have hmi:m<i:=by
     have:=(I0.mp qS).1
     rw [E9] at this;lia
    rw [rB hmi] at qS;obtain ⟨z2,qT,qU⟩:=Paired.at hR0.row qS;have hz2m:=L6 qT;have J4:=J3.more S4;have hT2:C6 K H4 t2 ((z2.1::z2.2).map V.str):=.of (J4.same _ _ qU);walk_at "rd";refine Y4 hT2 fun p1 H5 S5 y8=>?_
    have J5:=J4.more S5;have hT5:C6 K H5 t (((("great" : Str),l::fs).1::(("great" : Str),l::fs).2).map V.str):=.of (J5.same _ _ C8);refine ⟨_,.inl (.of (J5.same _ _ hR0.top)),_,L4,?_⟩
    try walk_at "rd"
    refine Y4 hT5 fun p2 H6 S6 X4=>?_
    rw [<- s0] at y8 X4;have ok1:∀ y∈(z2.1::z2.2).take 2,W9 y=true:=fun y hy=>G.str z2 hz2m y (jJ hy)
    have ok2:∀ y∈(("great" : Str)::l::fs).take 2,W9 y=true:=fun y hy=>G.str _ j4 y (jJ hy)
    try walk_at "rd"
    refine ⟨_,.tup (C6.same S6 y8) (u5 ok1),_,.tup X4 (u5 ok2),by rw [U5,nH];exact F8 (dW _ _) (by decide),?_⟩;rw [aiT];have mG:=S4.trans (S5.trans S6);refine iteD (fun ee=>?_) fun ee=>?_
    .obtain ⟨fs2,rfl⟩:=ahT (show (z2.1::z2.2).take 2=[("great" : Str),l] from ee);have hT6:C6 K H6 t2 (((("great" : Str),l::fs2).1::(("great" : Str),l::fs2).2).map V.str):=C6.same (S5.trans S6) hT2;refine ⟨fs2.length+2,.inr (.inl ⟨_,hT6,by simp⟩),?_⟩;exact hP2 _ _ _ ⟨_,congrArg (fun v:V=>[some (V.ref a),some (.ref d),some (.int (0+(i:Int))),some v,some (.ref t2),x]) (congrArg V.int (by rw [K7 qT,kT,if_pos rfl,C1];lia)),mG⟩
    .have e0:E3 (R.take (m+1)) l=E3 (R.take m) l:=by rw [K7 qT];exact af8 ee
     exact hP2 _ _ _ ⟨_,by rw [e0],mG⟩
   rintro Y H4 ⟨w,rfl,S4⟩;rw [A6,E9,bX (by lia:i<=ts.length)];have J4:=J3.more S4;have hT4:C6 K H4 t (((("great" : Str),l::fs).1::(("great" : Str),l::fs).2).map V.str):=.of (J4.same _ _ C8);walk_at "rd";refine ⟨_,.inl (.of (J4.same _ _ hR0.top)),_,L4,?_⟩;walk_at "rd";refine ⟨fs.length+2,.inr (.inl ⟨_,hT4,by simp⟩),?_⟩;have i8:fs.length<=100:=by have:=G.zl j4;simp only [L1] at this;lia
   have hfAi:=hfA i;have est:E3 (R.take (i+1)) l=E3 (R.take i) l++fs:=by rw [K7 hz,kT,if_pos rfl]
   have mF:∀ j,j<fs.length->(E3 R l)[(E3 (R.take i) l).length+j]?=fs[j]?:=fun j hj=>by
    have e1:E3 R l=E3 (R.take (i+1)) l++E3 (R.drop (i+1)) l:=by
     unfold E3;rw [<- Z4,<- Y1,<- gU,V0]
    rw [e1,est,Q1,fW (bW _ _),mT,dQ hj]
   refine ⟨by decide,by decide,by lia,by lia,forRs (fun jj Y H5=>∃ (x:Option V),Y=[some (.ref a),some (.ref d),some (.int (0+(i:Int))),some (.int (1+((E3 (R.take i) l).length:Int))),w,x]/\MkI H0 H5 d (P++Q0 (R.take i)++fs.take jj) (stepF R ls ms)) ⟨x,rfl,by rw [Z6,G7];exact J4⟩ ?_ ?_⟩
   .clear J4 hT4;rintro P2 B2 hP2 jj Y H5 hjj ⟨x,rfl,J5⟩;have hjj:jj<fs.length:=by lia
    have hf:fs[jj]?=some fs[jj]:=G5 hjj;generalize fs[jj]=f at hf;have hT5:C6 K H5 t (((("great" : Str),l::fs).1::(("great" : Str),l::fs).2).map V.str):=.of (J5.same _ _ C8);obtain ⟨ad,h1,h2⟩:=J5.made;have K4:l∈G6 [] (P++Q0 (R.take i)++fs.take jj):=(l8 _ _ _).mpr (.inr (T8 _ (T8 _ (hlP l hl))));obtain ⟨tt,e1,e2⟩:=(h2 l K4).ex;rw [md.letter hl] at e2;obtain ⟨t0,rfl,e3⟩:∃ t0,tt=[t0]/\H5 t0=some (tupT (2,(ls.idxOf l:Int),0)):=by
     cases e2 with
     | cons h t=>cases t;exact ⟨_,rfl,h⟩
    have hat2:K5 (((("great" : Str),l::fs).1::(("great" : Str),l::fs).2).map V.str) (2+(jj:Int))=some (V.str f):=by
     rw [show (2+(jj:Int))=((jj+2:Nat):Int) by lia];exact N2 (by rw [O7];show (fs[jj]?).map V.str=_;rw [hf];rfl)
    walk_at "rd";refine ⟨_,.inl (.of (J5.same _ _ hR0.top)),_,L4,?_⟩;walk_at "rd";refine ⟨_,.inr hT5,V.str l,N2 (j:=1) rfl,V.ref (ad l),.inl ⟨_,Sum.inr l,.inl h1,rfl,by rw [Q4,if_pos K4]⟩,?_⟩;walk_at "rd";refine ⟨_,.inl (.of e1),V.ref t0,T9 _ _,?_⟩;walk_at "rd";refine ⟨_,.inr (.of e3),V.int (ls.idxOf l:Int),N2 (j:=1) rfl,by decide,fun p1 O6=>⟨by decide,fun p2 z0=>?_⟩⟩;have S6:Same H5 (A0 (A0 H5 p1 (.tup [V.int 2,V.int (ls.idxOf l:Int),V.int (1+((E3 (R.take i) l).length:Int)+(2+(jj:Int))-2)])) p2 (.lst [V.ref p1])):=(Same.new O6).trans (Same.new z0);have P6:StepL (A0 (A0 H5 p1 (.tup [V.int 2,V.int (ls.idxOf l:Int),V.int (1+((E3 (R.take i) l).length:Int)+(2+(jj:Int))-2)])) p2 (.lst [V.ref p1])) p2 (stepF R ls ms f):=by
     rw [md.gr l jA ((E3 (R.take i) l).length+jj) f (by rw [mF jj hjj];exact hf)];refine StepL.one A5 ?_;rw [show ((((E3 (R.take i) l).length+jj+1:Nat)):Int)=1+((E3 (R.take i) l).length:Int)+(2+(jj:Int))-2 by lia];exact D3 A5 z0
    generalize A0 (A0 H5 p1 (.tup [V.int 2,V.int (ls.idxOf l:Int),V.int (1+((E3 (R.take i) l).length:Int)+(2+(jj:Int))-2)])) p2 (.lst [V.ref p1])=H6 at S6 P6;have J6:=J5.more S6;refine ⟨_,.inl (.of (J6.same _ _ hR0.top)),_,L4,?_⟩;walk_at "rd";refine ⟨_,.inr (C6.same S6 hT5),V.str f,hat2,?_⟩;obtain ⟨xx,hx,J7⟩:=J6.put nd (by simp only [C1,E9];lia) P6;exact ⟨xx,hx,hP2 _ _ _ ⟨_,rfl,by rw [K7 hf,<- Q1];exact J7⟩⟩
   .rintro Y H5 ⟨x,rfl,J5⟩;rw [show (((fs.length+2:Nat):Int)-2).toNat=fs.length by lia,K9] at J5;exact hP _ _ _ ⟨_,_,_,_,rfl,by rw [aeZ hz,ajG,<- Q1];exact J5⟩
  rintro Y H2 ⟨u,v,w,x,rfl,J⟩;rw [show ((R.length:Int)).toNat=R.length by lia,K9] at J;exact q H2 J
theorem sc_l_makes:FnScope ["_law_rules_here", "_law_makes_here", "_law_place", "_law_piece", "_law_rule"] ["_law_rules_here"] (C3 m3):=G3
abbrev oO:List Str:=["_law_rules_here", "_law_makes_here", "_law_place", "_law_piece", "_law_rule"]
theorem lO:VS oO m3 "_law_rules_here" 0:=vq
theorem iI:VS oO m3 "_law_makes_here" 1:=vq
theorem veQ:VS oO m3 "_law_place" 2:=vq
theorem veR:VS oO m3 "_law_piece" 3:=vq
theorem veS:VS oO m3 "_law_rule" 4:=vq
theorem veT:LS m3 "_law_makes_here":=lq
theorem veU:LS m3 "_law_place":=lq
theorem veV:LS m3 "_law_piece":=lq
theorem veW:LS m3 "_law_rule":=lq
theorem ajR(F:FunD K "_law_makes" "_law_makes" m3 f fd)(T:Txt P w K mg C)(G_l_row_of:FO P w K mg base 1 "_law_row_of" ["_law_rules_here", "_law_word"] [] (alg K))(G_l_forms:FO P w K mg base 1 "_law_forms" ["_law_rules_here", "_law_makes_here"] [] (ag3 K)):FnOk P w K mg base E8 2 f fd ["_law_rules_here"] (alj K):=by
 refine F.ok sc_l_makes ?_ ?_
 .rintro _ _ _ _ ⟨a,ts,R,ns,ls,ms,rfl,_⟩;rfl
 .intro cdv A outer s H vs Q E hr h;have C4:=hu_of hr;have hu:=hr.units;refine ⟨_,QSs.out (A7 (D0 (n:=1) sc_l_makes.nd rfl veT gO)
   (A7 (M0 PassesOwn.never (kN T.b_enumerate (qa_c (D1 G_l_row_of (hm hr) (qa_c (vi lO) (qa_c K6 A3))) A3)) (aR (K:=K) (n:=2) (R8 ((D6 (n:=2) sc_l_makes.nd rfl veU (.inl rfl))) (R8 ((D6 (n:=3) sc_l_makes.nd rfl veV (.inl rfl))) aQ))) (A8 (b0 C4 (vi iI) (vi veR) (M7 (qa_c (M9 (qa_c A4 (qa_c (vi veQ) (qa_c A4 A3)))) A3)))))
   (A7 (M0 PassesOwn.never (kN T.b_enumerate (qa_c (D1 G_l_row_of (hm hr) (qa_c (vi lO) (qa_c K6 A3))) A3)) (aR (K:=K) (n:=2) (R8 ((D6 (n:=2) sc_l_makes.nd rfl veU (.inl rfl))) (R8 ((D6 (n:=3) sc_l_makes.nd rfl veV (.inl rfl))) aQ))) (A8 (b0 C4 (vi iI) (vi veR) (M7 (qa_c (M9 (qa_c A4 (qa_c (vi veQ) (qa_c A4 A3)))) A3)))))
   (A7 (M0 PassesOwn.never (O2 (K:=K) (vi lO)) (D6 (n:=4) sc_l_makes.nd rfl veW (.inl rfl)) (A8 (qs_if (E5 (q_eq (K:=K) hu) (qe_ix (K:=K) (vi veS) A4) K6) (A8 (b0 C4 (vi iI) (qe_ix (K:=K) (vi veS) A4) (b9  (Q7:CompOk ["_law_rules_here", "_law_makes_here", "_law_place", "_law_piece", "_law_rule"] (C3 m3).names _ ["_law_part_here", "_law_makes_here"] 1 [1]) (gP (K:=K) (M5 (K:=K) (vi veS) (K2 A4) P9)) (fun _ _ _ _ _=>D6 (n:=0) (show List.Nodup (["_law_part_here", "_law_makes_here"]:List Str) by decide +kernel) rfl (Or.inl rfl)) (fun _ _ _ _ _=>b8) (fun _ _ _ _ _=>(qe_ix (K:=K) (g0 C4 (qv 1) (qv 0)) A4))))) G8)))
   (A7 (P3 (D1 G_l_forms (hm hr) (qa_c (vi lO) (qa_c (vi iI) A3))))
   (A7 (M0 PassesOwn.never (O2 (K:=K) (D1 G_l_row_of (hm hr) (qa_c (vi lO) (qa_c K6 A3)))) (D6 (n:=3) sc_l_makes.nd rfl veV (.inl rfl)) (A8 (b0 C4 (vi iI) (vi veR) (M7 A3))))
   (A7 (qs_if (E5 (q_inD (K:=K) hu) (M9 (qa_c K6 A3)) (vi lO)) (A8 (b0 C4 (vi iI) K6 (M7 A3))) G8)
   (A8 (E7 (vi iI)))))))))),?_⟩
  obtain ⟨a,ts,R,ns,ls,ms,rfl,hR,G,hL,hM,q⟩:=h;have md:=yA G.good hL hM;have hRl:=G.len;have O3:=fun z hz=>F8 (G.zl (z:=z) hz) (by decide:19<=100)
  have pH:=G.l1;have vF:=G.m1;walk_at "rd";intro d nd;have J0:MkI H (A0 H d (.dK [])) d [] (stepF R ls ms):=⟨Same.new nd,fun _=>d,A5,by simp [G6]⟩
  generalize A0 H d (.dK [])=H1 at J0;refine ⟨a,ts,R, "row",rfl,hR.same J0.same,by lia,O3,fun l1 H2 bQ S2 dI=>?_⟩;rw [G.row,gC,List.flatten_nil,G7] at dI;have nl1d:l1≠d:=fun e=>by obtain ⟨_,h1,_⟩:=J0.made;rw [<- e,bQ] at h1;cases h1
  obtain ⟨B,SB,nB,JB,kB⟩:=(J0.more S2).cut nd;have hB1:=kB _ _ nl1d dI;refine ⟨l1,rfl,⟨_,dI⟩,forE (xs:=ls.map V.str) (fun i Y H3=>∃ (u v w:Option V),Y=[some (.ref a),some (.ref d),u,v,w]/\MkI B H3 d (ls.take i) (stepF R ls ms)) ⟨none,none,none,rfl,JB⟩ (by rintro i Y H3 ⟨_,_,_,_,h⟩;exact h.same _ _ hB1) ?_ ?_⟩
  .rintro i x t Y H3 hx ⟨u,v,w,rfl,J⟩ nt;obtain ⟨l,hl,rfl⟩:=G4 hx;walk_at "rd";refine ⟨_,.of A5,rfl,_,_,rfl,_,_,rfl,rfl,by decide,fun p np=>⟨by decide,fun p1 O6=>?_⟩⟩;rw [K7 hl];exact MkI.put nB (((J.more (Same.new nt)).more (Same.new np)).more (Same.new O6)) (by rw [E9];lia) (by
    rw [md.lt i l hl];exact StepL.one A5 (D3 A5 O6))
  rintro Y H3 ⟨u,v,w,rfl,J⟩;rw [A6,K9] at J;have J3:=J.base SB;clear J JB hB1 kB nB SB B J0 bQ S2 dI nl1d l1 H2 H1;walk_at "rd";refine ⟨a,ts,R, "marks",rfl,hR.same J3.same,by lia,O3,fun l2 H4 jC S4 U9=>?_⟩;rw [G.mrk.1] at U9;have nl2d:l2≠d:=fun e=>by obtain ⟨_,h1,_⟩:=J3.made;rw [<- e,jC] at h1;cases h1
  obtain ⟨B,SB,nB,JB,kB⟩:=(J3.more S4).cut nd;have hB1:=kB _ _ nl2d U9;refine ⟨l2,rfl,⟨_,U9⟩,forE (xs:=ms.map V.str) (fun i Y H3=>∃ (u v w:Option V),Y=[some (.ref a),some (.ref d),u,v,w]/\MkI B H3 d (ls++ms.take i) (stepF R ls ms)) ⟨u,v,w,rfl,by rw [Z6,G7];exact JB⟩ (by rintro i Y H3 ⟨_,_,_,_,h⟩;exact h.same _ _ hB1) ?_ ?_⟩
  .rintro i x t Y H3 hx ⟨u,v,w,rfl,J⟩ nt;obtain ⟨l,hl,rfl⟩:=G4 hx;walk_at "rd";refine ⟨_,.of A5,rfl,_,_,rfl,_,_,rfl,rfl,by decide,fun p np=>⟨by decide,fun p1 O6=>?_⟩⟩;rw [K7 hl,<- Q1];exact MkI.put nB (((J.more (Same.new nt)).more (Same.new np)).more (Same.new O6)) (by rw [C1,E9];lia) (by
    rw [md.mr i l hl];exact StepL.one A5 (D3 A5 O6))
  clear J3;rintro Y H5 ⟨u,v,w,rfl,J⟩;rw [A6,K9] at J;have J5:=J.base SB;clear J JB hB1 kB nB SB B jC S4 U9 nl2d l2 H4 H3;walk_at "rd";refine ⟨⟨_,.of (J5.same _ _ hR.top)⟩,forLs (xs:=ts.map V.ref) (fun i Y H6=>∃ (w:Option V),Y=[some (.ref a),some (.ref d),u,v,w]/\MkI H H6 d (ls++ms++asKs (R.take i)) (stepF R ls ms)) ⟨w,rfl,by rw [Z6,show asKs []=[] from rfl,G7];exact J5⟩ (by rintro i Y H6 _ ⟨_,_,h⟩;exact .of (h.same _ _ hR.top)) ?_ ?_⟩
  .clear J5;rintro P' Bk hP i x Y H6 hx ⟨w,rfl,J⟩;obtain ⟨t,ht,rfl⟩:=G4 hx;obtain ⟨zz,hz,C8⟩:=Paired.at hR.row ht;have j4:=L6 hz;have dF:=xY (R.take i);rw [E9] at dF;have hT:C6 K H6 t ((zz.1::zz.2).map V.str):=.of (J.same _ _ C8);walk_at "rd";refine ⟨_,.inr hT,V.str zz.1,T9 _ _,?_⟩;walk_at "rd";refine iteD (fun has=>?_) fun has=>hP _ _ _ ⟨_,rfl,by rw [sL hz,xW has,G7];exact J⟩
   have N0:=md.ne _ j4 (.inl has);have dE:=O3 _ j4;have hpt:=md.pt _ j4 has;have hasF:=md.as _ j4 has;obtain ⟨w1,ps⟩:=zz;obtain rfl:w1=("as" : Str):=has;obtain ⟨p,qs,rfl⟩:∃ p qs,ps=p::qs:=by
    cases ps with
    | nil=>exact absurd rfl N0
    | cons p qs=>exact ⟨p,qs,rfl⟩
   have W6:cutV (((("as" : Str),p::qs).1::(("as" : Str),p::qs).2).map V.str) (some 2) none=qs.map V.str:=o7 _ 2;simp only [L1] at dE;refine rSlR.t hT (o9 (k:=2) (by decide) (by simp)) fun s fL=>?_
   rw [W6];have S7:Same H6 (A0 H6 s (.tup (qs.map V.str))):=Same.new fL;have hs:A0 H6 s (.tup (qs.map V.str)) s=some (.tup (qs.map V.str)):=A5;generalize A0 H6 s (.tup (qs.map V.str))=H7 at S7 hs;have J7:=J.more S7;obtain ⟨ad,h1,h2⟩:=J7.made;refine ⟨s,rfl,⟨_,.of hs⟩,compT (xs:=qs.map V.str) [some (.ref d)] rfl (fun D j ys H8=>∃ Z1:List Addr,ys=Z1.map V.ref/\Same H7 H8/\Paired (fun t s=>H7 t=some (tupT s)) Z1 ((qs.take j).map fun q=>(stepF R ls ms q).headD (0,0,0))) (fun D nD=>⟨[],rfl,Same.new nD,.nil⟩) (by rintro D j ys H8 nD _ ⟨_,_,S,_⟩;exact .of (S _ _ hs)) ?_ ?_⟩
   .rintro D j yv ys H8 nD hi hy ⟨Z1,rfl,S8,P8⟩ hD E6;obtain ⟨qq,hq,rfl⟩:=G4 hy;have pY:=hpt qq (L6 hq);obtain ⟨st,P6⟩:=md.base pY;have K4:qq∈G6 [] (ls++ms++asKs (R.take i)):=(l8 _ _ _).mpr (.inr (T8 _ (E4.mpr pY)));obtain ⟨tt,e1,e2⟩:=(h2 qq K4).ex;rw [P6] at e2;obtain ⟨t0,rfl,e3⟩:∃ t0,tt=[t0]/\H7 t0=some (tupT st):=by
     cases e2 with
     | cons h t=>cases t;exact ⟨_,rfl,h⟩
    walk_at "rd";refine ⟨V.ref (ad qq),.inl ⟨_,Sum.inr qq,.inl (S8 _ _ h1),rfl,by rw [Q4,if_pos K4]⟩,?_⟩;walk_at "rd";have dB:Z1.length<=1000:=by
     have:=Paired.length P8
     rw [A6,E9] at this;lia
    refine ⟨_,.inl (.of (S8 _ _ e1)),V.ref t0,T9 _ _,hD,by rw [A6];exact K1 'a',CW.put hi E6 ⟨Z1++[t0],by rw [D8];rfl,S8.put nD,?_⟩⟩;rw [K7 hq,D8];refine Paired.snoc P8 ?_;show H7 t0=some (tupT ((stepF R ls ms qq).headD (0,0,0)));rw [P6];exact e3
   rintro D ys H8 nD ⟨Z1,rfl,S8,P8⟩ hD E6;rw [A6,K9] at P8;have L4:K5 (((("as" : Str),p::qs).1::(("as" : Str),p::qs).2).map V.str) 1=some (V.str p):=N2 (j:=1) rfl;refine ⟨_,.inr (C6.same (S7.trans S8) hT),V.str p,L4,?_⟩;obtain ⟨xx,hx,J9⟩:=MkI.put (l:=p) nd (J7.more S8) (by simp only [C1];lia) (by rw [hasF p qs rfl];exact ⟨Z1,hD,L0 P8 fun t s e=>S8 _ _ e⟩);exact ⟨xx,hx,hP _ _ _ ⟨_,rfl,by rw [sL hz,xX,<- Q1];exact J9⟩⟩
  clear J5;rintro Y H6 ⟨w,rfl,J⟩;rw [A6,hR.len,K9] at J;have dF:=xY R;walk_at "rd";refine ⟨a,d,ts,R,ns,ls,ms,_,H,rfl,nd,hR.same J.same,hR,G,hL,hM,J,fun p hp=>T8 _ (T8 _ hp),by simp only [C1];lia,fun H7 J7=>?_⟩;clear J;refine ⟨a,ts,R, "over",rfl,hR.same J7.same,by lia,O3,fun l3 H8 qR S8 hl3=>?_⟩;have nl3d:l3≠d:=fun e=>by obtain ⟨_,h1,_⟩:=J7.made;rw [<- e,qR] at h1;cases h1
  obtain ⟨B,SB,nB,JB,kB⟩:=(J7.more S8).cut nd;have hB1:=kB _ _ nl3d hl3;have i8:(Q0 R).length<=10000:=by
   have h1:(Q0 R).length<=(C7 R).length:=by
    unfold Q0;rw [<- aU,A6];exact fZ _ _
   have:=G.good.plen
   lia
  have hov:=amV (w:="over") O3;generalize bH:(rowsW R "over").flatten=os at hl3 hB1 hov;have hov2:os.length<=2000:=by lia
  refine ⟨l3,rfl,⟨_,.of hl3⟩,forLs (xs:=os.map V.str) (fun i Y H3=>∃ (v:Option V),Y=[some (.ref a),some (.ref d),u,v,w]/\MkI B H3 d (ls++ms++asKs R++Q0 R++os.take i) (stepF R ls ms)) ⟨v,rfl,by rw [Z6,G7];exact JB⟩ (by rintro i Y H3 _ ⟨_,_,h⟩;exact .of (h.same _ _ hB1)) ?_ ?_⟩
  .rintro P' Bk hP i x Y H3 hx ⟨v,rfl,J⟩;obtain ⟨l,hl,rfl⟩:=G4 hx;have hlo:stepF R ls ms l=[]:=G.over hL hM (by rw [bH];exact L6 hl);walk_at "rd";intro p np;obtain ⟨xx,hx,J2⟩:=MkI.put (l:=l) (p:=p) nB (J.more (Same.new (u:=.lst []) np)) (by simp only [C1,E9];lia) (by
    rw [hlo];exact ⟨[],A5,.nil⟩)
   exact ⟨xx,hx,hP _ _ _ ⟨_,rfl,by rw [K7 hl,<- Q1];exact J2⟩⟩
  rintro Y H9 ⟨v,rfl,J⟩;rw [A6,K9] at J;have J9:=J.base SB;clear J JB hB1 kB nB SB B J7;walk_at "rd";have kin:∀ p,p∈G6 [] (ls++ms++asKs R++Q0 R++os)↔p∈keysP (C7 R):=fun p=>by
   rw [l8,kO,G.names p,bH]
   simp
  refine ⟨by decide,fun p np=>?_⟩;have q0:Same H9 (A0 H9 p (.tup [V.str (Str.ofString "blanks")])):=Same.new np;have qV:A0 H9 p (.tup [V.str (Str.ofString "blanks")]) p=some (.tup ((("blanks" : Str)::[]).map V.str)):=A5;generalize A0 H9 p (.tup [V.str (Str.ofString "blanks")])=X5 at q0 qV;have J10:=J9.more q0;refine ⟨ruleD ("blanks",[]),.tup (.of qV) (u5 (by intro y hy;rw [G2.mp hy];decide +kernel)),R.map ruleD,aiN (hR.same J10.same) G.str,F8 (dW _ _) (F8 (yD R) (by decide)),?_⟩;rw [ali R "blanks" (G.flag (.inr (.inr rfl)))]
  by_cases hb:hasW R "blanks"=true
  .rw [if_pos hb];intro p1 O6;obtain ⟨x,hx,J11⟩:=MkI.put (l:=" ") (p:=p1) nd (J10.more (Same.new (u:=.lst []) O6)) (by simp only [C1];lia) (by rw [G.blank hL hM];exact ⟨[],A5,.nil⟩);refine ⟨x,hx,q d _ x nd J11.same J11.made (fun p=>?_) (F8 (eC _ []) (by simp only [C1,Z5,O4];lia))⟩;rw [xV];unfold D7 U6;rw [if_pos hb,E4,<- kin p];unfold dd
   by_cases pX:(" " : Str)∈G6 [] (ls++ms++asKs R++Q0 R++os)
   .rw [if_pos pX];exact ⟨.inl,fun h=>h.elim id fun e=>by rw [G2.mp e];exact pX⟩
   .rw [if_neg pX,E4]
  .rw [if_neg hb];refine q d _ X5 nd J10.same J10.made (fun p=>?_) (F8 (eC _ []) (by simp only [C1,Z5];lia));unfold D7 U6;rw [if_neg hb,G7];exact kin p
theorem sc_l_pieces:FnScope ["_law_makes_here", "_law_worth", "_law_cells", "_law_known", "_law_parts", "_law_cell", "_law_run"] ["_law_makes_here", "_law_worth", "_law_cells"] (C3 g8):=G3
abbrev iJ:List Str:=["_law_makes_here", "_law_worth", "_law_cells", "_law_known", "_law_parts", "_law_cell", "_law_run"]
theorem veX:VS iJ g8 "_law_makes_here" 0:=vq
theorem veY:VS iJ g8 "_law_worth" 1:=vq
theorem veZ:VS iJ g8 "_law_cells" 2:=vq
theorem ve0:VS iJ g8 "_law_known" 3:=vq
theorem ve1:VS iJ g8 "_law_parts" 4:=vq
theorem oP:VS iJ g8 "_law_cell" 5:=vq
theorem ve3:VS iJ g8 "_law_run" 6:=vq
theorem ve4:LS g8 "_law_known":=lq
theorem ve5:LS g8 "_law_parts":=lq
theorem ve6:LS g8 "_law_cell":=lq
theorem ve7:LS g8 "_law_run":=lq
theorem ail(F:FunD K "_law_pieces" "_law_pieces" g8 f fd)(T:Txt P w K mg C):FnOk P w K mg base E8 1 f fd ["_law_makes_here", "_law_worth", "_law_cells"] (aiV K):=by
 refine F.ok sc_l_pieces ?_ ?_
 .rintro _ _ _ _ ⟨d,c,w,ks,f,cs,rfl,_⟩;rfl
 .intro cdv A outer s H vs Q E hr h;have C4:=hu_of hr;have hu:=hr.units;refine ⟨_,QSs.out (A7 (D0 (n:=3) sc_l_pieces.nd rfl ve4 (qe_cT (aT (K:=K) (calm:=true)) T.b_list u7 (qa_c (vi veX) A3)))
   (A7 (D0 (n:=4) sc_l_pieces.nd rfl ve5 (M7 A3))
   (A7 (M0 PassesOwn.never (O2 (K:=K) (vi veZ)) (D6 (n:=5) sc_l_pieces.nd rfl ve6 (.inl rfl)) (A8 (qs_if (QW.pt (aP (Y7 (K:=K) (vi veY)) (eD (E5 (q_eq (K:=K) hu) (qe_op q_mod (vi oP) A4) A4)))) (A7 (D0 (n:=6) sc_l_pieces.nd rfl ve7 (qe_cT ao4 T.b_str arj (qa_c (qe_op q_mod (qe_op L7 (vi oP) A4) (qe_ix (K:=K) (M7 (qa_c A4 (qa_c (qe_op q_pow A4 A4) A3))) (qe_op q_mod (qe_op L7 (vi oP) A4) A4))) A3)))
   (A8 (P3 (qe_mB (K:=K) R4 V3 V2 V5 (vi ve1) (qa_c (qe_op (q_add (K:=K)) (qe_ix (K:=K) (M7 (qa_c K6 (qa_c K6 (qa_c K6 A3)))) (qe_op q_mod (qe_op L7 (vi oP) A4) A4)) (vi ve3)) A3))))) (A8 (P3 (qe_mB (K:=K) R4 V3 V2 V5 (vi ve1) (qa_c (qe_ix (K:=K) (vi ve0) (qe_op q_mod (qe_op L7 (vi oP) A4) (qe_cB (q_len (K:=K)) T.b_len O1 (qa_c (vi ve0) A3)))) A3)))))))
   (A8 (E7 (vi ve1)))))),?_⟩
  obtain ⟨d,c,w,ks,f,cs,rfl,hd,lV,hk2,hc,pV,q⟩:=h;walk_at "rd";refine rListR.d (.of hd) fun k nk=>?_
  rw [show (B5 ks f).map (fun kv=>kV kv.1)=ks.map V.str by unfold B5;rw [Z7];rfl];have S1:Same H (A0 H k (.lst (ks.map V.str))):=Same.new nk;have hk:A0 H k (.lst (ks.map V.str)) k=some (.lst (ks.map V.str)):=A5;generalize A0 H k (.lst (ks.map V.str))=H1 at S1 hk;intro p np;have iW:=S1.free np;have X4:A0 H1 p (.lst []) p=some (.lst []):=A5;have S2:Same H1 (A0 H1 p (.lst [])):=Same.new np;generalize A0 H1 p (.lst [])=H2 at X4 S2;refine ⟨⟨_,S2.seq (S1.seq hc)⟩,forL (xs:=cs.map V.int) (fun i Y H3=>∃ (u v:Option V) (ps:List Str),Y=[some (.ref d),some (.bl w),some (.ref c),some (.ref k),some (.ref p),u,v]/\Same H1 H3/\H3 p=some (.lst (ps.map V.str))/\(∀ x∈ps,cM w ks x)/\ps.length=i) ⟨none,none,[],rfl,S2,X4,by simp,rfl⟩ (by rintro i Y H3 _ ⟨_,_,_,_,S,_⟩;exact S.seq (S1.seq hc)) ?_ ?_⟩
  .rintro i v Y H3 hv ⟨u1,u2,ps,rfl,S3,R3,X7,L5⟩;obtain ⟨n,hn,rfl⟩:=G4 hv;have hi:i<cs.length:=(I0.mp hn).1;have hk3:=S3 _ _ hk;have B1:(ps.map V.str).length<sizeLine:=by rw [A6];exact K1 'a'
   have put:∀ {H4:Hp} {x:Str},Same H3 H4->cM w ks x->Same H1 (A0 H4 p (.lst (ps.map V.str++[V.str x])))/\A0 H4 p (.lst (ps.map V.str++[V.str x])) p=some (.lst ((ps++[x]).map V.str))/\(∀ y∈ps++[x],cM w ks y)/\(ps++[x]).length=i+1:=fun {H4 x} S4 hx=>⟨(S3.trans S4).put np,by rw [A5,D8];rfl,fun y hy=>by
    rcases E4.mp hy with h | h
    .exact X7 y h
    .rw [G2.mp h];exact hx,by rw [C1,L5];rfl⟩
   have els:∃ m:Nat,LenR K H3 k m/\0<(m:Int)/\∃ xs,(D9 K H3 k xs\/C6 K H3 k xs)/\∃ x,K5 xs (n / 5 % (m:Int))=some x/\nF (V.ref p) [x] H3 fun x H4=>Same H1 H4/\∃ x:List Str,H4 p=some (HO.lst (x.map V.str))/\(∀ y∈x,cM w ks y)/\x.length=i+1:=by
    obtain ⟨x,hx,L4⟩:=pickA (zs:=ks) (n / 5) lV;obtain ⟨p1,p2,p3,p4⟩:=put (aN H3) (.inl hx);exact ⟨ks.length,.inl ⟨_,.of hk3,by rw [A6]⟩,by lia,_,.inl (.of hk3),_,L4,appOk R3 B1 ⟨p1,_,p2,p3,p4⟩⟩
   walk_at "rd"
   cases w with
   | false=>exact iteF ⟨R7 R3,els⟩
   | true=>
    refine iteT (iteD (fun _=>?_) fun _=>⟨R7 R3,els⟩);refine ⟨10,12,rfl,rfl,⟨by decide,by decide,by decide⟩,by decide,fun p1 O6=>?_⟩;have S4:Same H3 (A0 H3 p1 (.lst [V.int 10,V.int ((10:Int) ^ (12:Int).toNat)])):=Same.new O6;have y8:A0 H3 p1 (.lst [V.int 10,V.int ((10:Int) ^ (12:Int).toNat)]) p1=some (.lst [V.int 10,V.int ((10:Int) ^ (12:Int).toNat)]):=A5;generalize A0 H3 p1 (.lst [V.int 10,V.int ((10:Int) ^ (12:Int).toNat)])=H4 at S4 y8;obtain ⟨m,hm,vJ,vF⟩:∃ m:Int,K5 [V.int 10,V.int ((10:Int) ^ (12:Int).toNat)] (n / 150 % 2)=some (V.int m)/\0<m/\m<=10 ^ 12:=by
     have h0:n / 150 % 2=0\/n / 150 % 2=1:=by lia
     rcases h0 with e | e
     .rw [e];exact ⟨10,rfl,by decide,by decide⟩
     .rw [e];exact ⟨_,rfl,by decide,by decide⟩
    obtain ⟨v,hv,lT⟩:∃ v:Nat,n / 15 % m=(v:Int)/\v<10 ^ 12:=⟨(n / 15 % m).toNat,by
     have:=k5 (n / 15) (show m≠0 by lia)
     lia,by
     have h1:=k5 (n / 15) (show m≠0 by lia);have h2:=t6 (n / 15) vJ;have h3:((10 ^ 12:Nat):Int)=10 ^ 12:=by decide
     lia⟩
    refine ⟨_,.inl (.of y8),_,hm,m,rfl,vJ,_,rfl,?_,R7 (S4 _ _ R3),by decide,fun p2 z0=>?_⟩
    .rw [hv];show v.log2<1920
     by_cases h0:v=0
     .rw [h0];decide
     .rw [Nat.log2_lt h0];exact Q9 lT 'c'
    rw [hv];have S5:Same H4 (A0 H4 p2 (.lst [V.str (Str.ofString ""),V.str (Str.ofString "0"),V.str (Str.ofString "00")])):=Same.new z0;have fT:A0 H4 p2 (.lst [V.str (Str.ofString ""),V.str (Str.ofString "0"),V.str (Str.ofString "00")]) p2=some (.lst (([Str.ofString "",Str.ofString "0",Str.ofString "00"]:List Str).map V.str)):=A5;generalize A0 H4 p2 (.lst [V.str (Str.ofString ""),V.str (Str.ofString "0"),V.str (Str.ofString "00")])=H5 at S5 fT;obtain ⟨y,hy,L4⟩:=pickA (zs:=[Str.ofString "",Str.ofString "0",Str.ofString "00"]) (n / 5) (by decide);have lY:∀ y∈([Str.ofString "",Str.ofString "0",Str.ofString "00"]:List Str),y.length<=2/\∀ c∈y.cps.toList,figO c=true:=by decide +kernel
    obtain ⟨E6,hyf⟩:=lY y hy;have hr:=ao5 lT E6 hyf;have qD:=hr.2;refine ⟨_,.inl (.of fT),_,L4,?_⟩;obtain ⟨p1',p2',p3',p4'⟩:=put (S4.trans S5) (.inr ⟨⟨rfl,hr.1⟩,hr.2⟩);walk_at "rd";refine ⟨?_,appOk ((S4.trans S5) _ _ R3) B1 ⟨p1',_,p2',p3',p4'⟩⟩;have e:(y++Str.ofString (toString (v:Int))).length=y.length+(Str.ofString (toString (v:Int))).length:=by
     rw [<- lenL,<- lenL,<- lenL,Str.cps_append,Array.toList_append,C1]
    exact P7 'a'
  rintro Y H3 ⟨u1,u2,ps,rfl,S3,R3,X7,L5⟩;rw [A6] at L5;walk_at "rd";exact q p H3 ps iW (S1.trans S3) R3 X7 'a'
theorem alL:FnScope ["_law_makes_here", "_law_piece"] ["_law_makes_here", "_law_piece"] (C3 lC):=G3
abbrev aja:List Str:=["_law_makes_here", "_law_piece"]
theorem ve8:VS aja lC "_law_makes_here" 0:=vq
theorem ve9:VS aja lC "_law_piece" 1:=vq
theorem alM(F:FunD K "_law_bare" "_law_bare" lC f fd)(T:Txt P w K mg C):FnOk P w K mg base E8 1 f fd ["_law_makes_here", "_law_piece"] (anA K):=by
 refine F.ok alL ?_ ?_
 .rintro _ _ _ _ ⟨d,y,ks,ad,ss,rfl,_⟩;rfl
 .intro cdv A outer s H vs Q E hr h;have C4:=hu_of hr;have hu:=hr.units;refine ⟨_,QSs.out (A8 (E7 (b9  (Q7:CompOk ["_law_makes_here", "_law_piece"] (C3 lC).names _ ["_law_step"] 1 []) (O2 (K:=K) (g0 C4 (vi ve8) (vi ve9))) (fun _ _ _ _ _=>D6 (n:=0) (show List.Nodup (["_law_step"]:List Str) by decide +kernel) rfl (Or.inl rfl)) (fun _ _ _ _ _=>(aS (E5 (q_eq (K:=K) hu) (qe_ix (K:=K) (qv 0) A4) A4))) (fun _ _ _ _ _=>(qe_ix (K:=K) (qv 0) A4))))),?_⟩;obtain ⟨d,y,ks,ad,ss,rfl,hd,hy,hs,hl,q⟩:=h;obtain ⟨ts,t1,t2⟩:=hs.ex;have lS:=Paired.length t2;walk_at "rd";refine ⟨V.ref (ad y),?_,ad y,rfl,⟨_,.of t1⟩,compL (xs:=ts.map V.ref) [] rfl (fun D i ys H2=>Same H H2/\ys=(bareL (ss.take i)).map V.int) (fun D nD=>⟨Same.new nD,rfl⟩) (by rintro D i ys H2 nD _ ⟨S,_⟩;exact .of (S _ _ t1)) ?_ ?_⟩
  .have:DGet H d (kV (Sum.inr y)) (valV (B5 ks fun y=>V.ref (ad y)) (Sum.inr y)):=.inl ⟨_,Sum.inr y,hd,rfl,rfl⟩
   rw [Q4,if_pos hy] at this;exact this
  .rintro D i x ys H2 nD hi hx ⟨S2,rfl⟩ hD E6;obtain ⟨t,ht,rfl⟩:=G4 hx;obtain ⟨u,fD,hut⟩:=Paired.at t2 ht;have lZ:i<ts.length:=(I0.mp ht).1;have est:bareL (ss.take (i+1))=bareL (ss.take i)++(if u.1=2 then [u.2.1] else []):=by
    unfold bareL;rw [K7 fD,Y1,D8]
    by_cases h2:u.1=2
    .rw [if_pos h2];simp [h2]
    .rw [if_neg h2];simp [h2]
   have t3:H2 t=some (.tup [.int u.1,.int u.2.1,.int u.2.2]):=S2 _ _ hut;walk_at "rd";refine ⟨_,.inr (.of t3),V.int u.1,T9 _ _,?_⟩;walk_at "rd";refine iteD (fun h2=>⟨_,.inr (.of t3),V.int u.2.1,N2 (j:=1) rfl,hD,?_,CW.put hi E6 ⟨S2.put nD,?_⟩⟩) fun h2=>⟨hD,kG hi E6 ⟨S2,?_⟩⟩
   .rw [A6] at E6 ⊢
    exact K1 'a'
   .rw [est,if_pos h2,D8];rfl
   .rw [est,if_neg h2,G7]
  rintro D ys H2 nD ⟨S2,rfl⟩ hD _;rw [A6,lS,K9] at hD;exact q D H2 nD S2 hD
theorem sc_l_changed:FnScope ["_law_makes_here", "_law_parts", "_law_cell", "_law_way", "_law_at", "_law_number", "_law_some", "_law_piece"] ["_law_makes_here", "_law_parts", "_law_cell"] (C3 X1):=G3
abbrev eV:List Str:=["_law_makes_here", "_law_parts", "_law_cell", "_law_way", "_law_at", "_law_number", "_law_some", "_law_piece"]
theorem uG:VS eV X1 "_law_makes_here" 0:=vq
theorem bE:VS eV X1 "_law_parts" 1:=vq
theorem vfc:VS eV X1 "_law_cell" 2:=vq
theorem oQ:VS eV X1 "_law_way" 3:=vq
theorem eW:VS eV X1 "_law_at" 4:=vq
theorem vff:VS eV X1 "_law_number" 5:=vq
theorem vfg:VS eV X1 "_law_some" 6:=vq
theorem vfh:VS eV X1 "_law_piece" 7:=vq
theorem vfi:LS X1 "_law_way":=lq
theorem vfj:LS X1 "_law_at":=lq
theorem vfk:LS X1 "_law_number":=lq
theorem vfl:LS X1 "_law_some":=lq
theorem vfm:LS X1 "_law_piece":=lq
theorem ahs(F:FunD K "_law_changed" "_law_changed" X1 f fd)(T:Txt P w K mg C)(G_l_bare:FO P w K mg base 1 "_law_bare" ["_law_makes_here", "_law_piece"] [] (anA K)):FnOk P w K mg base E8 2 f fd ["_law_makes_here", "_law_parts", "_law_cell"] (ahc K):=by
 refine F.ok sc_l_changed ?_ ?_
 .rintro _ _ _ _ ⟨d,p,c,ks,ps,F,rfl,_⟩;rfl
 .intro cdv A outer s H vs Q E hr h;have C4:=hu_of hr;have hu:=hr.units;refine ⟨_,QSs.out (A7 (D0 (n:=3) sc_l_changed.nd rfl vfi (qe_op q_mod (vi vfc) A4))
   (A7 (D0 (n:=4) sc_l_changed.nd rfl vfj (qe_op q_mod (qe_op L7 (vi vfc) A4) (qe_op (q_add (K:=K)) (qe_cB (q_len (K:=K)) T.b_len O1 (qa_c (vi bE) A3)) A4)))
   (A7 (D0 (n:=5) sc_l_changed.nd rfl vfk (qe_op L7 (qe_op q_mod (qe_op q_mul (qe_op L7 (vi vfc) A4) A4) A4) A4))
   (A7 (D0 (n:=6) sc_l_changed.nd rfl vfl (qe_cT (aT (K:=K) (calm:=true)) T.b_list u7 (qa_c (vi uG) A3)))
   (g4 (qs_if (E5 q_lt (vi oQ) A4) (A8 (ae2 (n:=6) sc_l_changed.nd rfl vfl (Q7:CompOk ["_law_makes_here", "_law_parts", "_law_cell", "_law_way", "_law_at", "_law_number", "_law_some", "_law_piece"] (C3 X1).names _ ["_law_piece", "_law_makes_here"] 1 [0]) (alr (K:=K) (vi uG)) (fun _ _ _ _ _=>D6 (n:=0) (show List.Nodup (["_law_piece", "_law_makes_here"]:List Str) by decide +kernel) rfl (Or.inl rfl)) (fun _ _ _ _ _=>(aS (E5 (q_eq (K:=K) hu) (D1 G_l_bare (hm hr) (qa_c (qv 1) (qa_c (qv 0) A3))) (M7 A3)))) (fun _ _ _ _ _=>(qv 0)))) (A8 (qs_if (QW.pt (aP (E5 q_lt (vi oQ) A4) (aP (E5 q_lt (vi eW) (qe_cB (q_len (K:=K)) T.b_len O1 (qa_c (vi bE) A3))) (eD (E5 (q_in (K:=K) hu) (qe_ix (K:=K) (vi bE) (vi eW)) (vi uG)))))) (A8 (ae2 (n:=6) sc_l_changed.nd rfl vfl (Q7:CompOk ["_law_makes_here", "_law_parts", "_law_cell", "_law_way", "_law_at", "_law_number", "_law_some", "_law_piece"] (C3 X1).names _ ["_law_piece", "_law_makes_here", "_law_parts", "_law_at"] 1 [0,1,4]) (alr (K:=K) (vi uG)) (fun _ _ _ _ _=>D6 (n:=0) (show List.Nodup (["_law_piece", "_law_makes_here", "_law_parts", "_law_at"]:List Str) by decide +kernel) rfl (Or.inl rfl)) (fun _ _ _ _ _=>(aS (E5 (q_eq (K:=K) hu) (D1 G_l_bare (hm hr) (qa_c (qv 1) (qa_c (qv 0) A3))) (D1 G_l_bare (hm hr) (qa_c (qv 1) (qa_c (qe_ix (K:=K) (qv 2) (qv 3)) A3)))))) (fun _ _ _ _ _=>(qv 0)))) G8)))
   (A7 (qs_if (QW.pt (qw_or (E5 (q_eq (K:=K) hu) (vi vfg) (M7 A3)) (wX (E5 (q_eq (K:=K) hu) (vi oQ) A4)))) (A8 (E7 (qe_cT (aT (K:=K) (calm:=true)) T.b_list u7 (qa_c (vi bE) A3)))) G8)
   (A7 (D0 (n:=7) sc_l_changed.nd rfl vfm (qe_ix (K:=K) (vi vfg) (qe_op q_mod (vi vff) (qe_cB (q_len (K:=K)) T.b_len O1 (qa_c (vi vfg) A3)))))
   (A7 (qs_if (E5 q_lt (vi oQ) A4) (A8 (E7 (qe_op (q_add (K:=K)) (qe_op (q_add (K:=K)) (M5 (K:=K) (vi bE) P9 (K2 (vi eW))) (M7 (qa_c (vi vfh) A3))) (M5 (K:=K) (vi bE) (K2 (vi eW)) P9)))) G8)
   (A7 (qs_if (E5 (q_eq (K:=K) hu) (vi oQ) A4) (A8 (E7 (qe_op (q_add (K:=K)) (M5 (K:=K) (vi bE) P9 (K2 (vi eW))) (M5 (K:=K) (vi bE) (K2 (qe_op (q_add (K:=K)) (vi eW) A4)) P9)))) G8)
   (A8 (E7 (qe_op (q_add (K:=K)) (qe_op (q_add (K:=K)) (M5 (K:=K) (vi bE) P9 (K2 (vi eW))) (M7 (qa_c (vi vfh) A3))) (M5 (K:=K) (vi bE) (K2 (qe_op (q_add (K:=K)) (vi eW) A4)) P9))))))))))))),?_⟩
  obtain ⟨d,p,c,ks,ps,F,rfl,hd,hF,lV,i4,hko,hp,L5,q⟩:=h;obtain ⟨ad,y4,T7⟩:=hd;have hnat:=k5 (c / 9) (show ((ps.length:Int)+1)≠0 by lia);have C9:=t6 (c / 9) (show 0<(ps.length:Int)+1 by lia);walk_at "rd";refine ⟨ps.length,.inl ⟨_,.of hp,by rw [A6]⟩,by lia,.inr ⟨by decide,by decide⟩,rListR.d (.of y4) fun s ns=>?_⟩;rw [show (B5 ks fun y=>V.ref (ad y)).map (fun kv=>kV kv.1)=ks.map V.str by unfold B5;rw [Z7];rfl];obtain ⟨at_,L4⟩:∃ m:Nat,c / 9 % ((ps.length:Int)+1)=(m:Int):=⟨(c / 9 % ((ps.length:Int)+1)).toNat,by lia⟩
  rw [L4] at C9 ⊢
  clear hnat L4;have mE:at_<=ps.length:=by lia
  have S1:Same H (A0 H s (.lst (ks.map V.str))):=Same.new ns;have mH:A0 H s (.lst (ks.map V.str)) s=some (.lst (ks.map V.str)):=A5;have nsd:s≠d:=fun e=>by rw [e,y4] at ns;cases ns
  generalize A0 H s (.lst (ks.map V.str))=H1 at S1 mH;have Y0:=S1 _ _ y4;have dJ:=S1 _ _ hp;have npd:p≠d:=fun e=>by rw [e,y4] at hp;cases hp
  have SB:=sT H1 [d];have hB:∀ y∈ks,StepL (cutH H1 [d]) (ad y) (F y):=fun y hy=>alu Y0 ((T7 y hy).same S1)
  have hpB:cutH H1 [d] p=some (.lst (ps.map V.str)):=by
   unfold cutH;rw [if_neg (fun e=>npd (G2.mp e))];exact dJ
  have nB:∀ b,b≠d->H1 b=none->cutH H1 [d] b=none:=fun b hb e=>by
   unfold cutH;rw [if_neg (fun q=>hb (G2.mp q))];exact e
  have cB:∀ b o,b≠d->H1 b=some o->cutH H1 [d] b=some o:=fun b o hb e=>by
   unfold cutH;rw [if_neg (fun q=>hb (G2.mp q))];exact e
  have nBd:cutH H1 [d] d=none:=by unfold cutH;exact if_pos (by simp)
  generalize cutH H1 [d]=B at SB hB hpB nB cB nBd;have SF:∀ o,Same B (A0 H1 d (.frz o (.dK (B5 ks fun y=>V.ref (ad y))))):=fun o b v hb=>by
   rw [A9 (fun e=>by rw [e,nBd] at hb;cases hb)];exact SB _ _ hb
  have hkn:(B5 ks fun y=>V.ref (ad y)).length=ks.length:=k9 _ _;have hw:∀ {H2:Hp},Same B H2->(∃ o,H2 d=some (.frz o (.dK (B5 ks fun y=>V.ref (ad y)))))->Same H1 (A0 H2 d (.dK (B5 ks fun y=>V.ref (ad y)))):=fun {H2} S ⟨o,e⟩ b v hb=>by
   by_cases hbd:b=d
   .subst hbd;rw [A5];rw [Y0] at hb;exact hb
   .rw [A9 hbd];exact S _ _ (cB b v hbd hb)
  refine midS (fun Y H'=>∃ (s:Addr) (ss:List Str),Y=[some (.ref d),some (.ref p),some (.int c),some (.int (c % 9)),some (.int at_),some (.int (c / 9*48271 % 2147483647 / 97)),some (.ref s),none]/\Same H H'/\H' s=some (.lst (ss.map V.str))/\(∀ x∈ss,x∈ks)/\ss.length<=100000) ?_ ?_
  .intro M' hM';walk_at "rd";have keep:=hM' _ _ ⟨s,ks,rfl,S1,mH,fun _ h=>h,i4⟩;refine iteD (fun _=>⟨d,_,Y0,_,Y0,fun o=>compD [some (.ref d)] rfl (fun D i ys H2=>Same B H2/\H2 d=some (.frz o (.dK (B5 ks fun y=>V.ref (ad y))))/\∃ xs:List Str,ys=xs.map V.str/\∀ x∈xs,x∈ks) (fun D nD=>⟨(SF o).trans (Same.new nD),D3 A5 nD,[],rfl,by simp⟩) (fun D i ys H2 _ _ h=>h.2.1) ?_ ?_⟩) fun _=>?_
   .rintro D i k v ys H2 nD hi hk ⟨S2,e2,xs,rfl,dL⟩ hD E6;obtain ⟨y,hy,rfl,rfl⟩:=sD hk;have j6:=L6 hy;have nDd:D≠d:=fun e=>by rw [e,A5] at nD;cases nD
    have nDB:B D=none:=by rw [A9 nDd] at nD;exact nB D nDd nD
    walk_at "rd";refine ⟨d,y,ks,ad,F y,rfl,.inr ⟨o,e2⟩,j6,(hB y j6).same S2,hF y,fun l H3 nl S3 hl=>fun p3 fQ=>?_⟩;refine ⟨_,.lst (.of (D3 hl fQ)) aO,_,.lst (.of A5) .nil,by rw [U5,cI];lia,?_⟩;have S4:=S3.trans (show Same H3 (A0 H3 p3 (.lst [])) from Same.new fQ)
    split
    .refine ⟨S4 _ _ hD,by rw [A6] at E6 ⊢;exact K1 'a',CW.put hi E6 ⟨(S2.trans S4).put nDB,by rw [A9 nDd.symm];exact S4 _ _ e2,xs++[y],by rw [D8];rfl,fun x hx=>?_⟩⟩
     rcases E4.mp hx with h | h
     .exact dL x h
     .rw [G2.mp h];exact j6
    .exact ⟨S4 _ _ hD,kG hi E6 ⟨S2.trans S4,S4 _ _ e2,xs,rfl,dL⟩⟩
   .rintro D ys H2 nD ⟨S2,e2,xs,rfl,dL⟩ hD E6;have nDd:D≠d:=fun e=>by rw [e,A5] at nD;cases nD
    rw [A6] at E6;exact ⟨⟨o,e2⟩,hM' _ _ ⟨D,xs,rfl,S1.trans (hw S2 ⟨o,e2⟩),by rw [A9 nDd];exact hD,dL,by lia⟩⟩
   refine iteD (fun _=>⟨ps.length,.inl ⟨_,.of dJ,by rw [A6]⟩,iteD (fun hal2=>?_) fun _=>keep⟩) fun _=>keep
   have hal3:at_<ps.length:=by lia
   obtain ⟨w,qF⟩:∃ w,ps[at_]?=some w:=⟨_,G5 hal3⟩
   have iw:K5 (ps.map V.str) (at_:Int)=some (V.str w):=N2 (by rw [O7,qF];rfl);refine ⟨_,.inl (.of dJ),_,iw,rInR.d (k8 (k:=Sum.inr w) Y0) ⟨_,rfl,?_⟩⟩;rw [Q4]
   by_cases vK:w∈ks
   .rw [if_pos vK,if_pos (by rfl)];refine ⟨d,_,Y0,_,Y0,fun o=>compD [some (.ref d),some (.ref p),some (.int at_)] rfl (fun D i ys H2=>Same B H2/\H2 d=some (.frz o (.dK (B5 ks fun y=>V.ref (ad y))))/\∃ xs:List Str,ys=xs.map V.str/\∀ x∈xs,x∈ks) (fun D nD=>⟨(SF o).trans (Same.new nD),D3 A5 nD,[],rfl,by simp⟩) (fun D i ys H2 _ _ h=>h.2.1) ?_ ?_⟩
    .rintro D i k v ys H2 nD hi hk ⟨S2,e2,xs,rfl,dL⟩ hD E6;obtain ⟨y,hy,rfl,rfl⟩:=sD hk;have j6:=L6 hy;have nDd:D≠d:=fun e=>by rw [e,A5] at nD;cases nD
     have nDB:B D=none:=by rw [A9 nDd] at nD;exact nB D nDd nD
     walk_at "rd";refine ⟨d,y,ks,ad,F y,rfl,.inr ⟨o,e2⟩,j6,(hB y j6).same S2,hF y,fun l H3 nl S3 hl=>?_⟩;refine ⟨_,.inl (.of (S3 _ _ (S2 _ _ hpB))),_,iw,d,w,ks,ad,F w,rfl,.inr ⟨o,S3 _ _ e2⟩,vK,(hB w vK).same (S2.trans S3),hF w,fun l4 H4 nl4 S4' hl4=>?_⟩;walk_at "rd";refine ⟨_,.lst (.of (S4' _ _ hl)) aO,_,.lst (.of hl4) aO,by rw [U5,cI];lia,?_⟩;have S4:=S3.trans S4'
     split
     .refine ⟨S4 _ _ hD,by rw [A6] at E6 ⊢;exact K1 'a',CW.put hi E6 ⟨(S2.trans S4).put nDB,by rw [A9 nDd.symm];exact S4 _ _ e2,xs++[y],by rw [D8];rfl,fun x hx=>?_⟩⟩
      rcases E4.mp hx with h | h
      .exact dL x h
      .rw [G2.mp h];exact j6
     .exact ⟨S4 _ _ hD,kG hi E6 ⟨S2.trans S4,S4 _ _ e2,xs,rfl,dL⟩⟩
    .rintro D ys H2 nD ⟨S2,e2,xs,rfl,dL⟩ hD E6;have nDd:D≠d:=fun e=>by rw [e,A5] at nD;cases nD
     rw [A6] at E6;exact ⟨⟨o,e2⟩,hM' _ _ ⟨D,xs,rfl,S1.trans (hw S2 ⟨o,e2⟩),by rw [A9 nDd];exact hD,dL,by lia⟩⟩
   .rw [if_neg vK,if_neg (by decide)];exact keep
  rintro Y H2 ⟨s2,ss,rfl,S2,x5,hss,hsl⟩;have X4:=S2 _ _ hp;clear S1 mH nsd Y0 dJ SB hB hpB nB cB hw npd ns SF nBd H1 B s;have e9:∀ {H3:Hp} (l:Addr) (qs:List Str),Same H H3->H3 l=some (.lst (qs.map V.str))->H l=none->(∀ x∈qs,x∈ps\/x∈ks)->qs.length<=ps.length+1->Q (.ref l) H3:=fun l qs S h n h1 h2=>q l _ qs n S h h1 h2
  walk_at "rd";intro p3 fQ;have S3:Same H2 (A0 H2 p3 (.lst [])):=Same.new fQ;have h3:A0 H2 p3 (.lst []) p3=some (.lst []):=A5;generalize A0 H2 p3 (.lst [])=H3 at S3 h3;have jF:=S2.trans S3;have R3:=jF _ _ hp;have jE:=S3 _ _ x5;refine ⟨_,.lst (.of jE) (u5 fun x hx=>hko x (hss x hx)),_,.lst (.of h3) .nil,F8 (Nat.min_le_right _ _) (by decide),?_⟩;have hcp:rListR K true p H3 Q:=rListR.l (.inl (.of R3)) fun l nl=>e9 l ps (jF.trans (Same.new nl)) A5 (jF.free nl) (fun x hx=>.inl hx) 'a'
  by_cases vL:ss=[]
  .subst vL;rw [if_pos (by rfl)];exact hcp
  split
  .exact hcp
  refine iteD (fun _=>hcp) fun _=>?_
  have hs0:0<ss.length:=List.length_pos_iff.mpr vL;obtain ⟨x,hx,L4⟩:=pickA (zs:=ss) (c / 9*48271 % 2147483647 / 97) hs0;have fin1:∀ l H4 (qs:List Str),Same H3 H4->H3 l=none->H4 l=some (.lst (qs.map V.str))->(∀ y∈qs,y∈ps\/y=x)->qs.length<=ps.length+1->Q (.ref l) H4:=fun l H4 qs S n h h1 h2=>e9 l qs (jF.trans S) h (jF.free n) (fun y hy=>(h1 y hy).imp id fun (e:y=x)=>by rw [e];exact hss x hx) h2
  refine ⟨ss.length,.inl ⟨_,.of jE,by rw [A6]⟩,by lia,_,.inl (.of jE),_,L4,?_⟩;rw [show (at_:Int)+1=((at_+1:Nat):Int) by lia];refine iteD (fun _=>ae3 R3 L5 (B3 _) fin1) fun _=>iteD (fun _=>ahY R3 L5 (Nat.le_succ _) fun l H4 qs S n h h1 h2=>e9 l qs (jF.trans S) h (jF.free n) (fun y hy=>.inl (h1 y hy)) h2) fun _=>ae3 R3 L5 (Nat.le_succ _) fin1
theorem sc_law:FnScope ["_law_script", "_law_rules_here", "_law_makes_here", "_law_parts", "_law_other", "_law_cell", "_law_low", "_law_some", "_law_one", "_law_order", "_law_strength", "_law_pairs", "_law_places", "_law_due", "_law_k", "_law_end"] ["_law_script"] (C3 s_law):=G3
abbrev n_law:List Str:=["_law_script", "_law_rules_here", "_law_makes_here", "_law_parts", "_law_other", "_law_cell", "_law_low", "_law_some", "_law_one", "_law_order", "_law_strength", "_law_pairs", "_law_places", "_law_due", "_law_k", "_law_end"]
theorem oR:VS n_law s_law "_law_script" 0:=vq
theorem vfo:VS n_law s_law "_law_rules_here" 1:=vq
theorem vfp:VS n_law s_law "_law_makes_here" 2:=vq
theorem vfq:VS n_law s_law "_law_parts" 3:=vq
theorem vfr:VS n_law s_law "_law_other" 4:=vq
theorem vfs:VS n_law s_law "_law_cell" 5:=vq
theorem vft:VS n_law s_law "_law_low" 6:=vq
theorem vfu:VS n_law s_law "_law_some" 7:=vq
theorem vfv:VS n_law s_law "_law_one" 8:=vq
theorem vfw:VS n_law s_law "_law_order" 9:=vq
theorem vfx:VS n_law s_law "_law_strength" 10:=vq
theorem vfy:VS n_law s_law "_law_pairs" 11:=vq
theorem uH:VS n_law s_law "_law_places" 12:=vq
theorem vfA:VS n_law s_law "_law_due" 13:=vq
theorem vfB:VS n_law s_law "_law_k" 14:=vq
theorem vfC:VS n_law s_law "_law_end" 15:=vq
theorem vfD:LS s_law "_law_rules_here":=lq
theorem vfE:LS s_law "_law_makes_here":=lq
theorem vfF:LS s_law "_law_parts":=lq
theorem vfG:LS s_law "_law_other":=lq
theorem vfH:LS s_law "_law_cell":=lq
theorem vfI:LS s_law "_law_low":=lq
theorem vfJ:LS s_law "_law_some":=lq
theorem vfK:LS s_law "_law_one":=lq
theorem vfL:LS s_law "_law_order":=lq
theorem vfM:LS s_law "_law_strength":=lq
theorem vfN:LS s_law "_law_pairs":=lq
theorem vfO:LS s_law "_law_places":=lq
theorem vfP:LS s_law "_law_due":=lq
theorem vfQ:LS s_law "_law_k":=lq
theorem vfR:LS s_law "_law_end":=lq
theorem arU(F:FunD K "law" "law" s_law f fd)(T:Txt P w K mg C)(G_Order___init__:KO P w K mg base 5 C "Order" ["self", "rules"] (yB C))(G3_compare:FO P w K mg base 8 "compare" ["order", "one", "other", "strength"] [] (tD C))(G_joints:FO P w K mg base 6 "joints" ["order", "text"] [] (ai1 C))(G3_found_in:FO P w K mg base 7 "found_in" ["order", "one", "other", "strength"] [] (tI C))(G_l_cell_at:FO P w K mg base 1 "_law_cell_at" ["_law_script", "_law_k"] [] (kP K))(G_l_rules:FO P w K mg base 5 "_law_rules" ["_law_script"] [] (aiR K))(G_l_makes:FO P w K mg base 2 "_law_makes" ["_law_rules_here"] [] (alj K))(G_l_pieces:FO P w K mg base 1 "_law_pieces" ["_law_makes_here", "_law_worth", "_law_cells"] [] (aiV K))(G_l_changed:FO P w K mg base 2 "_law_changed" ["_law_makes_here", "_law_parts", "_law_cell"] [] (ahc K)):FnOk P w K mg base E8 9 f fd ["_law_script"] (spLaw K):=by
 refine F.ok sc_law ?_ ?_
 .rintro _ _ _ _ ⟨a,ns,rfl,_⟩;rfl
 .intro cdv A outer s H vs Q E hr h;have C4:=hu_of hr;have hu:=hr.units;refine ⟨_,QSs.out (A7 (D0 (n:=1) sc_law.nd rfl vfD (D1 G_l_rules (hm hr) (qa_c (vi oR) A3)))
   (A7 (D0 (n:=2) sc_law.nd rfl vfE (D1 G_l_makes (hm hr) (qa_c (vi vfo) A3)))
   (A7 (D0 (n:=3) sc_law.nd rfl vfF (D1 G_l_pieces (hm hr) (qa_c (vi vfp) (qa_c (gN (q_inD (K:=K) hu) (M9 (qa_c K6 A3)) (vi vfo)) (qa_c (M5 (K:=K) (vi oR) (K2 A4) (K2 A4)) A3)))))
   (A7 (D0 (n:=4) sc_law.nd rfl vfG (qe_mB (K:=K) PySem.F.plainAttrs_str PySem.F.slot_str_join PySem.F.type_str_join (ann (K:=K)) K6 (qa_c (vi vfq) A3)))
   (A7 (D0 (n:=5) sc_law.nd rfl vfH (D1 G_l_cell_at (hm hr) (qa_c (vi oR) (qa_c A4 A3))))
   (A7 (D0 (n:=6) sc_law.nd rfl vfI (qe_op q_mod (vi vfs) (qe_op (q_add (K:=K)) (qe_cB (q_len (K:=K)) T.b_len O1 (qa_c (vi vfq) A3)) A4)))
   (A7 (D0 (n:=7) sc_law.nd rfl vfJ (M5 (K:=K) (vi vfq) (K2 (vi vft)) (K2 (qe_op (q_add (K:=K)) (vi vft) (qe_op q_mod (qe_op L7 (vi vfs) A4) A4)))))
   (g4 (qs_if (E5 (q_eq (K:=K) hu) (qe_op q_mod (qe_op L7 (vi vfs) A4) A4) A4) (A8 (D0 (n:=7) sc_law.nd rfl vfJ (D1 G_l_changed (hm hr) (qa_c (vi vfp) (qa_c (vi vfu) (qa_c (D1 G_l_cell_at (hm hr) (qa_c (vi oR) (qa_c A4 A3))) A3)))))) G8)
   (A7 (D0 (n:=8) sc_law.nd rfl vfK (qe_mB (K:=K) PySem.F.plainAttrs_str PySem.F.slot_str_join PySem.F.type_str_join (ann (K:=K)) K6 (qa_c (vi vfu) A3)))
   (A7 (D0 (n:=9) sc_law.nd rfl vfL (aoS G_Order___init__ (hm hr) (qa_c (vi vfo) A3)))
   (A7 (D0 (n:=10) sc_law.nd rfl vfM (qe_op (q_add (K:=K)) A4 (qe_op q_mod (D1 G_l_cell_at (hm hr) (qa_c (vi oR) (qa_c A4 A3))) A4)))
   (A7 (D0 (n:=11) sc_law.nd rfl vfN (D1 G3_found_in (hm hr) (qa_c (vi vfw) (qa_c (vi vfv) (qa_c (vi vfr) (qa_c (vi vfx) A3))))))
   (A7 (D0 (n:=12) sc_law.nd rfl vfO (D1 G_joints (hm hr) (qa_c (vi vfw) (qa_c (vi vfr) A3))))
   (A7 (D0 (n:=13) sc_law.nd rfl vfP (M7 A3))
   (A7 (M0 PassesOwn.never (qi_r1 T.b_range (qa_c (qe_cB (q_len (K:=K)) T.b_len O1 (qa_c (vi uH) A3)) A3)) (D6 (n:=14) sc_law.nd rfl vfQ (.inl rfl)) (A8 (M0 PassesOwn.never (O2 (K:=K) (M5 (K:=K) (vi uH) (K2 (vi vfB)) P9)) (D6 (n:=15) sc_law.nd rfl vfR (.inl rfl)) (A8 (qs_if (E5 (q_eq (K:=K) hu) (D1 G3_compare (hm hr) (qa_c (vi vfw) (qa_c (vi vfv) (qa_c (M5 (K:=K) (vi vfr) (K2 (qe_ix (K:=K) (vi uH) (vi vfB))) (K2 (vi vfC))) (qa_c (vi vfx) A3))))) A4) (A8 (P3 (qe_mB (K:=K) R4 V3 V2 V5 (vi vfA) (qa_c (M9 (qa_c (qe_ix (K:=K) (vi uH) (vi vfB)) (qa_c (vi vfC) A3))) A3)))) G8)))))
   (A8 (E7 (ank (qe_cB q_isi T.b_isinstance afV (qa_c (vi vfy) (qa_c (qe_ty T.b_list u7) A3))) (wW (gN (q_eq (K:=K) hu) (vi vfy) (vi vfA))))))))))))))))))))),?_⟩
  obtain ⟨a,ns,rfl,hS,B1,q⟩:=h;walk_at "rd";refine ⟨a,ns,rfl,hS,fun r ts R ls ms H1 S1 nr hR G=>?_⟩;obtain ⟨hL,hM⟩:=G.lines;refine ⟨r,ts,R,ns,ls,ms,rfl,hR,G,hL,hM,fun d ks H2 nd S2 hd cY i4=>?_⟩;have hR2:=hR.same S2;have hS2:=(S1.trans S2).seq hS;clear hR S1 S2 nr nd hS;refine ⟨by decide,fun p np=>?_⟩;have S3:Same H2 (A0 H2 p (.tup [V.str (Str.ofString "figures")])):=Same.new np;have R3:A0 H2 p (.tup [V.str (Str.ofString "figures")]) p=some (.tup ((("figures" : Str)::[]).map V.str)):=A5;generalize A0 H2 p (.tup [V.str (Str.ofString "figures")])=H3 at S3 R3;refine ⟨ruleD ("figures",[]),.tup (.of R3) (u5 (by intro y hy;rw [G2.mp hy];decide +kernel)),R.map ruleD,aiN (hR2.same S3) G.str,F8 (dW _ _) (F8 (yD R) (by decide)),?_⟩;rw [ali R "figures" (G.flag (.inl rfl))];refine rSlR.l (S3.seq hS2) fun c nc=>?_
  rw [show cutV (ns.map V.int) (some 10) (some 17)=((ns.drop 10).take 7).map V.int by rw [show cutV (ns.map V.int) (some 10) (some 17)=_ from sK _ (i:=10) (j:=17) (by decide),<- W7,<- s0]];have pV:((ns.drop 10).take 7).length<=7:=by rw [E9];lia
  generalize (ns.drop 10).take 7=cs at pV;have S4:Same H3 (A0 H3 c (.lst (cs.map V.int))):=Same.new nc;have bN:A0 H3 c (.lst (cs.map V.int)) c=some (.lst (cs.map V.int)):=A5;generalize A0 H3 c (.lst (cs.map V.int))=H4 at S4 bN;obtain ⟨ad,y4,T7⟩:=hd.same (S3.trans S4);refine ⟨d,c,_,ks,_,cs,rfl,y4,G.known_pos cY,i4,.of bN,by lia,fun l H5 ps nl S5 fM X7 L5=>?_⟩;have hd5:=hd.same (S3.trans (S4.trans S5));have hR5:=hR2.same (S3.trans (S4.trans S5));have hS5:=(S3.trans (S4.trans S5)).seq hS2;clear hd y4 T7 hR2 hS2 S3 S4 S5 nl bN nc R3 np;obtain ⟨s1,s2,s3,s4⟩:=ag8 G cY X7;have hko:∀ x∈ks,W9 x=true:=fun x hx=>by
   rcases kZ ((cY x).mp hx) with rfl | h
   .decide +kernel
   .obtain ⟨k,hk⟩:=G.pc h;exact (kH hk.ok.1).1
  walk_at "rd";refine ⟨_,l,ps,rfl,rfl,.inl (.of fM),by decide,by lia,?_⟩;have fN:(Str.join (Str.ofString "") ps).length<=100:=by lia
  clear s1 s2 s3;generalize Str.join (Str.ofString "") ps=z' at fN s4;refine ⟨a,ns,6,rfl,hS5,by decide,ps.length,.inl ⟨_,.of fM,by rw [A6]⟩,_,rfl,by lia,_,rfl,?_⟩;generalize cellF ns 6=c6;refine rSlR.l (.of fM) fun l6 n6=>?_
  obtain ⟨qs,bK,W6,dE⟩:∃ qs:List Str,(∀ x∈qs,x∈ps)/\cutV (ps.map V.str) (some (c6 % ((ps.length:Int)+1))) (some (c6 % ((ps.length:Int)+1)+c6 / 13 % 5))=qs.map V.str/\qs.length<=ps.length:=by
   obtain ⟨t,ht⟩:∃ t:Nat,c6 % ((ps.length:Int)+1)=(t:Int):=⟨(c6 % ((ps.length:Int)+1)).toNat,by
    have:=k5 c6 (show ((ps.length:Int)+1)≠0 by lia)
    lia⟩
   obtain ⟨t2,qS⟩:∃ t2:Nat,c6 / 13 % 5=(t2:Int):=⟨(c6 / 13 % 5).toNat,by lia⟩
   refine ⟨(ps.drop t).take t2,fun x hx=>mK (jJ hx),?_,by rw [E9,U3];lia⟩;rw [ht,qS,show ((t:Int)+(t2:Int))=((t+t2:Nat):Int) by lia,sK _ 'a',<- W7,<- s0,mT]
  rw [W6];have S6:Same H5 (A0 H5 l6 (.lst (qs.map V.str))):=Same.new n6;have h6:A0 H5 l6 (.lst (qs.map V.str)) l6=some (.lst (qs.map V.str)):=A5;generalize A0 H5 l6 (.lst (qs.map V.str))=H6 at S6 h6;refine midS (fun Y H'=>∃ (l6:Addr) (qs:List Str),Y=[some (.ref a),some (.ref r),some (.ref d),some (.ref l),some (.str z'),some (.int c6),some (.int (c6 % ((ps.length:Int)+1))),some (.ref l6),none,none,none,none,none,none,none,none]/\Same H5 H'/\H' l6=some (.lst (qs.map V.str))/\(∀ p∈qs,cM (hasW R "figures") ks p)/\qs.length<=20) ?_ ?_
  .intro M' hM';walk_at "rd";refine iteD (fun _=>⟨a,ns,7,rfl,S6.seq hS5,by decide,?_⟩) fun _=>hM' _ _ ⟨l6,qs,rfl,S6,h6,fun p hp=>X7 p (bK p hp),by lia⟩
   refine ⟨d,l6,_,ks,qs,stepF R ls ms,rfl,hd5.same S6,ag1 G ls ms,G.known_pos cY,i4,hko,h6,by lia,fun l7 H7 rs nl7 S7 h7 hrs qD=>?_⟩;refine hM' _ _ ⟨l7,rs,rfl,S6.trans S7,h7,fun p hp=>?_,by lia⟩
   rcases hrs p hp with h | h
   .exact X7 p (bK p h)
   .exact .inl h
  clear bK W6 dE h6 S6 n6;rintro Y H6 ⟨l6,qs,rfl,S6,h6,bK,dE⟩;obtain ⟨t1,t2,t3,t4⟩:=ag8 G cY bK;have hR6:=hR5.same S6;have hS6:=S6.seq hS5;walk_at "rd";refine ⟨_,l6,qs,rfl,rfl,.inl (.of h6),by decide,by lia,?_⟩;have qT:(Str.join (Str.ofString "") qs).length<=300:=by lia
  clear t1 t2 t3;generalize Str.join (Str.ofString "") qs=z at qT t4;intro x dx nx ndx ndxx;have S8:Same H6 (A0 (A0 H6 dx (.own x)) x (.ins C dx [])):=(Same.new ndx).trans (Same.new (by rw [A9 ndxx.symm];exact nx));have vA:A0 (A0 H6 dx (.own x)) x (.ins C dx []) x=some (.ins C dx []):=A5;generalize A0 (A0 H6 dx (.own x)) x (.ins C dx [])=H8 at S8 vA;refine ⟨x,dx,r,ts,R,g6 R,_,_,rfl,vA,hR6.same S8,G.good,fun j ll ml md L M H9 nj nll nml nmd B9 hO=>⟨rfl,?_⟩⟩;obtain rfl:=G.lets hO.l1;obtain rfl:=G.mrks hO.l2;have S69:Same H6 H9:=fun b o hb=>B9 _ _ (fun e=>by rw [e,nx] at hb;cases hb) (S8 _ _ hb)
  refine ⟨a,ns,8,rfl,S69.seq hS6,by decide,?_⟩;obtain ⟨s,mH,vM,vL⟩:∃ s:Nat,1<=s/\s<=4/\1+cellF ns 8 % 4=(s:Int):=⟨(1+cellF ns 8 % 4).toNat,by lia,by lia,by lia⟩
  walk_at "rd";rw [vL];refine ⟨x,j,ll,ml,md,z,z',s,ns,R,L,M,rfl,mH,vM,hO,G,by lia,by lia,t4,s4,fun lp pp X5 nlp q0 hpr=>?_⟩;refine ⟨x,j,ll,ml,md,z',ns,R,L,M,rfl,hO.same q0,G,by lia,s4,fun lj fK nlj qQ hj=>?_⟩;have fV:=hpr.same qQ;have hO11:=hO.same (q0.trans qQ);rw [<- aly,alE] at hj;generalize bL:(cutF (hasW R "figures") (D7 R) z'.cps.toList).2=zs at hj fV;have O3:zs.length<=300:=by rw [<- bL];exact F8 (kY _ _ (B3 _)).2.1 (by rw [lenL];lia)
  have m8:∀ f e,f<=e->e<=zs.length->(cutS z' (some (G0 zs f)) (some (G0 zs e))).length<=300/\c9 (hasW R "figures") (D7 R) (cutS z' (some (G0 zs f)) (some (G0 zs e))):=by
   intro f e iV he;rw [<- bL] at he ⊢
   obtain ⟨_,g2,g3⟩:=alC iV he;refine ⟨by lia,?_⟩;unfold c9;rw [g3]
  obtain ⟨cnd,dM⟩:∃ c:Nat->Nat->Bool,∀ f e,c f e=decide (cmpF s (lD R L M z) (lD R L M (cutS z' (some (G0 zs f)) (some (G0 zs e))))=0):=⟨_,fun _ _=>rfl⟩
  have hJm:∀ f∈v8 M zs (zs.length+1),f<=zs.length:=fun f hf=>by
   have:=dS.mp (Q2.mp hf).1
   lia
  have hJs:(v8 M zs (zs.length+1)).Pairwise (· < ·):=List.Pairwise.filter _ List.pairwise_lt_range;have hJl:(v8 M zs (zs.length+1)).length<=301:=F8 (fZ _ _) (by rw [List.length_range];lia);generalize hJ:v8 M zs (zs.length+1)=J at hj hJm hJs hJl;intro p np;walk_at "rd";refine ⟨J.length,.inl ⟨_,.of (D3 hj np),by rw [A6,A6]⟩,by lia,by lia,?_⟩;rw [show ((J.length:Nat):Int).toNat=J.length from rfl];refine forRs (fun k Y H'=>∃ (u v:Option V) (qs:List Addr),Y=[some (.ref a),some (.ref r),some (.ref d),some (.ref l),some (.str z'),some (.int c6),some (.int (c6 % ((ps.length:Int)+1))),some (.ref l6),some (.str z),some (.ref x),some (.int s),some (.ref lp),some (.ref lj),some (.ref p),u,v]/\Same fK H'/\IsPr H' p qs zs (dP cnd J k)/\qs.length<=301*k) ⟨none,none,[],rfl,Same.new np,⟨A5,.nil⟩,F9 _⟩ ?_ ?_
  .rintro P' Bk hP k Y H' hk ⟨u,v,qs,rfl,S,hp,dE⟩;obtain ⟨f,hf⟩:∃ f,J[k]?=some f:=⟨_,G5 hk⟩
   have N9:dP cnd J (k+1)=dP cnd J k++((J.drop k).filter (cnd f)).map fun e=>(f,e):=by
    show dP cnd J k++(match J[k]? with | some f=>((J.drop k).filter (cnd f)).map fun e=>(f,e) | none=>[])=_;rw [hf]
   have hEm:∀ e∈J.drop k,f<=e/\e<=zs.length:=fun e he=>⟨by
    have pw:=hJs.sublist (List.drop_sublist k J);obtain ⟨hk2,ef⟩:=I0.mp hf;rw [aD hk2,ef] at pw he
    rcases F6.mp he with h | h
    .lia
    .exact gE ((List.pairwise_cons.mp pw).1 e h),hJm e (mK he)⟩
   have hEl:(J.drop k).length<=301:=by rw [U3];lia
   walk_at "rd";rw [t7];refine rSlR.l (.of (S _ _ hj)) fun l7 n7=>⟨l7,rfl,?_⟩
   rw [o7,<- W7,<- W7];have h7:A0 H' l7 (.lst (((J.drop k).map (G0 zs)).map V.int)) l7=some (.lst (((J.drop k).map (G0 zs)).map V.int)):=A5;have S7:Same H' (A0 H' l7 (.lst (((J.drop k).map (G0 zs)).map V.int))):=Same.new n7;have n7p:l7≠p:=fun e=>by rw [e,hp.top] at n7;cases n7
   generalize A0 H' l7 (.lst (((J.drop k).map (G0 zs)).map V.int))=H7 at h7 S7;generalize J.drop k=E at h7 hEm hEl N9;refine ⟨⟨_,.of h7⟩,?_⟩;refine forLs (xs:=(E.map (G0 zs)).map V.int) (fun m Y H8=>∃ (v:Option V) (qs:List Addr),Y=[some (.ref a),some (.ref r),some (.ref d),some (.ref l),some (.str z'),some (.int c6),some (.int (c6 % ((ps.length:Int)+1))),some (.ref l6),some (.str z),some (.ref x),some (.int s),some (.ref lp),some (.ref lj),some (.ref p),some (.int k),v]/\Same fK H8/\H8 l7=some (.lst ((E.map (G0 zs)).map V.int))/\IsPr H8 p qs zs (dP cnd J k++((E.take m).filter (cnd f)).map fun e=>(f,e))/\qs.length<=301*k+m) ⟨_,qs,rfl,S.trans S7,h7,by rw [Z6,jN,bV,G7];exact hp.same S7,by lia⟩ (by rintro m Y H8 _ ⟨_,_,_,_,h,_⟩;exact .of h) ?_ ?_
   .rintro P2 Bk2 hP2 m v0 Y H8 hv ⟨v1,qs,rfl,S8,dB,mI,hq8⟩;obtain ⟨i0,hi0,rfl⟩:=G4 hv;obtain ⟨e,he,rfl⟩:=G4 hi0;have hme:=(I0.mp he).1;obtain ⟨iV,hez⟩:=hEm e (L6 he);obtain ⟨E6,hyw⟩:=m8 f e iV hez;have qW:=S8 _ _ hj;have qX:K5 ((J.map (G0 zs)).map V.int) (k:Int)=some (V.int (G0 zs f)):=N2 (by rw [O7,O7,hf];rfl);have hkm:301*k<=301*301:=Nat.mul_le_mul (B3 _) 'a';walk_at "rd";refine ⟨_,.inl (.of qW),_,qX,_,rfl,P7 'a',?_⟩;refine ⟨x,j,ll,ml,md,z,_,s,g6 R,R,L,M,rfl,vM,hO11.same S8,G.known_len,by lia,by lia,t4,hyw,ag2 G L M,fun H9' S9=>?_⟩;walk_at "rd"
    by_cases hc:cnd f e=true
    .rw [dM,decide_eq_true_iff] at hc;rw [if_pos (decide_eq_true hc)];have fU:=mI.same S9;have uX:=S9 _ _ dB;refine ⟨R7 fU.top,_,.inl (.of (S9 _ _ qW)),_,qX,by decide,fun t nt=>?_⟩;have ntp:t≠p:=fun q=>by rw [q,fU.top] at nt;cases nt
     refine appOk (D3 fU.top nt) (by rw [A6];exact K1 'a') (hP2 _ _ _ ⟨_,qs++[t],rfl,((S8.trans S9).trans (Same.new nt)).put np,by rw [A9 n7p];exact D3 uX nt,⟨by rw [A5,D8];rfl,?_⟩,by rw [C1,O4];lia⟩);rw [K7 he,Y1,show [e].filter (cnd f)=[e] by rw [aE (by rw [dM];exact decide_eq_true hc)];rfl,D8,<- Q1];refine Paired.snoc (L0 fU.row fun b c hb=>?_) (by rw [A9 ntp,A5]);rw [A9 (fun q=>by rw [q,fU.top] at hb;cases hb)];exact D3 hb nt
    .have m4:=hc;rw [dM,decide_eq_true_iff] at m4;rw [if_neg (by simpa using m4)];refine hP2 _ _ _ ⟨_,qs,rfl,S8.trans S9,S9 _ _ dB,?_,by lia⟩;rw [K7 he,Y1,bR hc,jN,G7];exact mI.same S9
   .rintro Y H8 ⟨v1,qs,rfl,S8,dB,mI,hq8⟩;rw [A6,A6] at mI hq8;rw [K9] at mI;exact hP _ _ _ ⟨_,_,qs,rfl,S8,by rw [N9];exact mI,by lia⟩
  rintro Y H' ⟨u,v,qs,rfl,S,hp,dE⟩;have jG:=fV.same S;walk_at "rd";refine ⟨"list",aoJ jG.top,rfl,?_⟩;rw [if_pos (by decide)];refine ⟨_,.lst (.of jG.top) (zF jG.row),_,.lst (.of hp.top) (zF hp.row),F8 (Nat.min_le_right _ _) (by have:=ai8 zs (dP cnd J J.length);rw [U5];lia),?_⟩;have qY:lE s zs z z' (g9 (stepY R L M) s M zs (P5 (stepY R L M) (cutF (hasW R "figures") (D7 R) z.cps.toList).2) (zs.length+1))=dP cnd J J.length:=by
   rw [<- hJ];refine aqc vM fun f e iV he=>?_
   rw [dM,decide_eq_true_iff];unfold lD;rw [am4 mH vM];rw [<- bL] at he ⊢
   rw [(alC iV he).2.2];rfl
  rw [O9,qY,anC];exact q _
end
theorem all_mk{l:PySem.W.OpenLaw}{w:World}(X:K.In h)(G:h.Ns mainGlobals mg)(mF:mg "law"=some (.ref fa))(d0:DF K "told" aX)(d1:DF K "followers" g7)(d2:DF K "count_ahead" aY)(d3:DF K "lined_up" U0)(d4:DF K "is_figure" sY)(d5:DF K "has_rule" nV)(d6:DF K "pieces_told" sZ)(d7:DF K "is_clash" eM)(d8:DF K "jobs_of" p6)(d9:DF K "misused" cN)(d10:DF K "check_letters" cO)(d11:DF K "line_of" nW)(d12:DF K "forms_of" eN)(d13:DF K "steps_of" T3){f14:Addr}{od14 an14:Option Addr}{sl14:Array (Option Value)}{oc14 kV14 dc14 pm14 cd14 ct14:Value}(a14:R5 K (.ref C) "__init__"=some (some (.ref f14)))(i14:bZ K (.ref f14)=true)(l14:K.lookup f14=some ⟨oc14,od14,.func (V4 "__init__" "Order.__init__" (X0 eO) (W0 eO) (C3 eO) .none kV14 dc14 pm14 an14 cd14 ct14),sl14⟩)(c14:Y3 K cd14 "Order.__init__"=true)(k14:W8 K (.ref f14)=true){f15:Addr}{od15 an15:Option Addr}{sl15:Array (Option Value)}{oc15 kV15 dc15 pm15 cd15 ct15:Value}(a15:R5 K (.ref C) "letters"=some (some (.ref f15)))(i15:bZ K (.ref f15)=true)(l15:K.lookup f15=some ⟨oc15,od15,.func (V4 "letters" "Order.letters" (X0 hV) (W0 hV) (C3 hV) .none kV15 dc15 pm15 an15 cd15 ct15),sl15⟩)(c15:Y3 K cd15 "Order.letters"=true)(k15:W8 K (.ref f15)=true){f16:Addr}{od16 an16:Option Addr}{sl16:Array (Option Value)}{oc16 kV16 dc16 pm16 cd16 ct16:Value}(a16:R5 K (.ref C) "marks"=some (some (.ref f16)))(i16:bZ K (.ref f16)=true)(l16:K.lookup f16=some ⟨oc16,od16,.func (V4 "marks" "Order.marks" (X0 hX) (W0 hX) (C3 hX) .none kV16 dc16 pm16 an16 cd16 ct16),sl16⟩)(c16:Y3 K cd16 "Order.marks"=true)(k16:W8 K (.ref f16)=true){f17:Addr}{od17 an17:Option Addr}{sl17:Array (Option Value)}{oc17 kV17 dc17 pm17 cd17 ct17:Value}(a17:R5 K (.ref C) "job"=some (some (.ref f17)))(i17:bZ K (.ref f17)=true)(l17:K.lookup f17=some ⟨oc17,od17,.func (V4 "job" "Order.job" (X0 eP) (W0 eP) (C3 eP) .none kV17 dc17 pm17 an17 cd17 ct17),sl17⟩)(c17:Y3 K cd17 "Order.job"=true)(k17:W8 K (.ref f17)=true)(d18:DF K "figures_at" iA)(d19:DF K "part_at" cP){f20:Addr}{od20 an20:Option Addr}{sl20:Array (Option Value)}{oc20 kV20 dc20 pm20 cd20 ct20:Value}{tD20:Addr}{nD20:Nat}{cD20:Value}{oD20:Option Addr}{sD20:Array (Option Value)}(dl20:K.lookup tD20=some ⟨cD20,oD20,.seq #[.bool false] nD20,sD20⟩)(a20:R0 K mainGlobals "cut"=some (some (.ref f20)))(l20:K.lookup f20=some ⟨oc20,od20,.func (V4 "cut" "cut" (X0 s_cut) (W0 s_cut) (C3 s_cut) (.ref tD20) kV20 dc20 pm20 an20 cd20 ct20),sl20⟩)(c20:Y3 K cd20 "cut"=true)(k20:W8 K (.ref f20)=true){f21:Addr}{od21 an21:Option Addr}{sl21:Array (Option Value)}{oc21 kV21 dc21 pm21 cd21 ct21:Value}(a21:R5 K (.ref C) "known"=some (some (.ref f21)))(i21:bZ K (.ref f21)=true)(l21:K.lookup f21=some ⟨oc21,od21,.func (V4 "known" "Order.known" (X0 iB) (W0 iB) (C3 iB) .none kV21 dc21 pm21 an21 cd21 ct21),sl21⟩)(c21:Y3 K cd21 "Order.known"=true)(k21:W8 K (.ref f21)=true){f22:Addr}{od22 an22:Option Addr}{sl22:Array (Option Value)}{oc22 kV22 dc22 pm22 cd22 ct22:Value}(a22:R5 K (.ref C) "steps"=some (some (.ref f22)))(i22:bZ K (.ref f22)=true)(l22:K.lookup f22=some ⟨oc22,od22,.func (V4 "steps" "Order.steps" (X0 eQ) (W0 eQ) (C3 eQ) .none kV22 dc22 pm22 an22 cd22 ct22),sl22⟩)(c22:Y3 K cd22 "Order.steps"=true)(k22:W8 K (.ref f22)=true)(d23:DF K "parts_of" nX)(d24:DF K "steps_by" nY)(d25:DF K "add_mark" nZ)(d26:DF K "add_part" p7)(d27:DF K "units" aZ)(d28:DF K "looks" p8){f29:Addr}{od29 an29:Option Addr}{sl29:Array (Option Value)}{oc29 kV29 dc29 pm29 cd29 ct29:Value}{kD29:Tok}{tD29:Addr}{nD29:Nat}{cD29:Value}{oD29:Option Addr}{sD29:Array (Option Value)}(dl29:K.lookup tD29=some ⟨cD29,oD29,.seq #[.int 4 kD29] nD29,sD29⟩)(a29:R0 K mainGlobals "compare"=some (some (.ref f29)))(l29:K.lookup f29=some ⟨oc29,od29,.func (V4 "compare" "compare" (X0 Y8) (W0 Y8) (C3 Y8) (.ref tD29) kV29 dc29 pm29 an29 cd29 ct29),sl29⟩)(c29:Y3 K cd29 "compare"=true)(k29:W8 K (.ref f29)=true)(d30:DF K "starts" eR)(d31:DF K "is_joint" lA)(d32:DF K "joints" eS)(d33:DF K "seen" oA)(d34:DF K "count_alike" bA)(d35:DF K "ends_from" W3){f36:Addr}{od36 an36:Option Addr}{sl36:Array (Option Value)}{oc36 kV36 dc36 pm36 cd36 ct36:Value}{kD36:Tok}{tD36:Addr}{nD36:Nat}{cD36:Value}{oD36:Option Addr}{sD36:Array (Option Value)}(dl36:K.lookup tD36=some ⟨cD36,oD36,.seq #[.int 4 kD36] nD36,sD36⟩)(a36:R0 K mainGlobals "found_in"=some (some (.ref f36)))(l36:K.lookup f36=some ⟨oc36,od36,.func (V4 "found_in" "found_in" (X0 R1) (W0 R1) (C3 R1) (.ref tD36) kV36 dc36 pm36 an36 cd36 ct36),sl36⟩)(c36:Y3 K cd36 "found_in"=true)(k36:W8 K (.ref f36)=true)(d37:DF K "_law_cell_at" oB)(d38:DF K "_law_sign" cQ)(d39:DF K "_law_letters" W4)(d40:DF K "_law_part" iC)(d41:DF K "_law_two" lB)(d42:DF K "_law_others" T5)(d43:DF K "_law_rules" e8)(d44:DF K "_law_row_of" cR)(d45:DF K "_law_forms" l9)(d46:DF K "_law_makes" m3)(d47:DF K "_law_pieces" g8)(d48:DF K "_law_bare" lC)(d49:DF K "_law_changed" X1){f50:Addr}{od50 an50:Option Addr}{sl50:Array (Option Value)}{oc50 kV50 dc50 pm50 cd50 ct50:Value}(a50:R0 K mainGlobals "law"=some (some (.ref f50)))(l50:K.lookup f50=some ⟨oc50,od50,.func (V4 "law" "law" (X0 s_law) (W0 s_law) (C3 s_law) .none kV50 dc50 pm50 an50 cd50 ct50),sl50⟩)(c50:Y3 K cd50 "law"=true)(k50:W8 K (.ref f50)=true)(aC:R0 K mainGlobals "Order"=some (some (.ref C)))(pgC:mV K C Str.empty=true)(hdC:PySem.W.hasDictIn K C=true)(poC:PySem.W.plainOver K C=true)(saC:R5 K (.ref C) "__setattr__"=some (some (.builtin "object.__setattr__")))(mkC:PySem.W.makesIn K C=true)(kcC:W8 K (.ref C)=true)(nC_figures:R5 K (.ref C) "figures"=some none)(nC_behind:R5 K (.ref C) "behind"=some none)(nC_jobs:R5 K (.ref C) "jobs"=some none)(nC_letter_line:R5 K (.ref C) "letter_line"=some none)(nC_mark_line:R5 K (.ref C) "mark_line"=some none)(nC_made:R5 K (.ref C) "made"=some none)(z_any:R0 K mainGlobals "any"=some none)(z_dict:R0 K mainGlobals "dict"=some none)(z_enumerate:R0 K mainGlobals "enumerate"=some none)(z_int:R0 K mainGlobals "int"=some none)(z_isinstance:R0 K mainGlobals "isinstance"=some none)(z_len:R0 K mainGlobals "len"=some none)(z_list:R0 K mainGlobals "list"=some none)(z_min:R0 K mainGlobals "min"=some none)(z_range:R0 K mainGlobals "range"=some none)(z_str:R0 K mainGlobals "str"=some none)(z_tuple:R0 K mainGlobals "tuple"=some none)(z_zip:R0 K mainGlobals "zip"=some none){a_JOBS:Addr}{ep_JOBS:Nat}{h_JOBS_0:Int}{t_JOBS_0 u_JOBS_0:Tok}{h_JOBS_1:Int}{t_JOBS_1 u_JOBS_1:Tok}{h_JOBS_2:Int}{t_JOBS_2 u_JOBS_2:Tok}{h_JOBS_3:Int}{t_JOBS_3 u_JOBS_3:Tok}{h_JOBS_4:Int}{t_JOBS_4 u_JOBS_4:Tok}(y_JOBS:R0 K mainGlobals "JOBS"=some (some (.ref a_JOBS)))(d_JOBS:K.lookup a_JOBS=some { cls:=.type "dict",dict:=none,data:=.dict #[⟨h_JOBS_0,.str "row" t_JOBS_0,.str "letter" u_JOBS_0⟩,⟨h_JOBS_1,.str "marks" t_JOBS_1,.str "mark" u_JOBS_1⟩,⟨h_JOBS_2,.str "great" t_JOBS_2,.str "great" u_JOBS_2⟩,⟨h_JOBS_3,.str "as" t_JOBS_3,.str "as" u_JOBS_3⟩,⟨h_JOBS_4,.str "over" t_JOBS_4,.str "over" u_JOBS_4⟩] ep_JOBS,slots:=#[] })(s_JOBS:(a_JOBS==sysModules)=false)(e_JOBS_0:h_JOBS_0=keyH w (Sum.inr ("row" : Str)))(e_JOBS_1:h_JOBS_1=keyH w (Sum.inr ("marks" : Str)))(e_JOBS_2:h_JOBS_2=keyH w (Sum.inr ("great" : Str)))(e_JOBS_3:h_JOBS_3=keyH w (Sum.inr ("as" : Str)))(e_JOBS_4:h_JOBS_4=keyH w (Sum.inr ("over" : Str))){a_AGAIN:Addr}{n_AGAIN:Nat}{od_AGAIN:Option Addr}{sl_AGAIN:Array (Option Value)}{t_AGAIN_0:Tok}{t_AGAIN_1:Tok}{t_AGAIN_2:Tok}(y_AGAIN:R0 K mainGlobals "AGAIN"=some (some (.ref a_AGAIN)))(d_AGAIN:K.lookup a_AGAIN=some ⟨.type "tuple",od_AGAIN,.seq #[.str "letter" t_AGAIN_0,.str "mark" t_AGAIN_1,.str "over" t_AGAIN_2] n_AGAIN,sl_AGAIN⟩){tMARK tLETTER tFIGURES:Tok}(y_MARK:R0 K mainGlobals "MARK"=some (some (.int 0 tMARK)))(y_LETTER:R0 K mainGlobals "LETTER"=some (some (.int 2 tLETTER)))(y_FIGURES:R0 K mainGlobals "FIGURES"=some (some (.int 1 tFIGURES)))
  : ∃ fd:FuncData,(∀ (s:Shared) (v:Value),BindsTo s fd ⟨[v],[]⟩ [("_law_script",v)])/\∀ base:Heap,K.In base->base.Ns mainGlobals mg->FnOk l.prog w K mg base E8 9 fa fd ["_law_script"] (spLaw K):=by
 have e:=mF.symm.trans (f8 X G a50);cases e;have T:Txt l.prog w K mg C:=⟨⟨pgC,hdC,poC,saC⟩,nC_figures,nC_behind,nC_jobs,nC_letter_line,nC_mark_line,nC_made,o3 X G z_any,o3 X G z_dict,o3 X G z_enumerate,o3 X G z_int,o3 X G z_isinstance,o3 X G z_len,o3 X G z_list,o3 X G z_min,o3 X G z_range,o3 X G z_str,o3 X G z_tuple,o3 X G z_zip,⟨_,f8 X G y_MARK⟩,⟨_,f8 X G y_LETTER⟩,⟨_,f8 X G y_FIGURES⟩,⟨_,f8 X G y_JOBS,aoK d_JOBS s_JOBS (.cons ⟨jS _ _,e_JOBS_0,⟨_,rfl⟩⟩ ( .cons ⟨jS _ _,e_JOBS_1,⟨_,rfl⟩⟩ ( .cons ⟨jS _ _,e_JOBS_2,⟨_,rfl⟩⟩ ( .cons ⟨jS _ _,e_JOBS_3,⟨_,rfl⟩⟩ ( .cons ⟨jS _ _,e_JOBS_4,⟨_,rfl⟩⟩ ( .nil)))))) 'c'⟩,⟨_,f8 X G y_AGAIN,fun H=>.inr ⟨_,_,_,d_AGAIN,rfl,rfl,(by show 3<=sizeLine;decide),.cons ⟨_,rfl⟩ ( .cons ⟨_,rfl⟩ ( .cons ⟨_,rfl⟩ ( .nil)))⟩⟩⟩
 have F14:=u6 (st:=eO) l14 c14;have F15:=u6 (st:=hV) l15 c15;have F16:=u6 (st:=hX) l16 c16;have F17:=u6 (st:=eP) l17 c17;have F20:=u6 (st:=s_cut) l20 c20;have F21:=u6 (st:=iB) l21 c21;have F22:=u6 (st:=eQ) l22 c22;have F29:=u6 (st:=Y8) l29 c29;have F36:=u6 (st:=R1) l36 c36;have F50:=u6 (st:=s_law) l50 c50;refine ⟨V4 "law" "law" (X0 s_law) (W0 s_law) (C3 s_law) .none kV50 dc50 pm50 an50 cd50 ct50,fun s v=>.of_eq rfl,fun base hb hn=>?_⟩;have G_told:=d0.go X G hb fun F=>aqd F T
 have G_followers:=d1.go X G hb fun F=>ahi F T G_told
 have G_count_ahead:=d2.go X G hb fun F=>afe F T
 have G_lined_up:=d3.go X G hb fun F=>ah1 F T G_followers G_count_ahead
 have G_is_figure:=d4.go X G hb fun F=>ahk F T
 have G_has_rule:=d5.go X G hb fun F=>ah4 F T
 have G_pieces_told:=d6.go X G hb fun F=>afg F T
 have G_is_clash:=d7.go X G hb fun F=>ah6 F T G_is_figure
 have G_jobs_of:=d8.go X G hb fun F=>ajK F T G_has_rule G_pieces_told G_is_clash
 have G_misused:=d9.go X G hb fun F=>ajL F T
 have G_check_letters:=d10.go X G hb fun F=>aei F T G_misused
 have G_line_of:=d11.go X G hb fun F=>ajN F T G_lined_up
 have G_forms_of:=d12.go X G hb fun F=>ah7 F T
 have G_steps_of:=d13.go X G hb fun F=>ah8 F T G_forms_of
 have G_Order___init__:KO l.prog w K mg base 5 C "Order" ["self", "rules"] (yB C):=⟨_,_,aec F14 T G_has_rule G_jobs_of G_check_letters G_line_of G_steps_of,⟨mkC,a14,i14,kcC⟩,f8 X G aC,.all (len2 fun _ _=>rfl)⟩
 have G_Order_letters:MO l.prog w K mg base 1 C "letters" ["self"] (ak2 C):=⟨_,_,aek F15 T,T.cl,⟨a15,i15,k15⟩,.all (len1 fun _=>rfl)⟩
 have G_Order_marks:MO l.prog w K mg base 1 C "marks" ["self"] (aiM C):=⟨_,_,afi F16 T,T.cl,⟨a16,i16,k16⟩,.all (len1 fun _=>rfl)⟩
 have G_Order_job:MO l.prog w K mg base 1 C "job" ["self", "piece"] (yC C):=⟨_,_,ahn F17 T,T.cl,⟨a17,i17,k17⟩,.all (len2 fun _ _=>rfl)⟩
 have G_figures_at:=d18.go X G hb fun F=>agf F T G_is_figure
 have G_part_at:=d19.go X G hb fun F=>ajO F T G_is_figure G_figures_at
 have G_cut:FO l.prog w K mg base 4 "cut" ["known", "text", "figures"] [.bl false] (sQ K):=⟨_,_,anE F20 T G_part_at,f8 X G a20,k20,[.bool false],(fun s us K4 hl=>by obtain ⟨u1,u2,rfl⟩:=arP hl;exact jR K4 rfl dl20 rfl rfl rfl),.cons rfl .nil⟩
 have G3_cut:FO l.prog w K mg base 4 "cut" ["known", "text", "figures"] [] (sQ K):=⟨_,_,anE F20 T G_part_at,f8 X G a20,k20,[],(fun s us K4 hl=>by obtain ⟨u1,u2,u3,rfl⟩:=amR hl;exact jR K4 rfl dl20 rfl rfl rfl),.nil⟩
 have G_Order_known:MO l.prog w K mg base 1 C "known" ["self"] (yL C):=⟨_,_,afk F21 T,T.cl,⟨a21,i21,k21⟩,.all (len1 fun _=>rfl)⟩
 have G_Order_steps:MO l.prog w K mg base 1 C "steps" ["self", "piece"] (sR C):=⟨_,_,afm F22 T,T.cl,⟨a22,i22,k22⟩,.all (len2 fun _ _=>rfl)⟩
 have G_parts_of:=d23.go X G hb fun F=>aia F T G3_cut G_Order_known
 have G_steps_by:=d24.go X G hb fun F=>aic F T G_is_figure G_Order_steps
 have G_add_mark:=d25.go X G hb fun F=>aie F T
 have G_add_part:=d26.go X G hb fun F=>aif F T G_steps_by G_add_mark
 have G_units:=d27.go X G hb fun F=>am6 F T G_parts_of G_add_part
 have G_looks:=d28.go X G hb fun F=>am7 F T G_units
 have G_compare:FO l.prog w K mg base 8 "compare" ["order", "one", "other", "strength"] [.int 4] (tD C):=⟨_,_,afN F29 T G_looks,f8 X G a29,k29,[.int 4 _],(fun s us K4 hl=>by obtain ⟨u1,u2,u3,rfl⟩:=aha hl;exact jR K4 rfl dl29 rfl rfl rfl),.cons ⟨_,rfl⟩ .nil⟩
 have G3_compare:FO l.prog w K mg base 8 "compare" ["order", "one", "other", "strength"] [] (tD C):=⟨_,_,afN F29 T G_looks,f8 X G a29,k29,[],(fun s us K4 hl=>by obtain ⟨u1,u2,u3,u4,rfl⟩:=als hl;exact jR K4 rfl dl29 rfl rfl rfl),.nil⟩
 have G_starts:=d30.go X G hb fun F=>alG F T
 have G_is_joint:=d31.go X G hb fun F=>aih F T G_Order_job
 have G_joints:=d32.go X G hb fun F=>alH F T G_parts_of G_starts G_is_joint
 have G_seen:=d33.go X G hb fun F=>aqf F T
 have G_count_alike:=d34.go X G hb fun F=>afn F T G_seen
 have G_ends_from:=d35.go X G hb fun F=>aho F T G_add_part G_is_joint G_seen G_count_alike
 have G_found_in:FO l.prog w K mg base 7 "found_in" ["order", "one", "other", "strength"] [.int 4] (tI C):=⟨_,_,afa F36 T G_parts_of G_units G_starts G_is_joint G_seen G_ends_from,f8 X G a36,k36,[.int 4 _],(fun s us K4 hl=>by obtain ⟨u1,u2,u3,rfl⟩:=aha hl;exact jR K4 rfl dl36 rfl rfl rfl),.cons ⟨_,rfl⟩ .nil⟩
 have G3_found_in:FO l.prog w K mg base 7 "found_in" ["order", "one", "other", "strength"] [] (tI C):=⟨_,_,afa F36 T G_parts_of G_units G_starts G_is_joint G_seen G_ends_from,f8 X G a36,k36,[],(fun s us K4 hl=>by obtain ⟨u1,u2,u3,u4,rfl⟩:=als hl;exact jR K4 rfl dl36 rfl rfl rfl),.nil⟩
 have G_l_cell_at:=d37.go X G hb fun F=>ahq F T
 have G_l_sign:=d38.go X G hb fun F=>alI F T G_l_cell_at
 have G_l_letters:=d39.go X G hb fun F=>ahr F T G_l_cell_at G_l_sign
 have G_l_part:=d40.go X G hb fun F=>alK F T
 have G_l_two:=d41.go X G hb fun F=>am9 F T G_l_sign
 have G_l_others:=d42.go X G hb fun F=>aij F T G_l_cell_at G_l_sign G_l_part G_l_two
 have G_l_rules:=d43.go X G hb fun F=>ajP F T G_l_cell_at G_l_letters G_l_two G_l_others
 have G_l_row_of:=d44.go X G hb fun F=>aik F T
 have G_l_forms:=d45.go X G hb fun F=>ajQ F T
 have G_l_makes:=d46.go X G hb fun F=>ajR F T G_l_row_of G_l_forms
 have G_l_pieces:=d47.go X G hb fun F=>ail F T
 have G_l_bare:=d48.go X G hb fun F=>alM F T
 have G_l_changed:=d49.go X G hb fun F=>ahs F T G_l_bare
 exact arU F50 T G_Order___init__ G3_compare G_joints G3_found_in G_l_cell_at G_l_rules G_l_makes G_l_pieces G_l_changed
theorem walk{l:PySem.W.OpenLaw}{q:Program}{XP:(Str->Option Value)->Heap->Prop}{YP:World->Heap->Prop}{d:DefRec}{K:Params->PySem.W.Frag}(hn:l.most=some 63)(bI:d.params.defaults=[])(hY:∀ (w:World) (h:Heap),YP w h->(K w.params).In h)(F:∀ (w:World) (mg:Str->Option Value) (fa:Addr) (h:Heap),(K w.params).In h->h.Ns mainGlobals mg->mg d.name=some (.ref fa)->
   ∃ fd:FuncData,(∀ (s:Shared) (u:Value),BindsTo s fd ⟨[u],[]⟩ [("_law_script",u)])/\∀ base:Heap,(K w.params).In base->base.Ns mainGlobals mg->FnOk l.prog w (K w.params) mg base E8 9 fa fd ["_law_script"] (spLaw (K w.params))) :
  PySem.W.WalkO q loose XP YP l.row.toRowW d [] (fun f vs=>PySem.call f vs):=
 L2.walk_of (n:=63) (k:=9) (x:="_law_script") (CX:=fun _=>E8) (sp:=fun w=>spLaw (K w.params)) hn (by decide) bI ⟨rfl,by decide,by decide,rfl⟩ hY F (fun _ _ a ns hl _ hS=>⟨a,ns,rfl,hS,hl,fun _=>rfl⟩) fun _ _ _ _ _ z=>z
end K63
open PySem PySem.W PyProof.Rows
set_option maxRecDepth 100000 in
set_option maxHeartbeats 0 in
theorem PySem.Challenge.cw_sortlore_k63_whole_found_holds : PySem.Challenge.rw_sortlore_k63_whole_found.Holds := by
 w_on;o_law;k_head;(case hw=>w_witness2)
 k_fill
 refine K63.walk (l:=PySem.Challenge.rw_sortlore_k63_whole_found) rfl rfl (fun w h zy=>PySem.W.kIn_of zy) ?F
 case F=>
  intro w mg fa h KX G oX
  refine' K63.all_mk KX G oX ?d0 ?d1 ?d2 ?d3 ?d4 ?d5 ?d6 ?d7 ?d8 ?d9 ?d10 ?d11 ?d12 ?d13 ?a14 ?i14 ?l14 ?c14 ?k14 ?a15 ?i15 ?l15 ?c15 ?k15 ?a16 ?i16 ?l16 ?c16 ?k16 ?a17 ?i17 ?l17 ?c17 ?k17 ?d18 ?d19 ?dl20 ?a20 ?l20 ?c20 ?k20 ?a21 ?i21 ?l21 ?c21 ?k21 ?a22 ?i22 ?l22 ?c22 ?k22 ?d23 ?d24 ?d25 ?d26 ?d27 ?d28 ?dl29 ?a29 ?l29 ?c29 ?k29 ?d30 ?d31 ?d32 ?d33 ?d34 ?d35 ?dl36 ?a36 ?l36 ?c36 ?k36 ?d37 ?d38 ?d39 ?d40 ?d41 ?d42 ?d43 ?d44 ?d45 ?d46 ?d47 ?d48 ?d49 ?a50 ?l50 ?c50 ?k50 ?aC ?pgC ?hdC ?poC ?saC ?mkC ?kcC ?nC_figures ?nC_behind ?nC_jobs ?nC_letter_line ?nC_mark_line ?nC_made ?z_any ?z_dict ?z_enumerate ?z_int ?z_isinstance ?z_len ?z_list ?z_min ?z_range ?z_str ?z_tuple ?z_zip ?y_JOBS ?d_JOBS ?s_JOBS ?e_JOBS_0 ?e_JOBS_1 ?e_JOBS_2 ?e_JOBS_3 ?e_JOBS_4 ?y_AGAIN ?d_AGAIN ?y_MARK ?y_LETTER ?y_FIGURES
  any_goals (refine' K63.df_mk ?da ?dl ?dc ?dk;(case da=>k_is);(case dl=>k_is);(case dc=>k_is);(case dk=>k_is))
  (case aC=>k_is)
  (case a14=>k_is)
  (case i14=>k_is)
  (case l14=>k_is)
  (case c14=>k_is)
  (case k14=>k_is)
  (case a15=>k_is)
  (case i15=>k_is)
  (case l15=>k_is)
  (case c15=>k_is)
  (case k15=>k_is)
  (case a16=>k_is)
  (case i16=>k_is)
  (case l16=>k_is)
  (case c16=>k_is)
  (case k16=>k_is)
  (case a17=>k_is)
  (case i17=>k_is)
  (case l17=>k_is)
  (case c17=>k_is)
  (case k17=>k_is)
  (case a20=>k_is)
  (case l20=>k_is)
  (case c20=>k_is)
  (case k20=>k_is)
  (case a21=>k_is)
  (case i21=>k_is)
  (case l21=>k_is)
  (case c21=>k_is)
  (case k21=>k_is)
  (case a22=>k_is)
  (case i22=>k_is)
  (case l22=>k_is)
  (case c22=>k_is)
  (case k22=>k_is)
  (case a29=>k_is)
  (case l29=>k_is)
  (case c29=>k_is)
  (case k29=>k_is)
  (case a36=>k_is)
  (case l36=>k_is)
  (case c36=>k_is)
  (case k36=>k_is)
  (case a50=>k_is)
  (case l50=>k_is)
  (case c50=>k_is)
  (case k50=>k_is)
  (case pgC=>k_is)
  (case hdC=>k_is)
  (case poC=>k_is)
  (case saC=>k_is)
  (case mkC=>k_is)
  (case kcC=>k_is)
  (case nC_figures=>k_is)
  (case nC_behind=>k_is)
  (case nC_jobs=>k_is)
  (case nC_letter_line=>k_is)
  (case nC_mark_line=>k_is)
  (case nC_made=>k_is)
  (case z_any=>k_is)
  (case z_dict=>k_is)
  (case z_enumerate=>k_is)
  (case z_int=>k_is)
  (case z_isinstance=>k_is)
  (case z_len=>k_is)
  (case z_list=>k_is)
  (case z_min=>k_is)
  (case z_range=>k_is)
  (case z_str=>k_is)
  (case z_tuple=>k_is)
  (case z_zip=>k_is)
  (case y_JOBS=>k_is)
  (case d_JOBS=>k_is)
  (case s_JOBS=>rfl)
  (case e_JOBS_0=>rfl)
  (case e_JOBS_1=>rfl)
  (case e_JOBS_2=>rfl)
  (case e_JOBS_3=>rfl)
  (case e_JOBS_4=>rfl)
  (case y_AGAIN=>k_is)
  (case d_AGAIN=>k_is)
  (case y_MARK=>k_is)
  (case y_LETTER=>k_is)
  (case y_FIGURES=>k_is)
  (case dl20=>k_is)
  (case dl29=>k_is)
  (case dl36=>k_is)
