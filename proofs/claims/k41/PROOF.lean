import PyProof.Rows.All
import Wide.All
import OpenK.AllK
import Wide.FinOn
import Lean
import PyProof.EqAt
import PyProof.EqKinds
import PyProof.TupleCall
import PySem.Challenge.RW_sortlore_k41_compared
set_option compiler.extract_closed false
open List renaming length_map → A6, length_append → C4, getElem?_eq_some_iff → G2, getElem?_eq_getElem → K8, mem_append → E1, map_append → E2, mem_singleton → F6, length_take → E9, mem_map → D8, length_singleton → N3, mem_of_getElem? → N2, mem_cons → E7, take_length → K3, length_cons → K4, mem_cons_of_mem → N4, size_toArray → M3, append_nil → K9, mem_cons_self → O0, map_cons → K5, mem_append_left → T3, mem_append_right → U7, take_append_drop → V7, append_assoc → R3, mem_filter → Q1, getElem?_map → T8, length_eq_zero_iff → j3, mem_iff_getElem → a0, nodup_cons → V8, length_drop → X1, drop_eq_getElem_cons → aG, length_nil → Y6, flatMap_append → o3, take_of_length_le → aH, mem_flatMap → g0, replicate → Y7, cons_lt_cons_iff → aI, nodup_iff_pairwise_ne → dL, getD_eq_getElem?_getD → dM, zipWith → X2, take_add_one → t9, flatMap_cons → u7, getElem?_append_right → fP, take_zero → j4, pairwise_iff_getElem → fQ, map_map → b0, foldl_append → aJ, length → Y8, find?_cons → u8, takeWhile_cons_of_pos → jH, nodup_append → bO, getElem?_append_left → jI, idxOf_lt_length_iff → jJ, getElem?_take_of_lt → jK, filter_append → dN, map_take → u9, map_congr_left → fR, filterMap_cons → fS, countP_cons → dO, mem_filterMap → fT, map_drop → aK, getElem?_eq_none → jL, mem_of_mem_take → jM, flatten_cons → fU, replicate_succ → jN, filter_cons_of_pos → mI, filter_cons_of_neg → mJ, any_cons → bP, filter_eq_nil_iff → mK, drop_of_length_le → mL, drop_eq_nil_of_le → mM, not_lt_nil → fV, length_filter_le → mN, mem_take_iff_getElem → rY, cons → o4, not_mem_nil → jO, length_pos_iff → mO, flatten_append → mP, filter_eq_self → mQ, getElem_idxOf → mR, lookup → dP, mem_range → jP, getElem?_reverse → rZ, nil_lt_cons → mS, flatMap_nil → mT, cons_append → mU, any_eq_true → mV
open Nat renaming le_refl → B5, zero_le → F9, le_trans → K6, lt_of_lt_of_le → T4, ne_of_lt → O6, lt_irrefl → g3, le_add_right → bQ, min_eq_left → bR, lt_of_le_of_lt → jQ, min_le_left → fW, lt_trichotomy → mW, min_le_right → mX
open Bool renaming false_ne_true → M4, and_eq_true → T5, eq_iff_iff → aL, false_xor → bS, not_eq_true → fX, false_eq_true → mY, not_eq_true' → mZ, false_and → jR
open PySem.F renaming plainAttrs_list → Q5, type_list_append → U8, slot_list_append → U9, slot_dict_get → jS, entry_dict_get → sA
open PySem.W renaming findIn → R4, nsIn → Q6, mg_none_of → j5, keepIn → X3, fnOf → V9, codeIn → b8, kia_one → v4, emptyDict → bT, mg_of → o5, instObj → dQ, isFn → bU, plainGet → nA
open PySem.PyData renaming eqv → P7, strOk → W0, eqvAll → Y9, depth → g4, depthAll → aM, int → bV
open PySem.NumText renaming digitsVal → bW
open Int renaming emod_lt_of_pos → o6, emod_nonneg → j6, lt_irrefl → aN, zero_add → bX
open Array renaming length_toList → fY, toList_inj → nC
set_option Elab.async false
set_option linter.all false
set_option maxRecDepth 100000
set_option hygiene false
local macro_rules
|`('a')=>`((by lia))
|`('b')=>`((model X.prog X.w))
|`('c')=>`((by simp))
|`('d')=>`((by decide +kernel))
|`('e')=>`(("great" : Str))
|`('f')=>`((hasW R "figures"))
|`('g')=>`((.inl rfl))
|`('h')=>`((by decide))
|`('i')=>`((q_add (K:=K)))
local macro_rules
|`(tactic|sleep 0)=>`(tactic|intro pins s Y H x y v u Q I rx ry h)
|`(tactic|sleep 1)=>`(tactic|intro pins s Y H Q I h)
noncomputable section
set_option genInjectivity false in
set_option genSizeOf false in
structure PySem.W.Fast where (tw1658809996489302116 tw3705632892142943091 tw6007401746214051472 tw2727828902638261703 tw5381581409599016427 tw11975465271204094593 tw13727261860522689151 tw4400120909010865410 tw10119367793184675483 tw14334565283718383084 tw11726229797276590815 tw8235704525792270992 tw13044362929818936090 tw14665272248111525447 tw9087368943371470026 tw14901051283026245404 tw911339187004516615 tw15135123839600300053 tw10712760022022325293 tw13975986648272197612 tw8126987190688920942 tw1442613296731293570 tw11658369469706784955 tw11472682645859538889 tw17950163498844271449 tw7924002211301713219 tw10872528439144652594 tw8970503824641466880 tw16910771111846481845 tw4493869523346104314 tw4654200943411312236 tw18268997956959729878 tw5207688720021883873 tw17334362188666812231 tw3532172741744289644 tw10987137081758691507 tw13369264660017326830 tw8273228032592397756 tw6383120252304285921
tw1283961591062501471 tw14287001847755869142 tw15316530249973066843 tw16851880464114689210 tw15987554689923483634 tw2185265833311550508 tw99680767670471923 tw2242618061427454899 tw9592439076407728017 tw13867666009355999291 tw9095669769143558154 tw9585914414932957868 tw8712541386626847070 tw7076320456027676570 tw9948687493454205243 tw15399620111207765559 tw13608741424637893926 tw10580623074325127945 tw733106671211881555 tw1285890472809265156 tw17182223568202758565 tw16393452068907094828 tw2549335884723058583 tw5843928486370293667 tw5742047820253719314 tw13997776181856838320 tw15604350159672832131 tw9494671019196944337 tw9331586470068055028 tw14400811605783600155 tw4472402366957867723 tw2174229147612573687 tw14055503876383955024 tw2804234034192537833 tw11423220726296003807 tw11679968410773592042 tw4430414267347811763 tw3716790327530804626 tw13815059964349895034 tw3736348691089484924
tw12802873620268678618 tw380460026554051663 tw5342765592886851948 tw1591353981630494026 tw18137130528909275413 tw13000916970717418289 tw13211458915237093330 tw3768002016990735744 tw7452291570913445911 tw2570659982358929737 tw12080094275699452938 tw13983829388843660151 tw1706550638662774098 tw16065568136452827569 tw7353500646610160421 tw3442653096355975189 tw7907801338951430442 tw8619255794182545240 tw1778855671730043423 tw1949408902835190264 tw15402637141227459024 tw18163517112013537271 tw1908449155819826303 tw13769008874489803087 tw2323793647235712195 tw7248437813095418287 tw14006744507034963026 tw5686271990271210466 tw10543951394932051887 tw4399834337859073226 tw13351354914078350773 tw14913063767857212785 tw3636400221198364730 tw2279616866987439326 tw16949957151423899841 tw17274375241634222458 tw12272710617403663359 tw6884791787168656051 tw4277281559832953276 tw1963665824319396737
tw8417588130956760606 tw18347100553871251789 tw737160728509504802 tw12119165544945073780 tw7888369012373226798 tw8931389977737872176 tw7244347675014683813 tw10055642525470452444 tw14081706760760805193 tw4172034525231464964 tw2971000000181095832 tw10711089184882548556 tw1531172468158377878 tw5392991604639573495 tw8728282751144333028 tw6712567478944471782 tw16896546711242136805 tw7729363886991271433 tw10190020884348383749 tw5867293849795623222 tw291926635569318918 tw16001170255337122339 tw17108051572349008349 tw4032524953629963846 tw14689242879224806611 tw9076222557526452284 tw16817607678019162888 tw9072312110826815153 tw14130329597649283377 tw14240780253543855476 tw9145004225768680487 tw5178526724316257336 tw15911782783020620988 tw15736303681544113903 tw1498279738416198148 tw5092038004077954623 tw14436258114977791782 tw8090272416578092762 tw15884990989700556838 tw3772986182146219048
tw11854408146551785056 tw9178979805083328017 tw10224990697045567881 tw276246169623540433 tw4821470988594135380 tw1402675090052216555 tw465387075966000554 tw14307376762228904231 tw12326745492075039406 tw13628668085334105792 tw7535834872967724924 tw17684308824922033605 tw3267952362796053213 tw3620409629041383092 tw11502865937989934626 tw2074866983669980636 tw8149315653285442416 tw17478016632162237389 tw7902320723667234346 tw13797638282304885741 tw4320143060693835195 tw1896812028391865213 tw1167064116889158214 tw11648821923327327128 tw17102621408921592688 tw14872489071427684823 tw18423439372045446135 tw16465152705216526353 tw14345557782632756203 tw17041312593761033624 tw5317902569611444585 tw4302932803653787896 tw12671164391270350065 tw6814534050416021074 tw8910873827297561509 tw3530566791083427 tw10142322043106878448 tw3396837030585772256 tw631753329802307835 tw5952401691404614787
tw13773540678061615123 tw14307461527281583845 tw18352356401922336562 tw6113079670952164237 tw7726854657431978489 tw1530617212838465955 tw12256775799551668121 tw3859005710114320689 tw2848697943662764671 tw18376892717522843026 tw10384643195646072396 tw9014154392634556646 tw4017196301290332210 tw3526004869681215125 tw14791839008287281073 tw378214835770333458 tw16023121125149762233 tw17148621888435201149 tw2349874193185382061 tw2405473395161078706 tw8653537561156752905 tw16066026448683376592 tw2562050713156857197 tw4292665805243015171 tw445992073829323515 tw488021763620848295 tw2665293595665263709 tw12117643730926739219 tw7790831332456143600 tw12641249206665004371 tw17359068795399104384 tw12160783355524579986 tw876490424653097000 tw17637729809583158732 tw2226922677852865011 tw18341196401279591063 tw1403794890850768838 tw10028023427633953196 tw7365150922846112555 tw12730607012587760844
tw16006993520636938080 tw9002631482257810822 tw17106838619836639771 tw13879173438369921383 tw3633021553159100961 tw539823133222034798 tw9408894219166557060 tw3393381246544801651 tw7029950893047149650 tw10114383096372059528 tw13043262318587229668 tw11912204119061905637 tw8062577835388267869 tw3447600775675286603 tw2166457579851590797 tw16868187549720440952 tw3505733852151877559 tw15398996141753483078 tw5843233675773162793 tw12419710827148800385 tw1917588659021412847 tw7515733517938012067 tw13530694049951609674 tw12365197396815202610 tw11354433000578853938 tw222400444045300248 tw10082027087291667140 tw54443017655424388 tw9689414645175748690 tw14899256788391048494 tw15802317498269107668 tw14176430304305240071 tw17342125714025125713 tw16449158790454341923 tw5085603240021785595 tw9558786543837793179 tw14801337724052952940 tw7734886800025860683 tw13559413237397490220 tw2006945274997436648
tw4671662820424581771 tw1472266956923205029 tw3902924469122047546 tw10652890292695902745 tw13131719711510163671 tw2694526871371684422 tw17046669962096782176 tw5318054660637963963 tw170358045922281201 tw5838419276849243206 tw15658528073458077184 tw17083141715727762318 tw8516276925435738503 tw5857922514076477767 tw3294268838924661378 tw11871631076790072099 tw5137277493449471568 tw13231485217554671105 tw13279470570183866284 tw4864482269287039091 tw14080761065757574699 tw6753614415377482694 tw13510215329974080624 tw8750705188695252907 tw10807733102284899051 tw15705527818579955948 tw9704729304214004009 tw1636376730269409080 tw6497418263899387744 tw12971149489812168330 tw1957489620994797026 tw15235020011353916723 tw1332633031682531090 tw11533064333557600601 tw15964816593833575019 tw2072048420879304534 tw5503171564894101700 tw4257919127805878459 tw5908459854982284735 tw8674407060760145977
tw14811732777505582428 tw5587116306882494914 tw6884442710638249361 tw9757847562671364986 tw11895408951969279204 tw714661852420743011 tw12036936365540298915 tw5919305682640753322 tw17311734003895992219 tw6978684971939242477 tw14874112023013926118 tw6328683827628733008 tw17594931611137584077 tw16678762199465936451 tw14840171524698597646 tw11047204472106330568 tw11614794553435915460 tw14360666447957093471 tw14657815883692568719 tw9367619485896729314 tw8254246302804850550 tw525517554521735950 tw2188621168772492892 tw12515419250112350577 tw18251852759931365100 tw10989353846972294223 tw912814747545209022 tw7165985941342475149 tw7534475888681126843 tw4286111472110375878 tw12807184758329742996 tw11786921228029592492 tw2095697046518939358 tw13213047634039465739 tw1986456275689184391 tw2855350538012264069 tw5279602035274969301 tw1154898819443431696 tw8694647039367270490 tw10458968890279990556
tw438118452139264166 tw10969750656649440231 tw7693920926221072282 tw16698590999957413746 tw16799507678449929325 tw9264196352072414321 tw1994518882248549304 tw17214520443105842709 tw10986311768778016218 tw17130590853027963940 tw6834987245476729714 tw6463182103246014298 tw8369140388496820199 tw12858619028916685651 tw5435774079996679519 tw4286625629924959666 tw4941457790358064346 tw3144632782567043818 tw3097284755479651266 tw11555992805830057253 tw122715656163395385 tw6170948147803927410 tw17979857801195200767 tw16351604699134819104 tw14656840046922705991 tw16342387194122014895 tw8483591850844138133 tw14064466491210814389 tw5962001423472528565 tw1131603049020528300 tw101742607344317490 tw10641109230942268886 tw6465418658115441054 tw9318792755142597554 tw8593584767271435006 tw7035757195102679056 tw17187322267844784231 tw11077747873776377 tw14280323792251247481 tw9199530780078067973
tw9932962267438313227 tw16805994230512994667 tw14712396285785756949 tw10655740054292684700 tw10996724044747744962 tw5659832072380949525 tw14714379441548055777 tw204086301065077453 tw8595749775892669585 tw15021291585907786822 tw15527074004134311719 tw8416714162631593109 tw12592590535308833986 tw10301400952516317651 tw1801002767648246462 tw2687567901119411524 tw17955632817241296879 tw3121792753692799938 tw12633899271243717777 tw6328724302847973116 tw12429056974918266537 tw12561863101600516500 tw4815923457130433864 tw2670809242839399319 tw12696042868082552599 tw7111468661207855351 tw12924061087302231727 tw15632942366098670991 tw3924268604107338466 tw15904445860361497379 tw5513436414755693576 tw15070889532269644466 tw6717492402305687402 tw7782008067788777505 tw5945245614847503486 tw791802516886023316 tw7512963365471307757 tw8361368841202647159 tw14579713378715639053 tw11976885004889299602
tw13599287491196217428 tw7040547362489666817 tw2196436905118114051 tw2319722279434080010 tw1082194193381575648 tw6109345788947990119 tw15983790410685771019 tw9096684460391679463 tw9639029209928615831 tw12220055158972318757 tw3733726726222995193 tw10229425726772069427 tw8646242895157726373 tw17569505050909724119 tw3683904165900073770 tw1581468796865713639 tw16986798854608204435 tw17884821188340589352 tw14689736607531096609 tw7302024857606026210 tw15516624256674343367 tw16832153822191194202 tw212444132900255627 tw10592858986742361019 tw13744880299413871449 tw6675175256969051137 tw9622060194304895662 tw16546161007608292679 tw8052104623996351931 tw12488456674690959732 tw15968703736251472348 tw7996303368466621094 tw4811031017098722970 tw16678475315473728639 tw9680857291485276874 tw13082570296733742593 tw1897759344185385341 tw13698801491402824677 tw3933337461307312548 tw14151028394091427755
tw9977898950740167341 tw17204472540544731470 tw1615046548347824692 tw244343874958227365 tw15853629331168088028 tw17937065657866480094 tw6439372258204649415 tw8178589270989364527 tw1277957132154484186 tw11965141718676958781 tw6945709105580628808 tw12547435890204979782 tw15625069007803211152 tw17169856245696935548 tw13236569174260221674 tw7243110658594352937 tw10828665525833054501 tw10611683075684926698 tw11463374554216318381 tw3430425611234810551 tw14490472388028711937 tw4478739683128810886 tw5877083588370642871 tw11607680009791418891 tw11471946601502099210 tw13647958056990828935 tw17175633801438666198 tw6436501449768843293 tw14881493602881782287 tw11405180596045015997 tw7019261240271877067 tw9679333919146537399 tw3645198922090658473 tw6078526082034094050 tw7695852329803661327 tw13387955099704504481:Nat)
namespace L2
open PySem PySem.Spec PyProof.Rows
noncomputable abbrev C5:=Sum Int Str
noncomputable def keyIs:C5->Value->Bool
 | .inl k,v=>Value.isInt k v
 | .inr x,v=>Value.isStrOf x v
noncomputable def keyH (w:World):C5->Int
 | .inl k=>hashInt k
 | .inr x=>hashStr w x
theorem v6:∀ {k:C5} {v:Value},keyIs k v=true->(∃ i t,k=Sum.inl i/\v=Value.int i t)\/(∃ x t,k=Sum.inr x/\v=Value.str x t)
 | .inl i,v,h=>by
  obtain ⟨t,e⟩:=Value.isInt_shape (k:=i) (v:=v) h;exact .inl ⟨i,t,rfl,e⟩
 | .inr x,v,h=>by
  obtain ⟨t,e⟩:=Value.isStrOf_shape (x:=x) (v:=v) h;exact .inr ⟨x,t,rfl,e⟩
theorem ajJ(i:Int)(t:Tok):keyIs (.inl i) (.int i t)=true:=by simp [keyIs,Value.isInt]
theorem jT(x:Str)(t:Tok):keyIs (.inr x) (.str x t)=true:=by simp [keyIs,Value.isStrOf]
theorem ao1(a b:Int):decide ((Sum.inl a:C5)=Sum.inl b)=(a==b):=by
 by_cases e:a=b
 .subst e;simp
 .have h:¬ (Sum.inl a:C5)=Sum.inl b:=fun q=>e (Sum.inl.inj q)
  rw [decide_eq_false h];exact (beq_eq_false_iff_ne.mpr e).symm
theorem ao2(a b:Str):decide ((Sum.inr a:C5)=Sum.inr b)=decide (a=b):=by
 by_cases e:a=b
 .subst e;simp
 .have h:¬ (Sum.inr a:C5)=Sum.inr b:=fun q=>e (Sum.inr.inj q)
  rw [decide_eq_false h,decide_eq_false e]
theorem ao3(a:Int)(b:Str):decide ((Sum.inl a:C5)=Sum.inr b)=false:=decide_eq_false (fun q=>nomatch q)
theorem ao4(a:Str)(b:Int):decide ((Sum.inr a:C5)=Sum.inl b)=false:=decide_eq_false (fun q=>nomatch q)
noncomputable def P9 (prog:Program) (w:World):PySem.KeyKind prog w C5 where
 is:=keyIs
 hash:=keyH w
 inj:=fun v a b ha hb=>by
  rcases v6 ha with ⟨i,t,rfl,rfl⟩ | ⟨x,t,rfl,rfl⟩
  .rcases v6 hb with ⟨j,u,rfl,e⟩ | ⟨y,u,rfl,e⟩
   .injection e with e1 _;rw [e1]
   .exact nomatch e
  .rcases v6 hb with ⟨j,u,rfl,e⟩ | ⟨y,u,rfl,e⟩
   .exact nomatch e
   .injection e with e1 _;rw [e1]
 byValue:=fun k v h=>by
  rcases v6 h with ⟨i,t,rfl,rfl⟩ | ⟨x,t,rfl,rfl⟩ <;> rfl
 pyHash:=fun hv h=>by
  rcases v6 hv with ⟨i,t,rfl,rfl⟩ | ⟨x,t,rfl,rfl⟩
  .exact wpAny_pyHash_int h
  .exact wpAny_pyHash_str h
 eqBool:=fun hu hv h=>by
  rcases v6 hu with ⟨i,t,rfl,rfl⟩ | ⟨x,t,rfl,rfl⟩
  .rcases v6 hv with ⟨j,u,rfl,rfl⟩ | ⟨y,u,rfl,rfl⟩
   .rw [ao1] at h;exact wpAny_eqBool_int h
   .rw [ao3] at h;exact SeqAt.EqAt.int_str i t y u _ _ _ _ h
  .rcases v6 hv with ⟨j,u,rfl,rfl⟩ | ⟨y,u,rfl,rfl⟩
   .rw [ao4] at h;exact SeqAt.EqAt.str_int x t j u _ _ _ _ h
   .rw [ao2] at h;exact wpAny_eqBool_str h
 «strs»:=fun k x t v h=>by
  rcases v6 h with ⟨i,u,rfl,e⟩ | ⟨y,u,rfl,e⟩
  .exact nomatch e
  .injection e with e1 _
   subst e1
   cases v <;> rfl
theorem aho(prog:Program)(w:World)(i:Int)(t:Tok):(P9 prog w).is (.inl i) (.int i t)=true:=ajJ i t
theorem ahp(prog:Program)(w:World)(x:Str)(t:Tok):(P9 prog w).is (.inr x) (.str x t)=true:=jT x t
inductive V where
 | non | bl (b:Bool) | int (i:Int) | str (x:Str) | byt (b:Array UInt8) | flt (b:UInt64) | ref (a:Addr) | ty (n:String)
 deriving DecidableEq
noncomputable def RelV:V->Value->Prop
 | .non,u=>u=Value.none
 | .bl b,u=>u=Value.bool b
 | .int i,u=>∃ t,u=Value.int i t
 | .str x,u=>∃ t,u=Value.str x t
 | .byt b,u=>∃ t,u=Value.bytes b t
 | .flt b,u=>∃ t,u=Value.float b t
 | .ref a,u=>u=Value.ref a
 | .ty n,u=>u=Value.type n
noncomputable abbrev Vals:List V->List Value->Prop:=Paired RelV
theorem Vals.length{xs:List V}{us:List Value}(r:Vals xs us):xs.length=us.length:=Paired.length r
theorem Vals.get:∀ {xs:List V} {us:List Value} {i:Nat} {x:V},Vals xs us->xs[i]?=some x->∃ u,us[i]?=some u/\RelV x u
 | _,_,_,_,.nil,e=>by simp at e
 | _,_,0,_,.cons r _,e=>by simp at e;subst e;exact ⟨_,rfl,r⟩
 | _,_,i+1,x,.cons _ t,e=>by
  obtain ⟨u,h1,h2⟩:=Vals.get (i:=i) (x:=x) t (by simpa using e);exact ⟨u,by simpa using h1,h2⟩
theorem Vals.set{x:V}{u:Value}(r:RelV x u):∀ {xs:List V} {us:List Value} (i:Nat),Vals xs us->Vals (xs.set i x) (us.set i u)
 | _,_,_,.nil=>.nil
 | _,_,0,.cons _ t=>.cons r t
 | _,_,i+1,.cons q t=>.cons q (Vals.set r i t)
theorem Vals.append:∀ {xs ys:List V} {us ws:List Value},Vals xs us->Vals ys ws->Vals (xs++ys) (us++ws)
 | _,_,_,_,.nil,s=>s
 | _,_,_,_,.cons r t,s=>.cons r (Vals.append t s)
theorem Vals.take:∀ {xs:List V} {us:List Value} (n:Nat),Vals xs us->Vals (xs.take n) (us.take n)
 | _,_,0,_=>.nil
 | _,_,_+1,.nil=>.nil
 | _,_,n+1,.cons r t=>.cons r (Vals.take n t)
theorem Vals.drop:∀ {xs:List V} {us:List Value} (n:Nat),Vals xs us->Vals (xs.drop n) (us.drop n)
 | _,_,0,r=>r
 | _,_,_+1,.nil=>.nil
 | _,_,n+1,.cons _ t=>Vals.drop n t
theorem Vals.none_of:∀ {xs:List V} {us:List Value} {i:Nat},Vals xs us->xs[i]?=none->us[i]?=none:=fun {xs us i} r e=>by
 have h1:=r.length;have h2:xs.length<=i:=List.getElem?_eq_none_iff.mp e;exact List.getElem?_eq_none_iff.mpr 'a'
noncomputable def RelO:Option V->Option Value->Prop
 | some v,some u=>RelV v u
 | none,none=>True
 | _,_=>False
noncomputable def KV {κ:Type} : List (κ×V)->List (κ×Value)->Prop:=Paired fun (p:κ×V) (q:κ×Value)=>p.1=q.1/\RelV p.2 q.2
noncomputable def kV:C5->V
 | .inl i=>.int i
 | .inr x=>.str x
inductive HO where
 | lst (xs:List V)
 | tup (xs:List V)
 | dK (kvs:List (C5×V)) | dT (kvs:List (List C5×V))
 | set (S:Int->Bool) (n:Nat)
 | ins (C dx:Addr) (fs:List (Str×V))
 | own (x:Addr)
 | xd (fs:List (Str×V))
 | met (f x:Addr)
 | rng (lo hi:Int)
 | frz (o:Obj) (u:HO)
 | tbl (ps:Array Value)
 | ext (φ:Heap->Prop)
noncomputable abbrev Hp:=Addr->Option HO
noncomputable def A0 (H:Hp) (a:Addr) (o:HO):Hp:=fun b=>if b=a then some o else H b
theorem A5{H:Hp}{a:Addr}{o:HO} : A0 H a o a=some o:=by unfold A0;rw [if_pos rfl]
theorem B1{H:Hp}{a b:Addr}{o:HO}(h:b≠a):A0 H a o b=H b:=by unfold A0;rw [if_neg h]
theorem ne_of{H:Hp}{a b:Addr}{o u:HO}(h:H a=some o)(h':H b=some u)(d:o≠u):a≠b:=by
 intro e;subst e;rw [h] at h';exact d (Option.some.inj h')
theorem bY{H:Hp}{a b:Addr}{o:HO}(h:H a=some o)(h':H b=none):a≠b:=by
 intro e;subst e;rw [h] at h';cases h'
section
variable (P:Program) (w:World)
noncomputable def ObjOk (H:Hp) (h:Heap) (a:Addr):HO->Prop
 | .lst xs=>xs.length<=sizeLine/\∃ (its:List Value) (n:Nat),Vals xs its/\h.get? a=some { cls:=.type "list",data:=.seq its.toArray n }
 | .tup xs=>xs.length<=sizeLine/\∃ its:List Value,Vals xs its/\IsTup h a its.toArray
 | .dK kvs=>kvs.length<=sizeLine/\(a==sysModules)=false/\∃ vs,KV kvs vs/\h.DictOf (P9 P w) a vs
 | .dT kvs=>kvs.length<=sizeLine/\(a==sysModules)=false/\∃ xs:List (List C5×Addr×Value),
   Paired (fun (p:List C5×V) (q:List C5×Addr×Value)=>p.1=q.1/\H q.2.1=some (.tup (p.1.map kV))/\RelV p.2 q.2.2) kvs xs/\
   ∃ o es ep,h.get? a=some o/\o.ExactDict/\o.data=.dict es ep/\es.toList=xs.map (entryOfKey (tupleKind (P9 P w)))/\(xs.map (·.1)).Nodup
 | .set S n=>h.SetOf (intKind P w) a S n
 | .ins C dx fs=>H dx=some (.own a)/\fs.length<=1000/\dx≠a/\h.get? a=some (dQ C dx)/\
   ∃ mA,h.Ns1 dx mA/\(∀ f,RelO (fs.lookup f) (mA f))/\PySem.Within mA (fs.map (·.1))
 | .own _=>∃ o,h.get? a=some o
 | .xd fs=>∃ mA,h.Ns1 a mA/\∀ f,RelO (fs.lookup f) (mA f)
 | .rng lo hi=>∃ t u v,h.get? a=some { cls:=.type "range",data:=.fields #[.int lo t,.int hi u,.int 1 v] }
 | .frz o u=>h.get? a=some o/\ObjOk H h a u
 | .tbl ps=>h.get? a=some { cls:=.none,data:=.fields ps }
 | .met f x=>h.get? a=some (PySem.W.methodObj (.ref f) (.ref x))
 | .ext φ=>φ h/\(∃ o,h.get? a=some o)/\∀ h1 h2:Heap,φ h1->(∀ o,h1.get? a=some o->h2.get? a=some o)->φ h2
noncomputable def O1 (H:Hp) (h:Heap):Prop:=∀ a o,H a=some o->ObjOk P w H h a o
end
section
variable {P:Program} {w:World} {H H':Hp} {h h':Heap} {a:Addr} {o:HO}
theorem ObjOk.lt(x:ObjOk P w H h a o):a<h.objs.size:=by
 cases o with
 | lst xs=>obtain ⟨_,_,_,_,e⟩:=x;exact Heap.lt_size e
 | tup xs=>obtain ⟨_,_,_,p⟩:=x;exact p.lt
 | dK kvs=>obtain ⟨_,_,_,_,o,_,_,e,_⟩:=x;exact Heap.lt_size e
 | dT kvs=>obtain ⟨_,_,_,_,o,_,_,e,_⟩:=x;exact Heap.lt_size e
 | set S n=>obtain ⟨o,_,_,_,e,_⟩:=x;exact Heap.lt_size e
 | ins C dx fs=>obtain ⟨_,_,_,e,_⟩:=x;exact Heap.lt_size e
 | own y=>obtain ⟨_,e⟩:=x;exact Heap.lt_size e
 | xd fs=>obtain ⟨_,⟨_,_,_,e,_⟩,_⟩:=x;exact Heap.lt_size e
 | rng lo hi=>obtain ⟨_,_,_,e⟩:=x;exact Heap.lt_size e
 | frz ob u=>obtain ⟨e,_⟩:=x;exact Heap.lt_size e
 | tbl ps=>exact Heap.lt_size (show h.get? a=some _ from x)
 | met f y=>exact Heap.lt_size (show h.get? a=some _ from x)
 | ext φ=>obtain ⟨_,⟨_,e⟩,_⟩:=x;exact Heap.lt_size e
theorem M5{α β:Type}{F G:α->β->Prop} : ∀ {l₁:List α} {l₂:List β},Paired F l₁ l₂->(∀ a b,F a b->G a b)->Paired G l₁ l₂
 | _,_,.nil,_=>.nil
 | _,_,.cons r t,f=>.cons (f _ _ r) (M5 t f)
theorem ObjOk.stay(x:ObjOk P w H h a o)(k:∀ b u,(b=a\/H b=some (.own a))->h.get? b=some u->h'.get? b=some u)(ho:∀ b,H b=some (.own a)->H' b=some (.own a))(ht:∀ b xs,H b=some (.tup xs)->H' b=some (.tup xs)):ObjOk P w H' h' a o:=by
 induction o with
 | lst xs=>obtain ⟨z,its,n,r,e⟩:=x;exact ⟨z,its,n,r,k _ _ 'g' e⟩
 | tup xs=>obtain ⟨z,its,r,ob,e,c⟩:=x;exact ⟨z,its,r,ob,k _ _ 'g' e,c⟩
 | dK kvs=>obtain ⟨z,y,vs,r,ob,es,ep,e,c⟩:=x;exact ⟨z,y,vs,r,ob,es,ep,k _ _ 'g' e,c⟩
 | dT kvs=>
  obtain ⟨z,y,xs,r,ob,es,ep,e,c⟩:=x;exact ⟨z,y,xs,M5 r fun p q z=>⟨z.1,ht _ _ z.2.1,z.2.2⟩,ob,es,ep,k _ _ 'g' e,c⟩
 | set S n=>obtain ⟨ob,es,ep,t,e,c⟩:=x;exact ⟨ob,es,ep,t,k _ _ 'g' e,c⟩
 | ins C dx fs=>
  obtain ⟨d,z,ne,e,mA,⟨od,es,ep,e2,c⟩,r⟩:=x;exact ⟨ho _ d,z,ne,k _ _ 'g' e,mA,⟨od,es,ep,k _ _ (.inr d) e2,c⟩,r⟩
 | own y=>obtain ⟨ob,e⟩:=x;exact ⟨ob,k _ _ 'g' e⟩
 | xd fs=>obtain ⟨mA,⟨od,es,ep,e,c⟩,r⟩:=x;exact ⟨mA,⟨od,es,ep,k _ _ 'g' e,c⟩,r⟩
 | rng lo hi=>obtain ⟨t,u,v,e⟩:=x;exact ⟨t,u,v,k _ _ 'g' e⟩
 | frz ob u ih=>obtain ⟨e,q⟩:=x;exact ⟨k _ _ 'g' e,ih q⟩
 | tbl ps=>
  have e:h.get? a=some { cls:=.none,data:=.fields ps }:=x;show h'.get? a=some { cls:=.none,data:=.fields ps };exact k a _ 'g' e
 | met f y=>
  have e:h.get? a=some (PySem.W.methodObj (.ref f) (.ref y)):=x;show h'.get? a=some (PySem.W.methodObj (.ref f) (.ref y));exact k a _ 'g' e
 | ext φ=>obtain ⟨p,⟨o,e⟩,st⟩:=x;exact ⟨st _ _ p fun o q=>k _ _ 'g' q,⟨o,k _ _ 'g' e⟩,st⟩
theorem O1.lt(x:O1 P w H h)(e:H a=some o):a<h.objs.size:=(x a o e).lt
theorem O1.fresh(x:O1 P w H h)(e:h.objs.size<=a):H a=none:=by
 cases q:H a with
 | none=>rfl
 | some u=>exact absurd (T4 (x.lt q) e) (g3 _)
theorem O1.kept(x:O1 P w H h)(k:∀ b u,h.get? b=some u->h'.get? b=some u):O1 P w H h':=fun a o e=>
 (x a o e).stay (fun b u _ q=>k b u q) (fun _ q=>q) fun _ _ q=>q
theorem O1.laid(x:O1 P w H h)(k:∀ b u,h.get? b=some u->h'.get? b=some u)(hp:h.objs.size<=a)(new:ObjOk P w (A0 H a o) h' a o):O1 P w (A0 H a o) h':=fun b u e=>by
 have hn:=x.fresh hp
 by_cases hb:b=a
 .subst hb;rw [A5] at e;cases e;exact new
 .rw [B1 hb] at e;exact (x b u e).stay (fun c v _ q=>k c v q) (fun c q=>by rw [B1 (bY q hn)];exact q) fun c xs q=>by rw [B1 (bY q hn)];exact q
end
noncomputable def Rd (H:Hp) (a:Addr) (u:HO):Prop:=H a=some u\/∃ o,H a=some (.frz o u)
theorem Rd.of{H:Hp}{a:Addr}{u:HO}(h:H a=some u):Rd H a u:=.inl h
theorem Rd.ok{P:Program}{w:World}{H:Hp}{h:Heap}{a:Addr}{u:HO}(r:Rd H a u)(x:O1 P w H h):ObjOk P w H h a u:=by
 rcases r with r | ⟨o,r⟩
 .exact x a u r
 .obtain ⟨_,q⟩:=x a _ r;exact q
noncomputable def nE:Option HO->Prop
 | some (.lst _)=>True
 | some (.dK _)=>True
 | some (.dT _)=>True
 | some (.set _ _)=>True
 | some (.ins _ _ _)=>True
 | some (.ext _)=>True
 | _=>False
section
variable {P:Program} {w:World} {H:Hp} {h h':Heap} {x e:Addr} {o':HO}
theorem O1.write(ok:O1 P w H h)(mu:nE (H x))(he:e=x\/H e=some (.own x))(k:∀ b u,b≠e->h.get? b=some u->h'.get? b=some u)(lO:∃ u,h'.get? e=some u)(new:ObjOk P w (A0 H x o') h' x o'):O1 P w (A0 H x o') h':=fun b u q=>by
 have nown:∀ c y,H c=some (.own y)->c≠x:=fun c y r z=>by subst z;rw [r] at mu;exact mu
 have ntup:∀ c xs,H c=some (.tup xs)->c≠x:=fun c xs r z=>by subst z;rw [r] at mu;exact mu
 by_cases hb:b=x
 .subst hb;rw [A5] at q;cases q;exact new
 .rw [B1 hb] at q
  by_cases iI:b=e
  .have q':H b=some (.own x):=by
    rcases he with z | z
    .exact absurd (iI.trans z) hb
    .rw [iI];exact z
   rw [q] at q';cases q';obtain ⟨v,hv⟩:=lO;exact ⟨v,by rw [iI];exact hv⟩
  .refine (ok b u q).stay (fun c v hc r=>k c v ?_ r) (fun c r=>by rw [B1 (nown c b r)];exact r) fun c xs r=>by rw [B1 (ntup c xs r)];exact r
   rcases hc with rfl | hc
   .exact iI
   .rintro rfl
    rcases he with z | z
    .exact nown c b hc z
    .rw [hc] at z;cases z;exact hb rfl
end
structure Un(fs ex:List Addr)(H H':Hp)(h h':Heap):Prop where
 keep:∀ b o,h.get? b=some o->H b=none->b∉fs->b∉ex->h'.get? b=some o
 slot:∀ b o,h.get? b=some o->H b=none->b∈fs->b∉ex->∃ sl,h'.get? b=some { o with slots:=sl }
 free:∀ b o,h.get? b=some o->H b=none->b∉ex->H' b=none
 there:∀ b o,h.get? b=some o->b∉ex->∃ o',h'.get? b=some o'
 tups:∀ b xs,H b=some (.tup xs)->H' b=some (.tup xs)
 frzs:∀ b o u,H b=some (.frz o u)->H' b=some (.frz o u)
 tbls:∀ b ps,H b=some (.tbl ps)->∃ more,H' b=some (.tbl (ps++more))
section
variable {fs fs' ex ex':List Addr} {H H1 H2:Hp} {h h1 h2 h':Heap} {a x e:Addr} {o:HO}
theorem Un.any(u:Un fs ex H H1 h h1){b:Addr}{ob:Obj}(q:h.get? b=some ob)(n:H b=none)(hx:b∉ex):∃ sl,h1.get? b=some { ob with slots:=sl }:=by
 by_cases hb:b∈fs
 .exact u.slot b ob q n hb hx
 .exact ⟨ob.slots,u.keep b ob q n hb hx⟩
theorem Un.kept(k:∀ b u,h.get? b=some u->h'.get? b=some u):Un fs ex H H h h':=
 ⟨fun b ob q _ _ _=>k b ob q,fun b ob q _ _ _=>⟨ob.slots,k b ob q⟩,fun _ _ _ n _=>n,fun b ob q _=>⟨ob,k b ob q⟩,fun _ _ q=>q,fun _ _ _ q=>q,fun _ ps q=>⟨#[],by rw [q];simp⟩⟩
theorem uac:Un fs ex H H h h:=Un.kept fun _ _ q=>q
theorem Un.laid(k:∀ b u,h.get? b=some u->h'.get? b=some u)(hp:h.objs.size<=a)(hn:H a=none):Un fs ex H (A0 H a o) h h' where
 keep:=fun b u q _ _ _=>k b u q
 slot:=fun b u q _ _ _=>⟨u.slots,k b u q⟩
 free:=fun b u q n _=>by rw [B1 (O6 (T4 (Heap.lt_size q) hp))];exact n
 there:=fun b u q _=>⟨u,k b u q⟩
 tups:=fun b xs q=>by rw [B1 (bY q hn)];exact q
 frzs:=fun b u xs q=>by rw [B1 (bY q hn)];exact q
 tbls:=fun b ps q=>⟨#[],by rw [B1 (bY q hn),q];simp⟩
theorem Un.write(mu:nE (H x))(he:e=x\/H e=some (.own x))(k:∀ b u,b≠e->h.get? b=some u->h'.get? b=some u)(lO:∃ u,h'.get? e=some u):Un fs ex H (A0 H x o) h h':=by
 have hx:∀ b,H b=none->b≠x:=fun b n z=>by subst z;rw [n] at mu;exact mu
 have hb:∀ b,H b=none->b≠e:=fun b n z=>by
  subst z
  rcases he with r | r
  .exact hx b n r
  .rw [n] at r;cases r
 have hm:∀ b u,H b=some u->¬ nE (some u)->b≠x:=fun b u q nm z=>by subst z;rw [q] at mu;exact nm mu
 refine ⟨fun b u q n _ _=>k b u (hb b n) q,fun b u q n _ _=>⟨u.slots,k b u (hb b n) q⟩,fun b u q n _=>by rw [B1 (hx b n)];exact n,fun b u q _=>?_,
  fun b xs q=>by rw [B1 (hm b _ q fun z=>z)];exact q,fun b u xs q=>by rw [B1 (hm b _ q fun z=>z)];exact q,fun b ps q=>⟨#[],by rw [B1 (hm b _ q fun z=>z),q];simp⟩⟩
 by_cases iI:b=e
 .subst iI;exact lO
 .exact ⟨u,k b u iI q⟩
end
noncomputable def sB (h:Heap) (H:Hp):List Addr:=(List.range h.objs.size).filter fun a=>(H a).isSome
noncomputable def hidT (h:Heap) (H:Hp):Heap:=PySem.W.hideAll h (sB h H)
theorem ajK(h:Heap)(H:Hp):(hidT h H).objs.size=h.objs.size:=PySem.W.hideAll_size _ _
theorem alz{h:Heap}{H:Hp}{b:Addr}{o:Obj}(e:h.get? b=some o)(n:H b=none):(hidT h H).get? b=some o:=
 PySem.W.hideAll_get _ e fun hm=>by
  have q:(H b).isSome=true:=(Q1.mp hm).2;rw [n] at q;simp at q
theorem ano{h:Heap}{H:Hp}{b:Addr}{o:Obj}(e:(hidT h H).get? b=some o):h.get? b=some o/\H b=none:=by
 have e':h.get? b=some o:=PySem.W.of_hideAll (sB h H) e;refine ⟨e',?_⟩
 cases q:H b with
 | none=>rfl
 | some x=>
  have hm:b∈sB h H:=Q1.mpr ⟨jP.mpr (Heap.lt_size e'),by simp [q]⟩;have z:(hidT h H).get? b=none:=PySem.W.hideAll_none (sB h H) hm;rw [z] at e;cases e
noncomputable def anp (g h:Heap) (L:Addr):List (Addr×Obj):=(List.range h.objs.size).filterMap fun a=>if a=L\/(g.get? a).isSome=true then none else (h.get? a).map fun o=>(a,o)
noncomputable def rest (g h:Heap) (L d:Addr):List (Addr×Obj):=(anp g h L).filter fun p=>decide (p.1≠d)
structure Mod(K:PySem.W.Frag)(mg:Str->Option Value)(base:Heap):Prop where
 kin:K.In base
 glob:base.Ns mainGlobals mg
 blt:∃ mb,base.Ns builtinsNs mb/\∀ x:Str,x≠"__name__"->mb x=bootBuiltins x
 nolimit:base.NoLimit
structure Cx where
 prog:Program
 w:World
 K:PySem.W.Frag
 mg:Str->Option Value
 base:Heap
 A:Around
 N:List Str
 s₀:Shared
 H₀:Hp
 env:Env
 outer:List Env
 stack:List Env
 ex:List Addr
 fn:Str->Bool
 calm:Bool
 pn:List (Addr×Obj)
 xe:Value->Shared->Prop
noncomputable def v7 (l:List Env):List Addr:=l.filterMap (·.frame)
noncomputable abbrev Cx.fs (X:Cx):List Addr:=v7 X.outer
noncomputable def nF (sc:Scope) (x:Str):Prop:=sc.names.lookup x=some .local\/sc.names.lookup x=some .cell\/sc.names.lookup x=some .free
noncomputable def o7 (sc:Scope) (x:Str):Prop:=sc.names.lookup x=some .local\/sc.names.lookup x=some .cell
noncomputable def Look (env:Env) (h:Heap) (m:Str->Option Value) (x:Str) (u:Value):Prop:=
 (env.kindOf x=some .local/\m x=some u)\/((env.kindOf x=some .cell\/env.kindOf x=some .free)/\∃ c,env.cells.lookup x=some c/\h.IsCell c (some u))
structure Cx.Ok(X:Cx):Prop where
 mod:Mod X.K X.mg X.base
 kind:X.env.scope.kind=.function
 glob:X.env.globals=mainGlobals
 blt:X.env.builtins=builtinsNs
 above:X.s₀.heap.objs.size<=X.env.locals
 inj:∀ x y c,X.env.cells.lookup x=some c->X.env.cells.lookup y=some c->x=y
 has:∀ x,(X.env.kindOf x=some .cell\/X.env.kindOf x=some .free)->∃ c,X.env.cells.lookup x=some c
 cab:∀ x c,X.fn x=true->X.env.cells.lookup x=some c->X.s₀.heap.objs.size<=c
 hd:X.calm=true->X.A.handled=none
 frames:X.A.frames=some X.stack
 stk:X.stack=X.outer\/(X.stack=X.env::X.outer/\X.env.frame=some X.env.locals)
 exf:∀ b∈X.ex,b≠X.env.locals/\∀ x c,X.env.cells.lookup x=some c->c≠b
 bs:∀ b o,X.base.get? b=some o->X.s₀.heap.get? b=some o/\X.H₀ b=none
 bsz:X.base.objs.size<=X.s₀.heap.objs.size
 noex:∀ b o,X.base.get? b=some o->b∉X.ex
 exfs:∀ b∈X.ex,b∉X.fs
 funs:X.s₀.heap.FunFrames X.base X.outer
 frf:∀ b∈X.fs,X.H₀ b=none
structure Inv(X:Cx)(pins:List (Addr×Obj))(Y:List (Option V))(H:Hp)(s:Shared):Prop where
 ok:X.Ok
 os:s.os=X.s₀.os
 bare:AllBare s.gens
 base:Un X.fs X.ex X.H₀ H X.s₀.heap s.heap
 loc:∃ m,s.heap.Ns X.env.locals m/\∀ (i:Nat) (x:Str) (v:V),X.N[i]?=some x->Y[i]?=some (some v)->nF X.env.scope x->∃ u,RelV v u/\Look X.env s.heap m x u
 cell:∀ x c,X.env.cells.lookup x=some c->∃ v,s.heap.IsCell c v
 free:H X.env.locals=none
 freeC:∀ x c,X.env.cells.lookup x=some c->H c=none
 pin:∀ p∈X.pn++pins,s.heap.get? p.1=some p.2/\H p.1=none/\p.1≠X.env.locals/\p.1∉X.fs/\∀ v,p.2.data≠.cell v
 hok:O1 X.prog X.w H s.heap
 len:Y.length=X.N.length
section
variable {X:Cx} {pins:List (Addr×Obj)} {Y:List (Option V)} {H H':Hp} {s:Shared} {h':Heap}
theorem Cx.Ok.nofr(ok:X.Ok){b:Addr}{o:Obj}(e:X.base.get? b=some o):b∉X.fs:=fun hb=>by
 have:=(ok.funs.mem hb).1
 rw [e] at this;cases this
theorem Inv.bs(I:Inv X pins Y H s):∀ b o,X.base.get? b=some o->s.heap.get? b=some o/\H b=none:=fun b o e=>
 ⟨I.base.keep b o (I.ok.bs b o e).1 (I.ok.bs b o e).2 (I.ok.nofr e) (I.ok.noex b o e),I.base.free b o (I.ok.bs b o e).1 (I.ok.bs b o e).2 (I.ok.noex b o e)⟩
theorem Inv.bk(I:Inv X pins Y H s):∀ b o,X.base.get? b=some o->s.heap.get? b=some o:=fun b o e=>(I.bs b o e).1
theorem Inv.mod(I:Inv X pins Y H s):Mod X.K X.mg X.base:=I.ok.mod
theorem Inv.kIn(I:Inv X pins Y H s):X.K.In s.heap:=I.ok.mod.kin.keeps I.bk
theorem Inv.lt(I:Inv X pins Y H s):X.env.locals<s.heap.objs.size:=let ⟨_,hn,_⟩:=I.loc;hn.lt
theorem Inv.sz(I:Inv X pins Y H s):X.s₀.heap.objs.size<=s.heap.objs.size:=K6 I.ok.above (Nat.le_of_lt I.lt)
theorem Inv.nofs(I:Inv X pins Y H s){a:Addr}(h:s.heap.objs.size<=a):a∉X.fs:=fun hb=>by
 obtain ⟨_,o,ho,_⟩:=I.ok.funs.mem hb;exact absurd (T4 (Heap.lt_size ho) (K6 I.sz h)) (g3 _)
theorem Inv.cne(I:Inv X pins Y H s):∀ x c,X.env.cells.lookup x=some c->c≠X.env.locals:=fun x c e z=>by
 obtain ⟨v,o,ho,hd⟩:=I.cell x c e;obtain ⟨m,⟨o',es,ep,x5,iJ,_⟩,_⟩:=I.loc;rw [z,x5] at ho;cases ho;rw [iJ] at hd;cases hd
theorem Inv.funs(I:Inv X pins Y H s):s.heap.FunFrames X.base X.outer:=by
 have all:∀ (l:List Env),(∀ b∈v7 l,b∈X.fs)->X.s₀.heap.FunFrames X.base l->s.heap.FunFrames X.base l:=by
  intro l
  induction l with
  | nil=>intro _ _;trivial
  | cons env r ih=>
   intro hs hl;obtain ⟨hk,⟨L,o,hf,hn,ho,hd⟩,hr⟩:=hl;have hL:L∈X.fs:=hs L (by unfold v7;rw [fS,hf];exact O0);obtain ⟨sl,e⟩:=I.base.slot L o ho (I.ok.frf L hL) hL fun z=>I.ok.exfs L z hL
   exact ⟨hk,⟨L,_,hf,hn,e,hd⟩,ih (fun b hb=>hs b (by unfold v7;rw [fS,hf];exact N4 _ hb)) hr⟩
 exact all X.outer (fun _ hb=>hb) I.ok.funs
theorem Inv.stack(I:Inv X pins Y H s):s.heap.FunFrames X.base X.stack:=by
 rcases I.ok.stk with e | ⟨e,hf⟩
 .rw [e];exact I.funs
 .rw [e];obtain ⟨m,hn,_⟩:=I.loc;refine .cons (by rw [I.ok.kind];decide) hf hn ?_ I.funs;exact Heap.get?_none_of_le (K6 I.ok.bsz I.ok.above)
theorem Inv.stkSub(I:Inv X pins Y H s):∀ b∈v7 X.stack,b∈X.env.locals::X.fs:=fun b hb=>by
 rcases I.ok.stk with e | ⟨e,hf⟩
 .rw [e] at hb;exact N4 _ hb
 .rw [e] at hb;unfold v7 at hb;rw [fS,hf] at hb;exact hb
theorem Inv.stkFree(I:Inv X pins Y H s):∀ b∈v7 X.stack,H b=none:=fun b hb=>by
 rcases E7.mp (I.stkSub b hb) with e | hb
 .rw [e];exact I.free
 .obtain ⟨_,o,ho,_⟩:=I.ok.funs.mem hb;exact I.base.free b o ho (I.ok.frf b hb) fun z=>I.ok.exfs b z hb
theorem Inv.step{g':Array GenState}{t':Nat}{d':Drawn}{ch:List Addr}(I:Inv X pins Y H s)(bC:∀ b∈ch,(b∈X.ex\/X.s₀.heap.objs.size<=b)/\b≠X.env.locals/\(∀ x c,X.env.cells.lookup x=some c->c≠b)/\∀ p∈X.pn++pins,p.1≠b)(keep:∀ b o,b≠X.env.locals->b∉X.fs->b∉ch->s.heap.get? b=some o->H b=none->h'.get? b=some o)(slot:∀ b o,b≠X.env.locals->b∈X.fs->b∉ch->s.heap.get? b=some o->H b=none->∃ sl,h'.get? b=some { o with slots:=sl })(free:∀ b o,b∉ch->s.heap.get? b=some o->H b=none->H' b=none)(there:∀ b o,b∉ch->s.heap.get? b=some o->∃ o',h'.get? b=some o')(tups:∀ b xs,H b=some (.tup xs)->H' b=some (.tup xs))(frzs:∀ b o u,H b=some (.frz o u)->H' b=some (.frz o u))(tbls:∀ b ps,H b=some (.tbl ps)->∃ more,H' b=some (.tbl (ps++more)))(ns:∀ m,s.heap.Ns X.env.locals m->h'.Ns X.env.locals m)(hok:O1 X.prog X.w H' h')(hg:AllBare g') :
  Inv X pins Y H' { s with heap:=h',gens:=g',drawn:=d',toks:=t' }:=by
 have neL:∀ b o,X.s₀.heap.get? b=some o->b≠X.env.locals:=fun b o e=>O6 (T4 (Heap.lt_size e) I.ok.above)
 have neC:∀ b o,X.s₀.heap.get? b=some o->b∉X.ex->b∉ch:=fun b o e hx hb=>by
  rcases (bC b hb).1 with z | z
  .exact hx z
  .exact absurd (T4 (Heap.lt_size e) z) (g3 _)
 have cellK:∀ x c,X.env.cells.lookup x=some c->∀ v,s.heap.IsCell c v->h'.IsCell c v:=fun x c e v ⟨o,ho,hd⟩=>by
  have nch:c∉ch:=fun z=>(bC c z).2.2.1 x c e rfl
  by_cases hc:c∈X.fs
  .obtain ⟨sl,q⟩:=slot c o (I.cne x c e) hc nch ho (I.freeC x c e);exact ⟨_,q,hd⟩
  .exact ⟨o,keep c o (I.cne x c e) hc nch ho (I.freeC x c e),hd⟩
 refine ⟨I.ok,I.os,hg,⟨fun b o e n hb hx=>?_,fun b o e n hb hx=>?_,fun b o e n hx=>?_,fun b o e hx=>?_,fun b xs e=>tups b xs (I.base.tups b xs e),fun b o xs e=>frzs b o xs (I.base.frzs b o xs e),fun b ps e=>?_⟩,?_,fun x c e=>?_,?_,fun x c e=>?_,fun p hp=>?_,hok,I.len⟩
 .exact keep b o (neL b o e) hb (neC b o e hx) (I.base.keep b o e n hb hx) (I.base.free b o e n hx)
 .obtain ⟨sl,e1⟩:=I.base.slot b o e n hb hx;obtain ⟨sl',e2⟩:=slot b _ (neL b o e) hb (neC b o e hx) e1 (I.base.free b o e n hx);exact ⟨sl',e2⟩
 .obtain ⟨o',e1⟩:=I.base.there b o e hx;exact free b o' (neC b o e hx) e1 (I.base.free b o e n hx)
 .obtain ⟨o',e1⟩:=I.base.there b o e hx;exact there b o' (neC b o e hx) e1
 .obtain ⟨m1,e1⟩:=I.base.tbls b ps e;obtain ⟨m2,e2⟩:=tbls b _ e1;exact ⟨m1++m2,by rw [e2,Array.append_assoc]⟩
 .obtain ⟨m,hn,hl⟩:=I.loc;refine ⟨m,ns m hn,fun i x v e1 e2 e3=>?_⟩;obtain ⟨u,r,l⟩:=hl i x v e1 e2 e3;refine ⟨u,r,?_⟩
  rcases l with l | ⟨k,c,e,z⟩
  .exact .inl l
  .exact .inr ⟨k,c,e,cellK x c e _ z⟩
 .obtain ⟨v,z⟩:=I.cell x c e;exact ⟨v,cellK x c e v z⟩
 .obtain ⟨m,⟨o,_,_,ho,_⟩,_⟩:=I.loc;exact free _ o (fun z=>(bC _ z).2.1 rfl) ho I.free
 .obtain ⟨v,o,ho,hd⟩:=I.cell x c e;exact free c o (fun z=>(bC c z).2.2.1 x c e rfl) ho (I.freeC x c e)
 .obtain ⟨e,n,ne,nf,d⟩:=I.pin p hp;have nch:p.1∉ch:=fun z=>(bC p.1 z).2.2.2 p hp rfl
  exact ⟨keep p.1 p.2 ne nf nch e n,free p.1 p.2 nch e n,ne,nf,d⟩
theorem Inv.un{t':Nat}(I:Inv X pins Y H s)(u:Un X.fs [] H H' s.heap h')(hok:O1 X.prog X.w H' h'):Inv X pins Y H' { s with heap:=h',toks:=t' }:=by
 obtain ⟨m,⟨o,es,ep,ho,r⟩,_⟩:=id I.loc;obtain ⟨sl,hL⟩:=u.any ho I.free 'c';exact I.step (g':=s.gens) (d':=s.drawn) (ch:=[]) (fun _ z=>nomatch z) (fun b o _ hb _ e n=>u.keep b o e n hb 'c') (fun b o _ hb _ e n=>u.slot b o e n hb 'c') (fun b o _ e n=>u.free b o e n 'c') (fun b o _ e=>u.there b o e 'c') u.tups u.frzs u.tbls (fun m' hm=>by
  obtain ⟨o',es',ep',x5,r'⟩:=hm;rw [ho] at x5;cases x5;exact ⟨_,es',ep',hL,r'⟩) hok I.bare
theorem Inv.call{g':Array GenState}{t':Nat}{d':Drawn}{ch:List Addr}(I:Inv X pins Y H s)(u:Un (v7 X.stack) ch H H' s.heap h')(hok:O1 X.prog X.w H' h')(hg:AllBare g')(bC:∀ b∈ch,(b∈X.ex\/X.s₀.heap.objs.size<=b)/\b≠X.env.locals/\(∀ x c,X.env.cells.lookup x=some c->c≠b)/\∀ p∈X.pn++pins,p.1≠b) :
  Inv X pins Y H' { s with heap:=h',gens:=g',drawn:=d',toks:=t' }:=by
 obtain ⟨m,⟨o,es,ep,ho,r⟩,_⟩:=id I.loc;obtain ⟨sl,hL⟩:=u.any ho I.free fun z=>(bC _ z).2.1 rfl
 exact I.step (ch:=ch) bC (fun b o hL hb hc e n=>u.keep b o e n (fun z=>(E7.mp (I.stkSub b z)).elim hL hb) hc) (fun b o _ _ hc e n=>u.any e n hc) (fun b o hc e n=>u.free b o e n hc) (fun b o hc e=>u.there b o e hc) u.tups u.frzs u.tbls (fun m' hm=>by
  obtain ⟨o',es',ep',x5,r'⟩:=hm;rw [ho] at x5;cases x5;exact ⟨_,es',ep',hL,r'⟩) hok hg
theorem Inv.turned{t':Nat}{it:Addr}(I:Inv X pins Y H s)(k:∀ b o,b≠it->s.heap.get? b=some o->h'.get? b=some o)(hn:H it=none)(hL:it≠X.env.locals)(h1:it∈X.ex\/X.s₀.heap.objs.size<=it)(h2:∀ x c,X.env.cells.lookup x=some c->c≠it)(h3:∀ p∈X.pn++pins,p.1≠it):Inv X pins Y H { s with heap:=h',toks:=t' }:=by
 have nit:∀ b u,H b=some u->b≠it:=fun b u e z=>by rw [z,hn] at e;cases e
 refine I.step (g':=s.gens) (d':=s.drawn) (ch:=[it]) (fun b hb=>?_) (fun b o _ _ hc e _=>k b o (fun z=>hc (by simp [z])) e) (fun b o _ _ hc e _=>⟨o.slots,k b o (fun z=>hc (by simp [z])) e⟩) (fun _ _ _ _ n=>n)
  (fun b o hc e=>⟨o,k b o (fun z=>hc (by simp [z])) e⟩) (fun _ _ e=>e) (fun _ _ _ e=>e) (fun b ps e=>⟨#[],by rw [e];simp⟩) (fun m hm=>?_) (fun b u e=>?_) I.bare
 .have e:b=it:=by simpa using hb
  subst e;exact ⟨h1,hL,h2,h3⟩
 .obtain ⟨o,es,ep,ho,r⟩:=hm;exact ⟨o,es,ep,k _ o (Ne.symm hL) ho,r⟩
 .refine (I.hok b u e).stay (fun c v hc q=>k c v ?_ q) (fun _ q=>q) fun _ _ q=>q
  rcases hc with z | z
  .rw [z];exact nit b u e
  .exact nit c _ z
theorem Inv.tok(I:Inv X pins Y H s)(t:Nat):Inv X pins Y H { s with toks:=t }:=I.un (h':=s.heap) (t':=t) uac I.hok
theorem Inv.kept{t':Nat}(I:Inv X pins Y H s)(k:∀ b u,s.heap.get? b=some u->h'.get? b=some u):Inv X pins Y H { s with heap:=h',toks:=t' }:=I.un (Un.kept k) (I.hok.kept k)
theorem Inv.laid{a:Addr}{o:HO}{t':Nat}(I:Inv X pins Y H s)(k:∀ b u,s.heap.get? b=some u->h'.get? b=some u)(hp:s.heap.objs.size<=a)(new:ObjOk X.prog X.w (A0 H a o) h' a o) :
  Inv X pins Y (A0 H a o) { s with heap:=h',toks:=t' }:=I.un (Un.laid k hp (I.hok.fresh hp)) (I.hok.laid k hp new)
theorem Inv.write{x e:Addr}{o:HO}{t':Nat}(I:Inv X pins Y H s)(mu:nE (H x))(he:e=x\/H e=some (.own x))(k:∀ b u,b≠e->s.heap.get? b=some u->h'.get? b=some u)(lO:∃ u,h'.get? e=some u)(new:ObjOk X.prog X.w (A0 H x o) h' x o):Inv X pins Y (A0 H x o) { s with heap:=h',toks:=t' }:=I.un (Un.write mu he k lO) (I.hok.write mu he k lO new)
theorem Inv.pins_of{pins':List (Addr×Obj)}(I:Inv X pins Y H s)(h:∀ p∈pins',s.heap.get? p.1=some p.2/\H p.1=none/\p.1≠X.env.locals/\p.1∉X.fs/\∀ v,p.2.data≠.cell v):Inv X pins' Y H s:=
 ⟨I.ok,I.os,I.bare,I.base,I.loc,I.cell,I.free,I.freeC,fun p hp=>(E1.mp hp).elim (fun z=>I.pin p (T3 _ z)) (h p),I.hok,I.len⟩
theorem aif{N:List Str}(hN:N.Nodup){i j:Nat}{x:Str}(a:N[i]?=some x)(b:N[j]?=some x):i=j:=by
 obtain ⟨h1,e1⟩:=G2.mp a;obtain ⟨h2,e2⟩:=G2.mp b;exact (List.getElem_inj hN).mp (e1.trans e2.symm)
theorem ajL{M:Model}{A:Around}{E:Value->Shared->Prop}{i:Nat}{x:Str}{v:V}{u:Value}{Q:Unit->Shared->Prop}(I:Inv X pins Y H s)(hN:X.N.Nodup)(hi:X.N[i]?=some x)(hx:o7 X.env.scope x)(r:RelV v u)(h:∀ s',Inv X pins (Y.set i (some v)) H s'->(∃ a,Heap.SameBut a s.heap s'.heap/\(a=X.env.locals\/X.env.cells.lookup x=some a))->Q () s')(hf:X.fn x=true\/X.env.scope.names.lookup x=some .local:=by first | exact .inl rfl | exact .inr rfl | assumption):wpAny M A (storeName X.env x u) Q E s:=by
 obtain ⟨m,hn,hl⟩:=id I.loc;have hcls:(X.env.scope.kind == .class || (X.env.scope.kind == .module&&X.env.locals != X.env.globals))=false:=by rw [I.ok.kind];rfl
 have hiσ:i<Y.length:=by rw [I.len];exact (G2.mp hi).1
 have cne:=I.cne;have tracked:∀ {a:Addr} {h':Heap},(∃ o,s.heap.get? a=some o/\H a=none)->Heap.SameBut a s.heap h'->O1 X.prog X.w H h':=fun {a h'} ha hs b ob e=>by
  obtain ⟨_,_,eS⟩:=ha;refine (I.hok b ob e).stay (fun c w' hc q=>(hs.2 c ?_).trans q) (fun _ q=>q) fun _ _ q=>q
  rintro rfl
  rcases hc with rfl | hc
  .rw [eS] at e;cases e
  .rw [eS] at hc;cases hc
 rcases hx with hk | hk
 .refine wpAny_storeName_local hk hn (fun h' hn' hs=>?_) hcls;obtain ⟨oL,_,_,hoL,_⟩:=id hn;refine h _ ⟨I.ok,I.os,I.bare,⟨fun b o e n hb hx=>?_,fun b o e n hb hx=>?_,I.base.free,fun b o e hx=>?_,I.base.tups,I.base.frzs,I.base.tbls⟩,⟨_,hn',fun j y v' e1 e2 e3=>?_⟩,fun y c e=>?_,I.free,I.freeC,fun p hp=>?_,tracked ⟨oL,hoL,I.free⟩ hs,by simpa using I.len⟩ ⟨_,hs,.inl rfl⟩
  .exact (hs.2 b (O6 (T4 (Heap.lt_size e) I.ok.above))).trans (I.base.keep b o e n hb hx)
  .obtain ⟨sl,e1⟩:=I.base.slot b o e n hb hx;exact ⟨sl,(hs.2 b (O6 (T4 (Heap.lt_size e) I.ok.above))).trans e1⟩
  .obtain ⟨o',e1⟩:=I.base.there b o e hx;exact ⟨o',(hs.2 b (O6 (T4 (Heap.lt_size e) I.ok.above))).trans e1⟩
  .by_cases hj:j=i
   .subst hj;rw [hi] at e1;cases e1;rw [List.getElem?_set_self hiσ] at e2;cases e2;exact ⟨u,r,.inl ⟨hk,by simp⟩⟩
   .rw [List.getElem?_set_ne (Ne.symm hj)] at e2;obtain ⟨u',r',q⟩:=hl j y v' e1 e2 e3;refine ⟨u',r',?_⟩
    rcases q with ⟨k,e⟩ | ⟨k,c,e,z⟩
    .refine .inl ⟨k,?_⟩
     have:y≠x:=fun e=>hj (aif hN e1 (e ▸ hi))
     simp [this,e]
    .exact .inr ⟨k,c,e,z.sameBut hs (cne y c e)⟩
  .obtain ⟨w',z⟩:=I.cell y c e;exact ⟨w',z.sameBut hs (cne y c e)⟩
  .obtain ⟨e,n,ne,nf,d⟩:=I.pin p hp;exact ⟨(hs.2 p.1 ne).trans e,n,ne,nf,d⟩
 .have hfn:X.fn x=true:=by
   rcases hf with z | z
   .exact z
   .rw [z] at hk;cases hk
  obtain ⟨c,hc⟩:=I.ok.has x (.inl hk);obtain ⟨w',z⟩:=I.cell x c hc;refine wpAny_storeName_cell I.ok.kind hk hc z (fun h' bD hs=>?_);obtain ⟨oc,hoc,hocd⟩:=id z;refine h { s with heap:=h' } ⟨I.ok,I.os,I.bare,⟨fun b o e n hb hx=>?_,fun b o e n hb hx=>?_,I.base.free,fun b o e hx=>?_,I.base.tups,I.base.frzs,I.base.tbls⟩,⟨m,hn.sameBut hs (Ne.symm (cne x c hc)),fun j y v' e1 e2 e3=>?_⟩,fun y c' e=>?_,I.free,I.freeC,fun p hp=>?_,tracked ⟨oc,hoc,I.freeC x c hc⟩ hs,by simpa using I.len⟩ ⟨c,hs,.inr hc⟩
  .exact (hs.2 b (O6 (T4 (Heap.lt_size e) (I.ok.cab x c hfn hc)))).trans (I.base.keep b o e n hb hx)
  .obtain ⟨sl,e1⟩:=I.base.slot b o e n hb hx;exact ⟨sl,(hs.2 b (O6 (T4 (Heap.lt_size e) (I.ok.cab x c hfn hc)))).trans e1⟩
  .obtain ⟨o',e1⟩:=I.base.there b o e hx;exact ⟨o',(hs.2 b (O6 (T4 (Heap.lt_size e) (I.ok.cab x c hfn hc)))).trans e1⟩
  .by_cases hj:j=i
   .subst hj;rw [hi] at e1;cases e1;rw [List.getElem?_set_self hiσ] at e2;cases e2;exact ⟨u,r,.inr ⟨.inl hk,c,hc,bD⟩⟩
   .rw [List.getElem?_set_ne (Ne.symm hj)] at e2;obtain ⟨u',r',q⟩:=hl j y v' e1 e2 e3;refine ⟨u',r',?_⟩
    rcases q with q | ⟨k,c',e,z'⟩
    .exact .inl q
    .refine .inr ⟨k,c',e,z'.sameBut hs ?_⟩;rintro rfl;exact hj (aif hN e1 (I.ok.inj _ _ _ e hc ▸ hi))
  .by_cases hcc:c'=c
   .subst hcc;exact ⟨_,bD⟩
   .obtain ⟨w2,z2⟩:=I.cell y c' e;exact ⟨w2,z2.sameBut hs hcc⟩
  .obtain ⟨e,n,ne,nf,d⟩:=I.pin p hp;refine ⟨(hs.2 p.1 ?_).trans e,n,ne,nf,d⟩;intro q;rw [q,hoc] at e;have q':oc=p.2:=Option.some.inj e;exact d w' (by rw [<- q'];exact hocd)
theorem sC{M:Model}{A:Around}{E:Value->Shared->Prop}{i:Nat}{x:Str}{v:V}{u:Value}{Q:Unit->Shared->Prop}(I:Inv X pins Y H s)(hN:X.N.Nodup)(hi:X.N[i]?=some x)(hx:o7 X.env.scope x)(r:RelV v u)(h:∀ s',Inv X pins (Y.set i (some v)) H s'->Q () s')(hf:X.fn x=true\/X.env.scope.names.lookup x=some .local:=by first | exact .inl rfl | exact .inr rfl | assumption):wpAny M A (storeName X.env x u) Q E s:=
 ajL I hN hi hx r (fun s' I' _=>h s' I') hf
theorem Inv.call'{s':Shared}{ch:List Addr}(I:Inv X pins Y H s)(ho:s'.os=s.os)(u:Un (v7 X.stack) ch H H' s.heap s'.heap)(hok:O1 X.prog X.w H' s'.heap)(hg:AllBare s'.gens)(bC:∀ b∈ch,(b∈X.ex\/X.s₀.heap.objs.size<=b)/\b≠X.env.locals/\(∀ x c,X.env.cells.lookup x=some c->c≠b)/\∀ p∈X.pn++pins,p.1≠b):Inv X pins Y H' s':=by
 obtain ⟨h',g',d',t',o'⟩:=s';have e:o'=s.os:=ho;subst e;exact I.call (g':=g') (t':=t') (d':=d') u hok hg bC
end
noncomputable abbrev XK:=Value->Option Addr->Hp->Prop
noncomputable abbrev St:=List (Option V)
noncomputable abbrev VK:=V->Hp->Prop
noncomputable abbrev TE:=St->Hp->VK->Prop
noncomputable abbrev TT:=St->Hp->(Bool->Hp->Prop)->Prop
noncomputable abbrev TA:=St->Hp->(List V->Hp->Prop)->Prop
structure Ends where
 nx:St->Hp->Prop
 rt:VK
 bk:St->Hp->Prop:=fun _ _=>False
 ct:St->Hp->Prop:=fun _ _=>False
noncomputable abbrev TS:=Ends->St->Hp->Prop
noncomputable def EP (X:Cx) (pins:List (Addr×Obj)) (Y:St) (Q:VK) (u:Value) (s':Shared):Prop:=∃ v H',Inv X pins Y H' s'/\RelV v u/\Q v H'
noncomputable def TP (X:Cx) (pins:List (Addr×Obj)) (Y:St) (Q:Bool->Hp->Prop) (b:Bool) (s':Shared):Prop:=∃ H',Inv X pins Y H' s'/\Q b H'
noncomputable def AP (X:Cx) (pins:List (Addr×Obj)) (Y:St) (Q:List V->Hp->Prop) (us:List Value) (s':Shared):Prop:=∃ vs H',Inv X pins Y H' s'/\Vals vs us/\Q vs H'
noncomputable def SP (X:Cx) (pins:List (Addr×Obj)) (D:Ends) (f:Flow) (s':Shared):Prop:=
 match f with
 | .next=>∃ σ' H',Inv X pins σ' H' s'/\D.nx σ' H'
 | .brk=>∃ σ' H',Inv X pins σ' H' s'/\D.bk σ' H'
 | .cont=>∃ σ' H',Inv X pins σ' H' s'/\D.ct σ' H'
 | .ret u=>∃ v σ' H',Inv X pins σ' H' s'/\RelV v u/\D.rt v H'
noncomputable def PE (X:Cx) (e:Expr) (t:TE):Prop:=
 ∀ (pins:List (Addr×Obj)) (s:Shared) (Y:St) (H:Hp) (Q:VK),Inv X pins Y H s->t Y H Q->wpAny 'b' X.A (eval e X.env) (EP X pins Y Q) X.xe s
noncomputable def PT (X:Cx) (e:Expr) (t:TT):Prop:=
 ∀ (pins:List (Addr×Obj)) (s:Shared) (Y:St) (H:Hp) (Q:Bool->Hp->Prop),Inv X pins Y H s->t Y H Q->wpAny 'b' X.A (isTrue e X.env (eval e X.env)) (TP X pins Y Q) X.xe s
noncomputable def PW (X:Cx) (e:Expr) (t:TT):Prop:=
 ∀ (whole:Sem Value) (pins:List (Addr×Obj)) (s:Shared) (Y:St) (H:Hp) (Q:Bool->Hp->Prop),Inv X pins Y H s->t Y H Q->wpAny 'b' X.A (isTrue e X.env whole) (TP X pins Y Q) X.xe s
theorem PW.pt{X:Cx}{e:Expr}{t:TT}(h:PW X e t):PT X e t:=h _
noncomputable def PA (X:Cx) (es:List Expr) (t:TA):Prop:=
 ∀ (pos:Pos) (pins:List (Addr×Obj)) (s:Shared) (Y:St) (H:Hp) (Q:List V->Hp->Prop),Inv X pins Y H s->t Y H Q->wpAny 'b' X.A (spliced (backTo pos (starEach es X.env))) (AP X pins Y Q) X.xe s
noncomputable def PS (X:Cx) (st:Stmt) (t:TS):Prop:=
 ∀ (pins:List (Addr×Obj)) (s:Shared) (Y:St) (H:Hp) (D:Ends),Inv X pins Y H s->t D Y H->wpAny 'b' X.A (exec st X.env) (SP X pins D) X.xe s
noncomputable def b9 (X:Cx) (st:List Stmt) (t:TS):Prop:=
 ∀ (pins:List (Addr×Obj)) (s:Shared) (Y:St) (H:Hp) (D:Ends),Inv X pins Y H s->t D Y H->wpAny 'b' X.A (execs st X.env) (SP X pins D) X.xe s
theorem B3{α:Type}{t:Sem α}{Q Q':α->Shared->Prop}{M:Model}{A:Around}{E:Value->Shared->Prop}{s:Shared}(h:wpAny M A t Q E s)(hQ:∀ a s,Q a s->Q' a s):wpAny M A t Q' E s:=wpAny_mono h hQ fun _ _ x=>x
section
variable {X:Cx}
noncomputable def tVar (i:Nat):TE:=fun Y H Q=>∃ v,Y[i]?=some (some v)/\Q v H
noncomputable def tC (v:V):TE:=fun _ H Q=>Q v H
theorem amU{i:Nat}{x:Str}{pos:Pos}(hN:X.N[i]?=some x)(hv:nF X.env.scope x)(hd:(x==("__debug__" : Str))=false:=by decide)(U1:(x==("__classdict__" : Str))=false:=by decide):PE X (.Name x pos) (tVar i):=by
 sleep 1;obtain ⟨v,e,h⟩:=h;obtain ⟨m,hn,hl⟩:=I.loc;obtain ⟨u,r,l⟩:=hl i x v hN e hv;have fin:EP X pins Y Q u s:=⟨v,H,I,r,h⟩
 rcases l with ⟨hk,hm⟩ | ⟨hk,c,hc,N8⟩
 .exact wpAny_Name (wpAny_loadName_local I.ok.kind hk hn hm fin) hd
 .rcases hk with hk | hk
  .exact wpAny_Name (wpAny_loadName_cell I.ok.kind hk hc N8 fin) hd
  .exact wpAny_Name (wpAny_loadName_free I.ok.kind hk hc N8 fin U1) hd
theorem amV{i j pos} : PE X (.Constant (.int i) j pos) (tC (.int i)):=fun _ _ _ H _ I h=>wpAny_Constant_int ⟨.int i,H,I.tok _,⟨_,rfl⟩,h⟩
theorem pe_bl{b j pos} : PE X (.Constant (.bool b) j pos) (tC (.bl b)):=fun _ _ _ H _ I h=>Constant_bool ⟨.bl b,H,I,rfl,h⟩
theorem ao5{x j pos} : PE X (.Constant (.str x) j pos) (tC (.str x)):=fun _ _ _ H _ I h=>Calls.Constant_str ⟨.str x,H,I.tok _,⟨_,rfl⟩,h⟩
noncomputable def Gl (X:Cx) (x:Str):Prop:=X.env.kindOf x=some .globalImplicit
theorem wH{E:Value->Shared->Prop}{pins:List (Addr×Obj)}{s:Shared}{Y:St}{H:Hp}{x:Str}{u:Value}{pos:Pos}{Q:Value->Shared->Prop}(I:Inv X pins Y H s)(hg:Gl X x)(hm:X.mg x=some u)(h:Q u s)(hd:(x==("__debug__" : Str))=false:=by decide):wpAny 'b' X.A (eval (.Name x pos) X.env) Q E s:=
 Calls.Name_function_global I.ok.kind hg (Calls.loadGlobal_global (by rw [I.ok.glob];exact I.mod.glob.keeps I.bk) hm h) hd
theorem dR{E:Value->Shared->Prop}{pins:List (Addr×Obj)}{s:Shared}{Y:St}{H:Hp}{x:Str}{u:Value}{pos:Pos}{Q:Value->Shared->Prop}(I:Inv X pins Y H s)(hg:Gl X x)(hm:X.mg x=none)(hv:bootBuiltins x=some u)(h:Q u s)(hn:x≠"__name__":=by decide)(hd:(x==("__debug__" : Str))=false:=by decide):wpAny 'b' X.A (eval (.Name x pos) X.env) Q E s:=by
 obtain ⟨mb,h1,h2⟩:=I.mod.blt;exact Calls.Name_function_global I.ok.kind hg (Calls.loadGlobal_builtin (by rw [I.ok.glob];exact I.mod.glob.keeps I.bk) hm (by rw [I.ok.blt];exact h1.keeps I.bk) ((h2 x hn).trans hv) h) hd
theorem ajM{x:Str}{v:V}{u:Value}{pos:Pos}(hg:Gl X x)(hm:X.mg x=some u)(r:RelV v u)(hd:(x==("__debug__" : Str))=false:=by decide):PE X (.Name x pos) (tC v):=
 fun _ _ _ H _ I h=>wH I hg hm ⟨v,H,I,r,h⟩ hd
theorem anq{x:Str}{v:V}{u:Value}{pos:Pos}(hg:Gl X x)(hm:X.mg x=none)(hv:bootBuiltins x=some u)(r:RelV v u)(hn:x≠"__name__":=by decide)(hd:(x==("__debug__" : Str))=false:=by decide):PE X (.Name x pos) (tC v):=
 fun _ _ _ H _ I h=>dR I hg hm hv ⟨v,H,I,r,h⟩ hn hd
variable {a b:Expr} {ta tb:TE} {pos:Pos}
noncomputable def tB (t:TE):TT:=fun Y H Q=>t Y H fun x H1=>∃ c,x=.bl c/\Q c H1
variable {tA tB':TT} {rest:List Expr}
noncomputable def tAnd (t u:TT):TT:=fun Y H Q=>t Y H fun c H1=>if c=true then u Y H1 Q else Q false H1
noncomputable def wI (t u:TT):TT:=fun Y H Q=>t Y H fun c H1=>if c=true then Q true H1 else u Y H1 Q
noncomputable def tNot (t:TT):TT:=fun Y H Q=>t Y H fun c H1=>Q (!c) H1
theorem anr(ha:PT X a tA):PW X (.BoolOp .And [a] pos) tA:=by
 intro wh pins s Y H Q I h;refine isTrue_and (B3 (ha pins s Y H Q I h) fun c s1 e=>?_)
 cases c with
 | true=>exact isTrue_and_nil e
 | false=>exact e
theorem ao6(ha:PT X a tA):PW X (.BoolOp .Or [a] pos) tA:=by
 intro wh pins s Y H Q I h;refine isTrue_or (B3 (ha pins s Y H Q I h) fun c s1 e=>?_)
 cases c with
 | false=>exact isTrue_or_nil e
 | true=>exact e
theorem ao7(ha:PT X a tA)(hb:PW X (.BoolOp .And (b::rest) pos) tB'):PW X (.BoolOp .And (a::b::rest) pos) (tAnd tA tB'):=by
 intro wh pins s Y H Q I h;refine isTrue_and (B3 (ha pins s Y H _ I h) fun c s1 ⟨H1,I1,q1⟩=>?_)
 cases c with
 | true=>exact hb wh pins s1 Y H1 Q I1 q1
 | false=>exact ⟨H1,I1,q1⟩
theorem pw_or(ha:PT X a tA)(hb:PW X (.BoolOp .Or (b::rest) pos) tB'):PW X (.BoolOp .Or (a::b::rest) pos) (wI tA tB'):=by
 intro wh pins s Y H Q I h;refine isTrue_or (B3 (ha pins s Y H _ I h) fun c s1 ⟨H1,I1,q1⟩=>?_)
 cases c with
 | true=>exact ⟨H1,I1,q1⟩
 | false=>exact hb wh pins s1 Y H1 Q I1 q1
theorem ao8(ha:PT X a tA):PT X (.UnaryOp .Not a pos) (tNot tA):=by
 sleep 1;exact isTrue_not (ha pins s Y H (fun c H1=>Q (!c) H1) I h)
noncomputable def tAndV (ta tb:TE):TE:=fun Y H Q=>ta Y H fun x H1=>∃ c,x=.bl c/\if c=true then tb Y H1 Q else Q (.bl false) H1
noncomputable def tOrV (ta tb:TE):TE:=fun Y H Q=>ta Y H fun x H1=>∃ c,x=.bl c/\if c=true then Q (.bl true) H1 else tb Y H1 Q
noncomputable def tNotV (ta:TE):TE:=fun Y H Q=>ta Y H fun x H1=>∃ c,x=.bl c/\Q (.bl (!c)) H1
theorem ao9{op}{t:TE}(h:PE X a t):PE X (.BoolOp op [a] pos) t:=fun pins s Y H Q I hw=>BoolOp_one (h pins s Y H Q I hw)
theorem aqa(ha:PE X a ta)(hb:PE X (.BoolOp .And (b::rest) pos) tb):PE X (.BoolOp .And (a::b::rest) pos) (tAndV ta tb):=by
 sleep 1;refine BoolOp_and (B3 (ha pins s Y H _ I h) fun v s1 ⟨x,H1,I1,r1,q1⟩=>?_);obtain ⟨c,rfl,q1⟩:=q1
 cases r1
 refine wpAny_truthy_bool ?_
 cases c with
 | true=>exact hb pins s1 Y H1 Q I1 q1
 | false=>exact ⟨.bl false,H1,I1,rfl,q1⟩
noncomputable def wJ (t:TT) (ta tb:TE):TE:=fun Y H Q=>t Y H fun c H1=>if c=true then ta Y H1 Q else tb Y H1 Q
theorem alA{c:Expr}(hc:PT X c tA)(ha:PE X a ta)(hb:PE X b tb):PE X (.IfExp c a b pos) (wJ tA ta tb):=by
 sleep 1;refine wpAny_IfExp (B3 (hc pins s Y H _ I h) fun d s1 ⟨H1,I1,q1⟩=>?_)
 cases d with
 | true=>exact ha pins s1 Y H1 Q I1 q1
 | false=>exact hb pins s1 Y H1 Q I1 q1
end
noncomputable def D9 (K:PySem.W.Frag) (H:Hp) (a:Addr) (xs:List V):Prop:=
 Rd H a (.lst xs)\/
  ∃ (o:Obj) (its:Array Value) (n:Nat),K.lookup a=some o/\o.cls=.type "list"/\o.dict=none/\o.data=.seq its n/\its.size<=sizeLine/\Vals xs its.toList
noncomputable def C6 (K:PySem.W.Frag) (H:Hp) (a:Addr) (xs:List V):Prop:=
 Rd H a (.tup xs)\/
  ∃ (o:Obj) (its:Array Value) (n:Nat),K.lookup a=some o/\o.cls=.type "tuple"/\o.data=.seq its n/\its.size<=sizeLine/\Vals xs its.toList
noncomputable def absV:Value->Option V
 | .none=>some .non
 | .bool b=>some (.bl b)
 | .int i _=>some (.int i)
 | .str x _=>some (.str x)
 | .bytes b _=>some (.byt b)
 | .float b _=>some (.flt b)
 | .ref a=>some (.ref a)
 | .type n=>some (.ty n)
 | _=>none
theorem RelV.abs{x:V}{u:Value}(r:RelV x u):absV u=some x:=by
 cases x with
 | non=>cases r;rfl
 | bl _=>cases r;rfl
 | int _=>obtain ⟨t,rfl⟩:=r;rfl
 | str _=>obtain ⟨t,rfl⟩:=r;rfl
 | byt _=>obtain ⟨t,rfl⟩:=r;rfl
 | flt _=>obtain ⟨t,rfl⟩:=r;rfl
 | ref _=>cases r;rfl
 | ty _=>cases r;rfl
theorem RelV.inj{x y:V}{u:Value}(r:RelV x u)(q:RelV y u):x=y:=Option.some.inj (r.abs.symm.trans q.abs)
theorem Vals.inj:∀ {xs ys:List V} {us:List Value},Vals xs us->Vals ys us->xs=ys
 | _,_,_,.nil,.nil=>rfl
 | _,_,_,.cons r t,.cons r' t'=>by rw [r.inj r',Vals.inj t t']
section
variable {X:Cx} {pins:List (Addr×Obj)} {Y:St} {H:Hp} {s:Shared} {a:Addr} {xs ys:List V}
theorem D9.of{K:PySem.W.Frag}(h:H a=some (.lst xs)):D9 K H a xs:=.inl (.inl h)
theorem C6.of{K:PySem.W.Frag}(h:H a=some (.tup xs)):C6 K H a xs:=.inl (.inl h)
theorem Inv.list(I:Inv X pins Y H s)(h:D9 X.K H a xs):∃ its:List Value,Vals xs its/\PlainL s.heap a its.toArray/\xs.length<=sizeLine:=by
 rcases h with h | ⟨o,its,n,hk,hc,hd,hs,hz,r⟩
 .obtain ⟨z,its,n,r,e⟩:=h.ok I.hok;exact ⟨its,r,⟨_,n,e,rfl,rfl,rfl⟩,z⟩
 .refine ⟨its.toList,r,⟨o,n,I.kIn a o hk,hc,hd,by simpa using hs⟩,?_⟩;have e:=r.length;simp only [fY] at e;lia
theorem Inv.tuple(I:Inv X pins Y H s)(h:C6 X.K H a xs):∃ its:List Value,Vals xs its/\IsTup s.heap a its.toArray/\xs.length<=sizeLine:=by
 rcases h with h | ⟨o,its,n,hk,hc,hs,hz,r⟩
 .obtain ⟨z,its,r,p⟩:=h.ok I.hok;exact ⟨its,r,p,z⟩
 .refine ⟨its.toList,r,⟨o,I.kIn a o hk,hc,n,by simpa using hs⟩,?_⟩;have e:=r.length;simp only [fY] at e;lia
theorem Inv.list_inj(I:Inv X pins Y H s)(h:D9 X.K H a xs)(h':D9 X.K H a ys):xs=ys:=by
 obtain ⟨its,r,⟨o,n,e,_,_,d⟩,_⟩:=I.list h;obtain ⟨its',r',⟨o',n',e',_,_,d'⟩,_⟩:=I.list h';rw [e] at e';cases e';rw [d] at d'
 injection d' with d1 _
 have:its=its':=by simpa using congrArg Array.toList d1
 subst this;exact r.inj r'
theorem Inv.tuple_inj(I:Inv X pins Y H s)(h:C6 X.K H a xs)(h':C6 X.K H a ys):xs=ys:=by
 obtain ⟨its,r,⟨o,e,_,n,d⟩,_⟩:=I.tuple h;obtain ⟨its',r',⟨o',e',_,n',d'⟩,_⟩:=I.tuple h';rw [e] at e';cases e';rw [d] at d'
 injection d' with d1 _
 have:its=its':=by simpa using congrArg Array.toList d1
 subst this;exact r.inj r'
end
noncomputable abbrev Cx.wish (X:Cx) (E:Value->Shared->Prop):Cx:={ X with xe:=E }
noncomputable abbrev Cx.nox (X:Cx):Cx:=X.wish fun _ _=>False
theorem Cx.Ok.wish{X:Cx}(ok:X.Ok)(E:Value->Shared->Prop):(X.wish E).Ok:=
 ⟨ok.mod,ok.kind,ok.glob,ok.blt,ok.above,ok.inj,ok.has,ok.cab,ok.hd,ok.frames,ok.stk,ok.exf,ok.bs,ok.bsz,ok.noex,ok.exfs,ok.funs,ok.frf⟩
theorem Cx.Ok.unwish{X:Cx}{E:Value->Shared->Prop}(ok:(X.wish E).Ok):X.Ok:=
 ⟨ok.mod,ok.kind,ok.glob,ok.blt,ok.above,ok.inj,ok.has,ok.cab,ok.hd,ok.frames,ok.stk,ok.exf,ok.bs,ok.bsz,ok.noex,ok.exfs,ok.funs,ok.frf⟩
section
variable {X:Cx} {pins:List (Addr×Obj)} {Y:St} {H:Hp} {s:Shared} {E:Value->Shared->Prop}
theorem Inv.wish(I:Inv X pins Y H s)(E:Value->Shared->Prop):Inv (X.wish E) pins Y H s:=⟨I.ok.wish E,I.os,I.bare,I.base,I.loc,I.cell,I.free,I.freeC,I.pin,I.hok,I.len⟩
theorem Inv.unwish(I:Inv (X.wish E) pins Y H s):Inv X pins Y H s:=⟨I.ok.unwish,I.os,I.bare,I.base,I.loc,I.cell,I.free,I.freeC,I.pin,I.hok,I.len⟩
theorem SP.unwish{D:Ends}{f:Flow}{s':Shared}(h:SP (X.wish E) pins D f s'):SP X pins D f s':=by
 cases f with
 | next=>obtain ⟨σ',H',I,q⟩:=h;exact ⟨σ',H',I.unwish,q⟩
 | brk=>obtain ⟨σ',H',I,q⟩:=h;exact ⟨σ',H',I.unwish,q⟩
 | cont=>obtain ⟨σ',H',I,q⟩:=h;exact ⟨σ',H',I.unwish,q⟩
 | ret u=>obtain ⟨v,σ',H',I,r,q⟩:=h;exact ⟨v,σ',H',I.unwish,r,q⟩
theorem b9.nox{st:List Stmt}{t:TS}(h:b9 X.nox st t):b9 X st t:=fun pins s Y H D I hw=>
 wpAny_mono (h pins s Y H D (I.wish _) hw) (fun _ _ q=>q.unwish) fun _ _ z=>False.elim z
end
section
variable {X:Cx} {st:Stmt} {rest:List Stmt} {t u:TS} {e:Expr} {te:TE} {pos:Pos}
noncomputable def tNext:TS:=fun D Y H=>D.nx Y H
noncomputable def tSeq (t u:TS):TS:=fun D Y H=>t { D with nx:=u D } Y H
theorem ans:b9 X [] tNext:=fun _ _ Y H _ I h=>wpAny_execs_nil ⟨Y,H,I,h⟩
theorem alB(h1:PS X st t)(h2:b9 X rest u):b9 X (st::rest) (tSeq t u):=by
 intro pins s Y H D I h;refine wpAny_execs_cons (B3 (h1 pins s Y H { D with nx:=u D } I h) fun f s1 q=>?_)
 cases f with
 | next=>
  obtain ⟨σ',H',I',q⟩:=q;exact h2 pins s1 σ' H' D I' q
 | ret v=>exact q
 | brk=>exact q
 | cont=>exact q
theorem ant(h1:PS X st t):b9 X [st] t:=by
 intro pins s Y H D I h;refine wpAny_execs_cons (B3 (h1 pins s Y H D I h) fun f s1 q=>?_)
 cases f with
 | next=>exact wpAny_execs_nil q
 | ret v=>exact q
 | brk=>exact q
 | cont=>exact q
noncomputable def aqb:TS:=fun D Y H=>D.bk Y H
noncomputable def tCont:TS:=fun D Y H=>D.ct Y H
theorem Inv.quiet{pins:List (Addr×Obj)}{Y:St}{H:Hp}{s:Shared}(I:Inv X pins Y H s):interactive X.env=false:=by simp [interactive,I.ok.kind]
noncomputable def tDrop (te:TE):TS:=fun D Y H=>te Y H fun _ H1=>D.nx Y H1
theorem anu(he:PE X e te)(hs:swapsWith e none pos.line X.env=pure false:=by rfl):PS X (.Expr e pos) (tDrop te):=by
 intro pins s Y H D I h;exact wpAny_Expr_any (B3 (he pins s Y H _ I h) fun v s1 ⟨x,H1,I1,r1,q1⟩=>⟨Y,H1,I1,q1⟩) I.quiet hs
noncomputable def tRet (te:TE):TS:=fun D Y H=>te Y H D.rt
theorem aqc(he:PE X e te):PS X (.Return (some e) pos) (tRet te):=by
 intro pins s Y H D I h;exact wpAny_Return_some (B3 (he pins s Y H _ I h) fun v s1 ⟨x,H1,I1,r1,q1⟩=>⟨x,Y,H1,I1,r1,q1⟩)
noncomputable def tRetN:TS:=fun D _ H=>D.rt .non H
noncomputable def tIfS (c:TT) (t u:TS):TS:=fun D Y H=>c Y H fun b H1=>if b=true then t D Y H1 else u D Y H1
theorem ps_if{c:Expr}{a b:List Stmt}{tc:TT}(hc:PT X c tc)(ha:b9 X a t)(hb:b9 X b u):PS X (.If c a b pos) (tIfS tc t u):=by
 intro pins s Y H D I h;refine wpAny_If (B3 (hc pins s Y H _ I h) fun d s1 ⟨H1,I1,q1⟩=>?_)
 cases d with
 | true=>exact ha pins s1 Y H1 D I1 q1
 | false=>exact hb pins s1 Y H1 D I1 q1
noncomputable def wK:TS:=fun _ _ _=>False
theorem alC:PS X st wK:=fun _ _ _ _ _ _ h=>h.elim
end
noncomputable abbrev TG:=V->St->Hp->(St->Hp->Prop)->Prop
noncomputable abbrev o8:=List V->St->Hp->(St->Hp->Prop)->Prop
noncomputable def PG (X:Cx) (target:Expr) (t:TG):Prop:=
 ∀ (pins:List (Addr×Obj)) (s:Shared) (Y:St) (H:Hp) (v:V) (u:Value) (Q:St->Hp->Prop),Inv X pins Y H s->RelV v u->t v Y H Q->
  wpAny 'b' X.A (assign target X.env u) (fun _ s'=>∃ σ' H',Inv X pins σ' H' s'/\Q σ' H') X.xe s
noncomputable def nG (X:Cx) (ts:List Expr) (t:o8):Prop:=
 ∀ (pins:List (Addr×Obj)) (s:Shared) (Y:St) (H:Hp) (vs:List V) (us:List Value) (Q:St->Hp->Prop),Inv X pins Y H s->Vals vs us->t vs Y H Q->
  wpAny 'b' X.A (assignInOrder ((assignEach ts X.env).map (·.2)) us) (fun _ s'=>∃ σ' H',Inv X pins σ' H' s'/\Q σ' H') X.xe s
noncomputable abbrev TSet:=V->V->V->Hp->(Hp->Prop)->Prop
noncomputable def PSet (X:Cx) (t:TSet):Prop:=
 ∀ (pins:List (Addr×Obj)) (s:Shared) (Y:St) (H:Hp) (o i v:V) (ov iv u:Value) (Q:Hp->Prop),Inv X pins Y H s->RelV o ov->RelV i iv->RelV v u->t o i v H Q->
  wpAny 'b' X.A (setItem ov iv u) (fun _ s'=>∃ H',Inv X pins Y H' s'/\Q H') X.xe s
noncomputable abbrev fZ:=V->V->Hp->VK->Prop
noncomputable def wL (X:Cx) (op:Operator) (t:fZ):Prop:=
 ∀ (pins:List (Addr×Obj)) (s:Shared) (Y:St) (H:Hp) (x y:V) (v u:Value) (Q:VK),Inv X pins Y H s->RelV x v->RelV y u->t x y H Q->
  wpAny 'b' X.A (inplaceOp op v u) (EP X pins Y Q) X.xe s
section
variable {X:Cx} {pos:Pos}
noncomputable def gName (i:Nat):TG:=fun v Y H Q=>Q (Y.set i (some v)) H
theorem anv{i:Nat}{x:Str}(hN:X.N.Nodup)(hi:X.N[i]?=some x)(hx:o7 X.env.scope x)(hf:X.fn x=true\/X.env.scope.names.lookup x=some .local:=by first | exact .inl rfl | exact .inr rfl | assumption):PG X (.Name x pos) (gName i):=by
 intro pins s Y H v u Q I r h;exact wpAny_assign_Name (sC I hN hi hx r (fun s' I'=>⟨_,H,I',h⟩) hf)
noncomputable def gNil:o8:=fun vs Y H Q=>vs=[]/\Q Y H
noncomputable def gCons (t:TG) (u:o8):o8:=fun vs Y H Q=>∃ v r,vs=v::r/\t v Y H fun σ' H'=>u r σ' H' Q
theorem anw:nG X [] gNil:=by
 intro pins s Y H vs us Q I r h;obtain ⟨e,h⟩:=h;subst e
 cases r
 exact assignInOrder_nil ⟨Y,H,I,h⟩
theorem alD{e:Expr}{es:List Expr}{t:TG}{u:o8}(h1:PG X e t)(h2:nG X es u)(hs:(assignEach (e::es) X.env).map (·.2)=assign e X.env::(assignEach es X.env).map (·.2):=by rfl):nG X (e::es) (gCons t u):=by
 intro pins s Y H vs us Q I r h;obtain ⟨v,vr,e1,h⟩:=h;subst e1
 cases r with
 | cons r rr=>
  rw [hs];refine assignInOrder_cons (B3 (h1 pins s Y H _ _ _ I r h) fun _ s1 ⟨σ1,H1,I1,q1⟩=>?_);exact h2 pins s1 σ1 H1 _ _ Q I1 rr q1
noncomputable def gTup (K:PySem.W.Frag) (n:Nat) (t:o8):TG:=fun v Y H Q=>∃ a xs,v=.ref a/\C6 K H a xs/\xs.length=n/\t xs Y H Q
theorem aqd{es:List Expr}{k:Nat}{t:o8}{n:Nat}(hc:X.calm=true)(h:nG X es t)(hn:(assignEach es X.env).length=n:=by rfl)(Q8:(assignEach es X.env).findIdx? (·.1)=none:=by rfl):PG X (.Tuple es k pos) (gTup X.K n t):=by
 intro pins s Y H v u Q I r hw;obtain ⟨a,xs,e1,hq,hl,hw⟩:=hw;subst e1
 cases r
 obtain ⟨its,rv,ht,hz⟩:=I.tuple hq;refine assign_Tuple_tuple (I.ok.hd hc) ht (by simp [hn,<- hl,rv.length]) Q8 fun h' hx=>?_
 have I1:Inv X pins Y H { s with heap:=h' }:=I.kept (t':=s.toks) fun b o e=>hx b o (O6 (Heap.lt_size e)) e
 exact h pins _ Y H xs _ Q I1 (by simpa using rv) hw
noncomputable def gSub (to ti:TE) (t:TSet):TG:=fun v Y H Q=>to Y H fun o H1=>ti Y H1 fun i H2=>t o i v H2 fun H3=>Q Y H3
theorem aqe{o i:Expr}{to ti:TE}{t:TSet}(ho:PE X o to)(hi:PE X i ti)(hs:PSet X t)(ha:∀ v,assign (.Subscript o i pos) X.env v=(do
   let ov <- holding [v] (eval o X.env)
   let iv <- holding [v,ov] (eval i X.env)
   standAt pos
   holding [v,ov,iv] (setItem ov iv v)
   release [v,ov,iv] []):=by intro _;rfl):PG X (.Subscript o i pos) (gSub to ti t):=by
 intro pins s Y H v u Q I r h;rw [ha];refine wpAny_bind (wpAny_holding (B3 (ho pins s Y H _ I h) fun ov s1 ⟨x,H1,I1,r1,q1⟩=>?_));refine wpAny_bind (wpAny_holding (B3 (hi pins s1 Y H1 _ I1 q1) fun iv s2 ⟨y,H2,I2,r2,q2⟩=>?_));refine wpAny_bind (wpAny_standAt (wpAny_bind (wpAny_holding (B3 (hs pins s2 Y H2 x y v ov iv u _ I2 r1 r2 r q2) fun _ s3 ⟨H3,I3,q3⟩=>?_))));exact wpAny_release ⟨Y,H3,I3,q3⟩
noncomputable def tAsg (te:TE) (g:TG):TS:=fun D Y H=>te Y H fun x H1=>g x Y H1 D.nx
theorem aqf{tg e:Expr}{te:TE}{g:TG}(he:PE X e te)(hg:PG X tg g)(hs:swapsWithSole [tg] e pos.line X.env=pure false:=by rfl)(hw:swappedStores [tg] e X.env=pure none:=by rfl)(h1:(assignEach [tg] X.env).map (·.2)=[assign tg X.env]:=by rfl):PS X (.Assign [tg] e pos) (tAsg te g):=by
 intro pins s Y H D I h;refine wpAny_Assign_stores (B3 (he pins s Y H _ I h) fun v s1 ⟨x,H1,I1,r1,q1⟩=>?_) hs hw;rw [h1];exact B3 (hg pins s1 Y H1 x v _ I1 r1 q1) fun _ s2 q=>q
theorem aqg{i:Nat}{x:Str}{e:Expr}{te:TE}{pos':Pos}(hN:X.N.Nodup)(hi:X.N[i]?=some x)(hx:o7 X.env.scope x)(he:PE X e te)(hs:swapsWith e (some (.Name x pos')) pos.line X.env=pure false:=by rfl)(hf:X.fn x=true\/X.env.scope.names.lookup x=some .local:=by first | exact .inl rfl | exact .inr rfl | assumption) :
  PS X (.Assign [.Name x pos'] e pos) (tAsg te (gName i)):=by
 intro pins s Y H D I h;refine wpAny_Assign_Name (B3 (he pins s Y H _ I h) fun v s1 ⟨y,H1,I1,r1,q1⟩=>?_) hs;exact sC I1 hN hi hx r1 (fun s2 I2=>⟨_,H1,I2,q1⟩) hf
noncomputable def tAug (i:Nat) (te:TE) (ti:fZ):TS:=fun D Y H=>∃ x,Y[i]?=some (some x)/\te Y H fun y H1=>ti x y H1 fun z H2=>D.nx (Y.set i (some z)) H2
theorem aqh{i:Nat}{x:Str}{e:Expr}{te:TE}{op:Operator}{ti:fZ}{pos':Pos}(hN:X.N.Nodup)(hi:X.N[i]?=some x)(hx:o7 X.env.scope x)(he:PE X e te)(ho:wL X op ti)(hf:X.fn x=true\/X.env.scope.names.lookup x=some .local:=by first | exact .inl rfl | exact .inr rfl | assumption) :
  PS X (.AugAssign (.Name x pos') op e pos) (tAug i te ti):=by
 intro pins s Y H D I h;obtain ⟨v,e1,h⟩:=h;obtain ⟨m,hn,hl⟩:=I.loc;have vis:nF X.env.scope x:=by rcases hx with k | k;exact .inl k;exact .inr (.inl k)
 obtain ⟨u,r,l⟩:=hl i x v hi e1 vis;refine wpAny_AugAssign_Name ?_;have go:wpAny 'b' X.A (eval e X.env) (fun w zx=>wpAny 'b' X.A (inplaceOp op u w) (fun r zw=>wpAny 'b' X.A (storeName X.env x r) (fun _=>SP X pins D .next) X.xe zw) X.xe zx) X.xe s:=by
  refine B3 (he pins s Y H _ I h) fun w s1 ⟨y,H1,I1,r1,q1⟩=>?_
  refine B3 (ho pins s1 Y H1 v y u w _ I1 r r1 q1) fun z s2 ⟨zv,H2,I2,r2,q2⟩=>?_
  exact sC I2 hN hi hx r2 (fun s3 I3=>⟨_,H2,I3,q2⟩) hf
 rcases l with ⟨hk,hm⟩ | ⟨hk,c,hc,N8⟩
 .exact wpAny_loadName_local I.ok.kind hk hn hm go
 .rcases hk with hk | hk
  .exact wpAny_loadName_cell I.ok.kind hk hc N8 go
  .rcases hx with k | k
   .have:X.env.scope.names.lookup x=some .free:=hk
    rw [k] at this;cases this
   .have:X.env.scope.names.lookup x=some .free:=hk
    rw [k] at this;cases this
noncomputable def wM (f:Int->Int->Int):fZ:=fun x y H Q=>∃ i j,x=.int i/\y=.int j/\Q (.int (f i j)) H
theorem aqi:wL X .Add (wM fun i j=>i+j):=by
 intro pins s Y H x y v u Q I r1 r2 h;obtain ⟨i,j,e1,e2,q⟩:=h;subst e1;subst e2;obtain ⟨t,rfl⟩:=r1;obtain ⟨t',rfl⟩:=r2;exact iadd_int ⟨.int _,H,I.tok _,⟨_,rfl⟩,q⟩
end
section
variable {X:Cx} {pos:Pos}
noncomputable def sD (c:TT) (tb:TS):TS:=fun D Y H=>∃ W:Nat->St->Hp->Prop,(∃ m,W m Y H)/\∀ m Y H,W m Y H->
 c Y H fun b H1=>if b=true then ∃ N:St->Hp->Prop,(∀ σ' H',N σ' H'->∃ m',m'<m/\W m' σ' H')/\tb { D with nx:=N,ct:=N,bk:=D.nx } Y H1 else D.nx Y H1
theorem alE{c:Expr}{body:List Stmt}{tc:TT}{tb:TS}(hp:PassesOwn 'b' X.A X.env X.xe)(hc:PT X c tc)(hb:b9 X body tb):PS X (.While c body [] pos) (sD tc tb):=by
 intro pins s Y H D I h;obtain ⟨W,⟨m0,w0⟩,turn⟩:=h;refine wpAny_While (codeAny_whileLoop (fun n s'=>∃ σ' H',Inv X pins σ' H' s'/\W n σ' H') ?_ m0 ⟨Y,H,I,w0⟩);rintro n s1 ⟨σ1,H1,I1,w1⟩;refine wpAny_passesOwn hp (B3 (hc pins s1 σ1 H1 _ I1 (turn n σ1 H1 w1)) fun b s2 ⟨H2,I2,q2⟩=>?_)
 cases b with
 | true=>
  obtain ⟨N,hN,q2⟩:=q2;rw [if_pos rfl];refine wpAny_passesOwn hp (B3 (hb pins s2 σ1 H2 _ I2 q2) fun f s3 q3=>?_)
  cases f with
  | next=>
   obtain ⟨σ3,H3,I3,n3⟩:=q3;obtain ⟨m',hm,w3⟩:=hN σ3 H3 n3;exact ⟨m',hm,σ3,H3,I3,w3⟩
  | cont=>
   obtain ⟨σ3,H3,I3,n3⟩:=q3;obtain ⟨m',hm,w3⟩:=hN σ3 H3 n3;exact ⟨m',hm,σ3,H3,I3,w3⟩
  | brk=>exact q3
  | ret v=>exact q3
 | false=>
  rw [if_neg M4];exact wpAny_execs_nil ⟨σ1,H2,I2,q2⟩
end
structure It where
 go:Nat->Hp->Prop
 yld:Nat->Hp->V->Hp->Prop
 stop:Nat->Hp->Prop
noncomputable def FpOk (X:Cx) (pins:List (Addr×Obj)) (H:Hp) (b:Addr):Prop:=
 H b=none/\b≠X.env.locals/\b∉X.fs/\(b∈X.ex\/X.s₀.heap.objs.size<=b)/\(∀ x c,X.env.cells.lookup x=some c->c≠b)/\∀ p∈X.pn++pins,p.1≠b
theorem Inv.fpOk{X:Cx}{pins:List (Addr×Obj)}{Y:St}{H H':Hp}{s:Shared}{b:Addr}(I:Inv X pins Y H s)(hb:s.heap.objs.size<=b)(hn:H' b=none):FpOk X pins H' b:=by
 refine ⟨hn,Nat.ne_of_gt (T4 I.lt hb),I.nofs hb,.inr (K6 I.sz hb),fun x c e z=>?_,fun p hp z=>?_⟩
 .obtain ⟨v,q⟩:=I.cell x c e;exact absurd (T4 q.lt (by rw [z];exact hb)) (g3 _)
 .exact absurd (T4 (Heap.lt_size (I.pin p hp).1) (by rw [z];exact hb)) (g3 _)
structure Turn(P:Program)(w:World)(K:PySem.W.Frag)(tg:Expr)(J:It)(fp:List Addr)(it:Addr)(tn:Nat->Heap->Prop):Prop where
 mem:it∈fp
 obj:∀ i h,tn i h->∀ b∈fp,∃ o,h.get? b=some o/\∀ v,o.data≠.cell v
 keep:∀ i h h',tn i h->(∀ b∈fp,∀ o,h.get? b=some o->h'.get? b=some o)->tn i h'
 item:∀ (X:Cx),X.prog=P->X.w=w->X.K=K->X.calm=true->∀ (i:Nat) (pins:List (Addr×Obj)) (s:Shared) (Y:St) (H:Hp) (E:Value->Shared->Prop),Inv X pins Y H s->(∀ b∈fp,FpOk X pins H b)->tn i s.heap->J.go i H->
  wpAny (model P w) X.A (pyNext (.ref it)) (fun r s1=>∃ u,r=some u/\
   wpAny (model P w) X.A (letOwnedTupleGo tg (.ref it) u) (fun _ s2=>∃ x H',Inv X pins Y H' s2/\RelV x u/\J.yld i H x H'/\tn (i+1) s2.heap/\∀ b∈fp,H' b=none) E s1) E s
 done:∀ (X:Cx),X.prog=P->X.w=w->X.K=K->X.calm=true->∀ (i:Nat) (pins:List (Addr×Obj)) (s:Shared) (Y:St) (H:Hp) (E:Value->Shared->Prop),Inv X pins Y H s->(∀ b∈fp,FpOk X pins H b)->tn i s.heap->J.stop i H->
  wpAny (model P w) X.A (pyNext (.ref it)) (fun r s1=>r=none/\Inv X pins Y H s1) E s
 self:∀ (A:Around) (i:Nat) (s:Shared) (Q:Value->Shared->Prop) (E:Value->Shared->Prop),tn i s.heap->Q (.ref it) s->wpAny (model P w) A (pyIter (.ref it)) Q E s
noncomputable abbrev TI:=St->Hp->(It->Hp->Prop)->Prop
noncomputable def wN (X:Cx) (pins:List (Addr×Obj)) (Y:St) (tg:Expr) (R:It->Hp->Prop) (itv:Value) (s2:Shared):Prop:=
 ∃ (it:Addr) (fp:List Addr) (tn:Nat->Heap->Prop) (J:It) (H':Hp),itv=.ref it/\Inv X pins Y H' s2/\Turn X.prog X.w X.K tg J fp it tn/\tn 0 s2.heap/\(∀ b∈fp,FpOk X pins H' b)/\R J H'
noncomputable def PI (X:Cx) (tg iter:Expr) (wi:TI):Prop:=
 ∀ (pins:List (Addr×Obj)) (s:Shared) (Y:St) (H:Hp) (R:It->Hp->Prop),Inv X pins Y H s->wi Y H R->
  wpAny 'b' X.A (eval iter X.env) (fun v s1=>wpAny 'b' X.A (pyIter v) (wN X pins Y tg R) X.xe s1) X.xe s
theorem go_of{M : Model}{A : Around}{E : Value -> Shared -> Prop}{s : Shared}{tg : Expr}{it : Addr}{u : Value}{o : Obj}{n : String}{vs : Array Value}{Q : Unit -> Shared -> Prop}(ho : s.heap.get? it = some o)(hc : o.cls = .type n)(hd : o.data = .fields vs)(hn : ["enumerate", "zip", "dict_itemiterator", "dict_reverseitemiterator", "odict_iterator", "itertools.zip_longest", "itertools.pairwise"].contains n = false)(hQ : Q () s) : wpAny M A (letOwnedTupleGo tg (.ref it) u) Q E s := by
  unfold letOwnedTupleGo
  cases tg <;> first
    | exact wpAny_pure hQ
    | (cases u <;> first
        | exact wpAny_pure hQ
        | (refine wpAny_bind (wpAny_load ho ?_)
           rw [hc, hd];show wpAny M A (if (["enumerate", "zip", "dict_itemiterator", "dict_reverseitemiterator", "odict_iterator", "itertools.zip_longest", "itertools.pairwise"].contains n&&vs[0]? == some (rawInt _)) = true then _ else _) Q E s;rw [if_neg (by intro h; rw [hn, jR] at h; cases h)];exact wpAny_pure hQ))
noncomputable def aO (K:PySem.W.Frag) (a:Addr):It:=
 ⟨fun i H=>∃ xs x,D9 K H a xs/\xs[i]?=some x,fun i H x H'=>H'=H/\∀ xs,D9 K H a xs->xs[i]?=some x,fun i H=>∃ xs,D9 K H a xs/\xs.length<=i⟩
noncomputable def dS (K:PySem.W.Frag) (a:Addr):It:=
 ⟨fun i H=>∃ xs x,C6 K H a xs/\xs[i]?=some x,fun i H x H'=>H'=H/\∀ xs,C6 K H a xs->xs[i]?=some x,fun i H=>∃ xs,C6 K H a xs/\xs.length<=i⟩
noncomputable def o9 (lo:Int) (n:Nat):It:=⟨fun i _=>i<n,fun i H x H'=>H'=H/\x=.int (lo+i),fun i _=>n<=i⟩
theorem ajO{P:Program}{w:World}{K:PySem.W.Frag}{tg:Expr}(a it:Addr):Turn P w K tg (aO K a) [it] it (fun i h=>h.IsListIter it a i) where
 mem:=by simp
 obj:=fun i h st b hb=>by
  have e:b=it:=by simpa using hb
  subst e;obtain ⟨o,e,c,d⟩:=st;exact ⟨o,e,fun v z=>by rw [d] at z;cases z⟩
 keep:=fun i h h' st k=>st.at fun o e=>k it 'c' o e
 item:=by
  intro X hP hw hK hc i pins s Y H E I hf st hg;subst hP hw hK;obtain ⟨xs,x,hq,hx⟩:=hg;obtain ⟨its,rv,p,hz⟩:=I.list hq;obtain ⟨u,hu,ru⟩:=rv.get hx;obtain ⟨f0,f1,f2,f3,f4,f5⟩:=hf it 'c';refine wpAny_pyNext_list_item st p.isList (x:=u) (by simpa using hu) fun h' st' sb=>?_
  have I1:Inv X pins Y H { s with heap:=h' }:=I.turned (t':=s.toks) (fun b o hb e=>(sb.2 b hb).trans e) f0 f1 f3 f4 f5;obtain ⟨o,e,c,d⟩:=id st';exact ⟨u,rfl,go_of (s:={ s with heap:=h' }) e c d 'h' ⟨x,H,I1,ru,⟨rfl,fun ys hy=>by rw [I.list_inj hy hq];exact hx⟩,st',fun b hb=>(hf b hb).1⟩⟩
 done:=by
  intro X hP hw hK hc i pins s Y H E I hf st hg;subst hP hw hK;obtain ⟨xs,hq,hx⟩:=hg;obtain ⟨its,rv,p,hz⟩:=I.list hq;obtain ⟨f0,f1,f2,f3,f4,f5⟩:=hf it 'c';have hl:=rv.length;exact wpAny_pyNext_list_end (I.ok.hd hc) st p.isList (by simp;lia) fun h' eb=>⟨rfl,I.turned (t':=s.toks) (fun b o hb e=>eb b o hb e) f0 f1 f3 f4 f5⟩
 self:=fun _ _ _ _ _ st h=>wpAny_pyIter_listiter st h
theorem ai0{P:Program}{w:World}{K:PySem.W.Frag}{tg:Expr}(a it:Addr):Turn P w K tg (dS K a) [it] it (fun i h=>h.IsTupleIter it a i) where
 mem:=by simp
 obj:=fun i h st b hb=>by
  have e:b=it:=by simpa using hb
  subst e;obtain ⟨o,e,c,d⟩:=st;exact ⟨o,e,fun v z=>by rw [d] at z;cases z⟩
 keep:=fun i h h' st k=>st.at fun o e=>k it 'c' o e
 item:=by
  intro X hP hw hK hc i pins s Y H E I hf st hg;subst hP hw hK;obtain ⟨xs,x,hq,hx⟩:=hg;obtain ⟨its,rv,p,hz⟩:=I.tuple hq;obtain ⟨u,hu,ru⟩:=rv.get hx;obtain ⟨f0,f1,f2,f3,f4,f5⟩:=hf it 'c';refine wpAny_pyNext_tuple_item st (show s.heap.IsTuple a its.toArray from p) (x:=u) (by simpa using hu) fun h' st' sb=>?_
  have I1:Inv X pins Y H { s with heap:=h' }:=I.turned (t':=s.toks) (fun b o hb e=>(sb.2 b hb).trans e) f0 f1 f3 f4 f5;obtain ⟨o,e,c,d⟩:=id st';exact ⟨u,rfl,go_of (s:={ s with heap:=h' }) e c d 'h' ⟨x,H,I1,ru,⟨rfl,fun ys hy=>by rw [I.tuple_inj hy hq];exact hx⟩,st',fun b hb=>(hf b hb).1⟩⟩
 done:=by
  intro X hP hw hK hc i pins s Y H E I hf st hg;subst hP hw hK;obtain ⟨xs,hq,hx⟩:=hg;obtain ⟨its,rv,p,hz⟩:=I.tuple hq;obtain ⟨f0,f1,f2,f3,f4,f5⟩:=hf it 'c';have hl:=rv.length;exact wpAny_pyNext_tuple_end (I.ok.hd hc) st (show s.heap.IsTuple a its.toArray from p) (by simp;lia) fun h' eb=>⟨rfl,I.turned (t':=s.toks) (fun b o hb e=>eb b o hb e) f0 f1 f3 f4 f5⟩
 self:=fun _ _ _ _ _ st h=>wpAny_pyIter_tupleiter st h
theorem ai1{P:Program}{w:World}{K:PySem.W.Frag}{tg:Expr}(it:Addr)(lo:Int)(n:Nat):Turn P w K tg (o9 lo n) [it] it (fun i h=>IsRangeIter h it (lo+(i:Nat)*1) ((n:Int)-(i:Nat)) 1) where
 mem:=by simp
 obj:=fun i h st b hb=>by
  have e:b=it:=by simpa using hb
  subst e;exact ⟨_,st,fun v z=>by
   have z':Data.fields _=Data.cell v:=z
   cases z'⟩
 keep:=fun i h h' st k=>k it 'c' _ st
 item:=by
  intro X hP hw hK hc i pins s Y H E I hf st hg;subst hP hw hK;obtain ⟨f0,f1,f2,f3,f4,f5⟩:=hf it 'c';have W:=Walks.range (prog:=X.prog) (w:=X.w) (I.ok.hd hc) it lo 1 n;refine W.item i s _ _ hg st fun v h' tk hv st' kk=>?_
  obtain ⟨t,rfl⟩:=hv;have I1:Inv X pins Y H { s with heap:=h',toks:=tk }:=I.turned (fun b o hb e=>kk b o (by simpa using hb) e) f0 f1 f3 f4 f5;refine ⟨_,rfl,go_of (s:={ s with heap:=h',toks:=tk }) (n:="range_iterator") st' rfl rfl 'h' ⟨.int (lo+i),H,I1,⟨t,?_⟩,⟨rfl,rfl⟩,st',fun b hb=>(hf b hb).1⟩⟩;rw [Int.mul_one]
 done:=by
  intro X hP hw hK hc i pins s Y H E I hf st hg;subst hP hw hK;obtain ⟨f0,f1,f2,f3,f4,f5⟩:=hf it 'c';exact wpAny_pyNext_range_end (I.ok.hd hc) st (by have:n<=i:=hg;lia) fun h' eb=>⟨rfl,I.turned (t':=s.toks) (fun b o hb e=>eb b o hb e) f0 f1 f3 f4 f5⟩
 self:=fun _ _ _ _ _ st h=>wpAny_pyIter_rangeiter st h
section
variable {X:Cx} {tg:Expr}
noncomputable def iList (K:PySem.W.Frag) (tl:TE):TI:=fun Y H R=>tl Y H fun x H1=>∃ a,x=.ref a/\(∃ xs,D9 K H1 a xs)/\R (aO K a) H1
noncomputable def iTup (K:PySem.W.Frag) (tl:TE):TI:=fun Y H R=>tl Y H fun x H1=>∃ a,x=.ref a/\(∃ xs,C6 K H1 a xs)/\R (dS K a) H1
theorem anx{l:Expr}{tl:TE}(hl:PE X l tl):PI X tg l (iList X.K tl):=by
 intro pins s Y H R I h;refine B3 (hl pins s Y H _ I h) fun v s1 ⟨x,H1,I1,r1,q1⟩=>?_
 obtain ⟨a,e,⟨xs,hq⟩,q⟩:=q1;subst e
 cases r1
 obtain ⟨its,rv,p,hz⟩:=I1.list hq;refine wpAny_pyIter_list p.isList ?_;refine ⟨s1.heap.objs.size,[s1.heap.objs.size],_,_,H1,rfl,I1.kept (t':=s1.toks) fun b o e=>Heap.get?_push_of_some _ e,ajO a _,⟨_,Heap.get?_push_size _ rfl,rfl,rfl⟩,fun b hb=>?_,q⟩;have e:b=s1.heap.objs.size:=by simpa using hb
 subst e;exact I1.fpOk (B5 _) (I1.hok.fresh (B5 _))
theorem aqj{l:Expr}{tl:TE}(hl:PE X l tl):PI X tg l (iTup X.K tl):=by
 intro pins s Y H R I h;refine B3 (hl pins s Y H _ I h) fun v s1 ⟨x,H1,I1,r1,q1⟩=>?_
 obtain ⟨a,e,⟨xs,hq⟩,q⟩:=q1;subst e
 cases r1
 obtain ⟨its,rv,p,hz⟩:=I1.tuple hq;refine wpAny_pyIter_tuple (show s1.heap.IsTuple a its.toArray from p) ?_;refine ⟨s1.heap.objs.size,[s1.heap.objs.size],_,_,H1,rfl,I1.kept (t':=s1.toks) fun b o e=>Heap.get?_push_of_some _ e,ai0 a _,⟨_,Heap.get?_push_size _ rfl,rfl,rfl⟩,fun b hb=>?_,q⟩;have e:b=s1.heap.objs.size:=by simpa using hb
 subst e;exact I1.fpOk (B5 _) (I1.hok.fresh (B5 _))
theorem aih{pins:List (Addr×Obj)}{Y:St}{H:Hp}{s:Shared}{R:It->Hp->Prop}{E:Value->Shared->Prop}{lo hi:Int}{t u v:Tok}{tk:Nat}(I:Inv X pins Y H s)(h1:-(2 ^ 62)<=lo)(h2:lo<2 ^ 62)(h3:-(2 ^ 62)<=hi)(h4:hi<2 ^ 62)(q:R (o9 lo (hi-lo).toNat) H):wpAny 'b' X.A (pyIter (.ref s.heap.objs.size)) (wN X pins Y tg R) E { s with heap:=s.heap.push { cls:=.type "range",data:=.fields #[.int lo t,.int hi u,.int 1 v] },toks:=tk }:=by
 refine wpAny_pyIter_range (IsRange.new ..) (small_one h1 h2 h3 h4) ?_;have I1:Inv X pins Y H { s with heap:=s.heap.push { cls:=.type "range",data:=.fields #[.int lo t,.int hi u,.int 1 v] },toks:=tk }:=I.kept fun b o e=>Heap.get?_push_of_some _ e
 refine ⟨(s.heap.push { cls:=.type "range",data:=.fields #[.int lo t,.int hi u,.int 1 v] }).objs.size,[(s.heap.push { cls:=.type "range",data:=.fields #[.int lo t,.int hi u,.int 1 v] }).objs.size],_,_,H,rfl,
  I1.kept (t':=tk) fun b o e=>Heap.get?_push_of_some _ e,ai1 _ lo (hi-lo).toNat,?_,fun b hb=>?_,q⟩
 .have e1:lo+((0:Nat):Int)*1=lo:=by simp
  have e2:(((hi-lo).toNat:Nat):Int)-((0:Nat):Int)=Builtin.Range.rangeSize lo hi 1:=by rw [rangeSize_one];split <;> lia
  show IsRangeIter _ _ (lo+((0:Nat):Int)*1) ((((hi-lo).toNat:Nat):Int)-((0:Nat):Int)) 1;rw [e1,e2];exact Heap.get?_push_size _ rfl
 .have e:b=(s.heap.push { cls:=.type "range",data:=.fields #[.int lo t,.int hi u,.int 1 v] }).objs.size:=by simpa using hb
  subst e;exact I1.fpOk (B5 _) (I1.hok.fresh (B5 _))
noncomputable def iRng1 (ta:TA):TI:=fun Y H R=>ta Y H fun vs H1=>∃ j:Int,vs=[.int j]/\-(2 ^ 62)<=j/\j<2 ^ 62/\R (o9 0 j.toNat) H1
noncomputable def iRng2 (ta:TA):TI:=fun Y H R=>ta Y H fun vs H1=>∃ i j:Int,vs=[.int i,.int j]/\(-(2 ^ 62)<=i/\i<2 ^ 62/\-(2 ^ 62)<=j/\j<2 ^ 62)/\R (o9 i (j-i).toNat) H1
theorem ajP{a:Expr}{ta:TA}{p pos:Pos}(hg:Gl X "range")(hm:X.mg "range"=none)(ha:PA X [a] ta)(hs:starEach [a] X.env=[(false,eval a X.env)]:=by rfl):PI X tg (.Call (.Name "range" p) [a] [] pos) (iRng1 ta):=by
 intro pins s Y H R I h;refine Call_ (dR I hg hm boot_range (PyProof.Rows.callWith_type1 (B3 (ha pos pins s Y H _ I h) fun us s1 ⟨vs,H1,I1,r1,q1⟩=>?_) hs rfl));obtain ⟨j,e,q1,q2,q⟩:=q1;subst e
 cases r1 with
 | cons r rr=>
  cases rr
  obtain ⟨t,rfl⟩:=r;exact call_range_1 (aih I1 'a' 'a' q1 q2 (by simpa using q))
theorem ajQ{a b:Expr}{ta:TA}{p pos:Pos}(hg:Gl X "range")(hm:X.mg "range"=none)(ha:PA X [a,b] ta)(hs:starEach [a,b] X.env=[(false,eval a X.env),(false,eval b X.env)]:=by rfl)(x6:starEach [b] X.env=[(false,eval b X.env)]:=by rfl) :
  PI X tg (.Call (.Name "range" p) [a,b] [] pos) (iRng2 ta):=by
 intro pins s Y H R I h;refine Call_ (dR I hg hm boot_range (PyProof.Rows.callWith_type1 (B3 (ha pos pins s Y H _ I h) fun us s1 ⟨vs,H1,I1,r1,q1⟩=>?_) (by rw [hs,x6]) (by rw [x6];rfl)));obtain ⟨i,j,e,⟨q1,q2,q3,q4⟩,q⟩:=q1;subst e
 cases r1 with
 | cons r rr=>
  cases rr with
  | cons r' rr=>
   cases rr
   obtain ⟨t,rfl⟩:=r;obtain ⟨t',rfl⟩:=r';exact call_range_2 (aih I1 q1 q2 q3 q4 q)
noncomputable def tFor (wi:TI) (g:TG) (tb:TS):TS:=fun D Y H=>wi Y H fun J H1=>∃ W:Nat->Nat->St->Hp->Prop,(∃ m,W 0 m Y H1)/\∀ i m Y H,W i m Y H->
 (J.stop i H/\D.nx Y H)\/(J.go i H/\∃ N:St->Hp->Prop,(∀ σ' H',N σ' H'->∃ m',m'<m/\W (i+1) m' σ' H')/\∀ x H',J.yld i H x H'->g x Y H' fun σ2 H2=>tb { D with nx:=N,ct:=N,bk:=D.nx } σ2 H2)
noncomputable def jU (fp:List Addr) (h:Heap):List (Addr×Obj):=fp.filterMap fun b=>(h.get? b).map fun o=>(b,o)
theorem jV{fp:List Addr}{h:Heap}{b:Addr}{o:Obj}(hb:b∈fp)(e:h.get? b=some o):(b,o)∈jU fp h:=fT.mpr ⟨b,hb,by rw [e];rfl⟩
theorem ajR{fp:List Addr}{h:Heap}{p:Addr×Obj}(hp:p∈jU fp h):p.1∈fp/\h.get? p.1=some p.2:=by
 obtain ⟨b,hb,e⟩:=fT.mp hp
 cases q:h.get? b with
 | none=>rw [q] at e;cases e
 | some o=>
  rw [q] at e;have e':(b,o)=p:=Option.some.inj e;subst e';exact ⟨hb,q⟩
theorem Inv.pinned{pins:List (Addr×Obj)}{Y:St}{H:Hp}{s:Shared}{fp:List Addr}(I:Inv X pins Y H s)(hf:∀ b∈fp,FpOk X pins H b)(ho:∀ b∈fp,∃ o,s.heap.get? b=some o/\∀ v,o.data≠.cell v):Inv X (pins++jU fp s.heap) Y H s:=
 I.pins_of fun p hp=>(E1.mp hp).elim (fun z=>I.pin p (U7 _ z)) fun z=>by
  obtain ⟨hb,e⟩:=ajR z;obtain ⟨f0,f1,f2,_⟩:=hf p.1 hb;obtain ⟨o,e',d⟩:=ho p.1 hb;rw [e] at e';cases e';exact ⟨e,f0,f1,f2,d⟩
theorem Inv.unpinned{pins pl:List (Addr×Obj)}{Y:St}{H:Hp}{s:Shared}(I:Inv X (pins++pl) Y H s):Inv X pins Y H s:=I.pins_of fun p hp=>I.pin p (U7 _ (T3 _ hp))
theorem aqk{iter:Expr}{body:List Stmt}{wi:TI}{g:TG}{tb:TS}{pos:Pos}(hp:PassesOwn 'b' X.A X.env X.xe)(hc:X.calm=true)(hi:PI X tg iter wi)(hg:PG X tg g)(hb:b9 X body tb)(hs:∀ x,foldedSetIterable iter X.env x=pure x:=by intro _;rfl):PS X (.For tg iter body [] pos) (tFor wi g tb):=by
 intro pins s Y H D I h;refine wpAny_For (B3 (hi pins s Y H _ I h) fun v s1 h1=>B3 h1 fun itv s2 h2=>?_) hs;obtain ⟨it,fp,tn,J,H2,e,I2,T,pR,f2,W,⟨m0,w0⟩,turn⟩:=h2;subst e;have stat:∀ {H':Hp},(∀ b∈fp,H' b=none)->∀ b∈fp,FpOk X pins H' b:=fun hn b hb=>⟨hn b hb,(f2 b hb).2⟩
 refine codeAny_forLoop_any (fun n s'=>∃ i σ' H',Inv X pins σ' H' s'/\tn i s'.heap/\(∀ b∈fp,H' b=none)/\W i n σ' H') ?_ m0 ⟨0,Y,H2,I2,pR,fun b hb=>(f2 b hb).1,w0⟩;rintro n s3 ⟨i,σ3,H3,I3,eT,pS,w3⟩
 rcases turn i n σ3 H3 w3 with ⟨stop,qn⟩ | ⟨go,N,hN,step⟩
 .refine wpAny_passesOwn hp (B3 (T.done X rfl rfl rfl hc i pins s3 σ3 H3 X.xe I3 (stat pS) eT stop) fun r s4 ⟨hr,I4⟩=>?_);subst hr;exact wpAny_execs_nil ⟨σ3,H3,I4,qn⟩
 .refine wpAny_passesOwn hp (B3 (T.item X rfl rfl rfl hc i pins s3 σ3 H3 X.xe I3 (stat pS) eT go) fun r s4 ⟨u,hr,h4⟩=>?_);subst hr;refine wpAny_passesOwn hp (B3 h4 fun _ s5 ⟨x,H5,I5,r5,y5,iK,fr5⟩=>?_);have I5':=I5.pinned (stat fr5) (T.obj _ _ iK);refine wpAny_passesOwn hp (B3 (hg _ s5 σ3 H5 x u _ I5' r5 (step x H5 y5)) fun _ s6 ⟨σ6,H6,I6,q6⟩=>?_);refine wpAny_passesOwn hp (B3 (hb _ s6 σ6 H6 _ I6 q6) fun f s7 q7=>?_);have again:∀ {σ7:St} {H7:Hp},Inv X (pins++jU fp s5.heap) σ7 H7 s7->N σ7 H7->∃ m,m<n/\∃ i σ' H',Inv X pins σ' H' s7/\tn i s7.heap/\(∀ b∈fp,H' b=none)/\W i m σ' H':=fun {σ7 H7} I7 n7=>by
   obtain ⟨m',hm,w7⟩:=hN σ7 H7 n7;refine ⟨m',hm,i+1,σ7,H7,I7.unpinned,T.keep _ _ _ iK fun b hb o e=>(I7.pin (b,o) (U7 _ (U7 _ (jV hb e)))).1,fun b hb=>?_,w7⟩;obtain ⟨o,e,d⟩:=T.obj _ _ iK b hb;exact (I7.pin (b,o) (U7 _ (U7 _ (jV hb e)))).2.1
  cases f with
  | next=>obtain ⟨σ7,H7,I7,n7⟩:=q7;exact again I7 n7
  | cont=>obtain ⟨σ7,H7,I7,n7⟩:=q7;exact again I7 n7
  | brk=>obtain ⟨σ7,H7,I7,q7⟩:=q7;exact ⟨σ7,H7,I7.unpinned,q7⟩
  | ret v=>obtain ⟨x7,σ7,H7,I7,r7,q7⟩:=q7;exact ⟨x7,σ7,H7,I7.unpinned,r7,q7⟩
end
theorem alF{K:PySem.W.Frag}{a:Addr}{xs:List V}{g:TG}{tb:TS}{D:Ends}{Y:St}{H:Hp}(Pv:Nat->St->Hp->Prop)(h0:Pv 0 Y H)(hl:∀ i Y H,i<=xs.length->Pv i Y H->D9 K H a xs)(hs:∀ i x Y H,xs[i]?=some x->Pv i Y H->g x Y H fun σ2 H2=>tb { D with nx:=Pv (i+1),ct:=Pv (i+1),bk:=D.nx } σ2 H2)(hd:∀ Y H,Pv xs.length Y H->D.nx Y H) :
  ∃ W:Nat->Nat->St->Hp->Prop,(∃ m,W 0 m Y H)/\∀ i m Y H,W i m Y H->
   ((aO K a).stop i H/\D.nx Y H)\/((aO K a).go i H/\∃ N:St->Hp->Prop,(∀ σ' H',N σ' H'->∃ m',m'<m/\W (i+1) m' σ' H')/\∀ x H',(aO K a).yld i H x H'->g x Y H' fun σ2 H2=>tb { D with nx:=N,ct:=N,bk:=D.nx } σ2 H2):=by
 refine ⟨fun i m Y H=>m=xs.length-i/\i<=xs.length/\Pv i Y H,⟨xs.length,by simp,F9 _,h0⟩,?_⟩;rintro i m Y H ⟨rfl,hi,p⟩;have q:=hl i Y H hi p
 by_cases C9:i<xs.length
 .refine .inr ⟨⟨xs,xs[i],q,by simp [C9]⟩,Pv (i+1),fun σ' H' p'=>⟨xs.length-(i+1),by lia,rfl,C9,p'⟩,fun x H' y=>?_⟩;obtain ⟨e,y⟩:=y;subst e;exact hs i x Y _ (y xs q) p
 .have e:i=xs.length:=by lia
  subst e;exact .inl ⟨⟨xs,q,B5 _⟩,hd Y H p⟩
theorem anz{K:PySem.W.Frag}{a:Addr}{xs:List V}{g:TG}{tb:TS}{D:Ends}{Y:St}{H:Hp}(Pv:Nat->St->Hp->Prop)(h0:Pv 0 Y H)(hl:∀ i Y H,i<=xs.length->Pv i Y H->C6 K H a xs)(hs:∀ i x Y H,xs[i]?=some x->Pv i Y H->g x Y H fun σ2 H2=>tb { D with nx:=Pv (i+1),ct:=Pv (i+1),bk:=D.nx } σ2 H2)(hd:∀ Y H,Pv xs.length Y H->D.nx Y H) :
  ∃ W:Nat->Nat->St->Hp->Prop,(∃ m,W 0 m Y H)/\∀ i m Y H,W i m Y H->
   ((dS K a).stop i H/\D.nx Y H)\/((dS K a).go i H/\∃ N:St->Hp->Prop,(∀ σ' H',N σ' H'->∃ m',m'<m/\W (i+1) m' σ' H')/\∀ x H',(dS K a).yld i H x H'->g x Y H' fun σ2 H2=>tb { D with nx:=N,ct:=N,bk:=D.nx } σ2 H2):=by
 refine ⟨fun i m Y H=>m=xs.length-i/\i<=xs.length/\Pv i Y H,⟨xs.length,by simp,F9 _,h0⟩,?_⟩;rintro i m Y H ⟨rfl,hi,p⟩;have q:=hl i Y H hi p
 by_cases C9:i<xs.length
 .refine .inr ⟨⟨xs,xs[i],q,by simp [C9]⟩,Pv (i+1),fun σ' H' p'=>⟨xs.length-(i+1),by lia,rfl,C9,p'⟩,fun x H' y=>?_⟩;obtain ⟨e,y⟩:=y;subst e;exact hs i x Y _ (y xs q) p
 .have e:i=xs.length:=by lia
  subst e;exact .inl ⟨⟨xs,q,B5 _⟩,hd Y H p⟩
theorem ajS{lo:Int}{n:Nat}{g:TG}{tb:TS}{D:Ends}{Y:St}{H:Hp}(Pv:Nat->St->Hp->Prop)(h0:Pv 0 Y H)(hs:∀ i Y H,i<n->Pv i Y H->g (.int (lo+i)) Y H fun σ2 H2=>tb { D with nx:=Pv (i+1),ct:=Pv (i+1),bk:=D.nx } σ2 H2)(hd:∀ Y H,Pv n Y H->D.nx Y H) :
  ∃ W:Nat->Nat->St->Hp->Prop,(∃ m,W 0 m Y H)/\∀ i m Y H,W i m Y H->
   ((o9 lo n).stop i H/\D.nx Y H)\/((o9 lo n).go i H/\∃ N:St->Hp->Prop,(∀ σ' H',N σ' H'->∃ m',m'<m/\W (i+1) m' σ' H')/\∀ x H',(o9 lo n).yld i H x H'->g x Y H' fun σ2 H2=>tb { D with nx:=N,ct:=N,bk:=D.nx } σ2 H2):=by
 refine ⟨fun i m Y H=>m=n-i/\i<=n/\Pv i Y H,⟨n,by simp,F9 _,h0⟩,?_⟩;rintro i m Y H ⟨rfl,hi,p⟩
 by_cases C9:i<n
 .refine .inr ⟨C9,Pv (i+1),fun σ' H' p'=>⟨n-(i+1),by lia,rfl,C9,p'⟩,fun x H' y=>?_⟩;obtain ⟨e,y⟩:=y;subst e y;exact hs i Y _ C9 p
 .have e:i=n:=by lia
  subst e;exact .inl ⟨B5 _,hd Y H p⟩
noncomputable abbrev R2:=V->V->Hp->VK->Prop
noncomputable def L0 (X:Cx) (f:Value->Value->Sem Value) (r:R2):Prop:=
 ∀ (pins:List (Addr×Obj)) (s:Shared) (Y:St) (H:Hp) (x y:V) (v u:Value) (Q:VK),Inv X pins Y H s->RelV x v->RelV y u->r x y H Q->
  wpAny 'b' X.A (f v u) (EP X pins Y Q) X.xe s
noncomputable def sE (X:Cx) (f:Value->Sem Value) (r:V->Hp->VK->Prop):Prop:=
 ∀ (pins:List (Addr×Obj)) (s:Shared) (Y:St) (H:Hp) (x:V) (v:Value) (Q:VK),Inv X pins Y H s->RelV x v->r x H Q->
  wpAny 'b' X.A (f v) (EP X pins Y Q) X.xe s
noncomputable def CallR (X:Cx) (f:Value) (r:List V->Hp->VK->Prop):Prop:=
 ∀ (pins:List (Addr×Obj)) (s:Shared) (Y:St) (H:Hp) (xs:List V) (us:List Value) (Q:VK),Inv X pins Y H s->Vals xs us->r xs H Q->
  wpAny 'b' X.A (call f us) (EP X pins Y Q) X.xe s
noncomputable def TruR (X:Cx) (r:V->Hp->(Bool->Hp->Prop)->Prop):Prop:=
 ∀ (pins:List (Addr×Obj)) (s:Shared) (Y:St) (H:Hp) (x:V) (v:Value) (Q:Bool->Hp->Prop),Inv X pins Y H s->RelV x v->r x H Q->
  wpAny 'b' X.A (truthy v) (TP X pins Y Q) X.xe s
noncomputable def bZ (r:R2) (ta tb:TE):TE:=fun Y H Q=>ta Y H fun x H1=>tb Y H1 fun y H2=>r x y H2 Q
noncomputable def wO (r:V->Hp->VK->Prop) (ta:TE):TE:=fun Y H Q=>ta Y H fun x H1=>r x H1 Q
noncomputable def rI (C:Int->Int->Prop) (g:Int->Int->V):R2:=fun x y H Q=>∃ i j,x=.int i/\y=.int j/\C i j/\Q (g i j) H
noncomputable def aP (g:Int->Int->V):R2:=fun x y H Q=>∃ i j,x=.int i/\y=.int j/\Q (g i j) H
noncomputable def rU (g:Int->V):V->Hp->VK->Prop:=fun x H Q=>∃ i,x=.int i/\Q (g i) H
section
variable {X:Cx} {a b c:Expr} {ta tb tc:TE} {pos:Pos}
theorem binT(ha:PE X a ta)(hb:PE X b tb){pins:List (Addr×Obj)}{s:Shared}{Y:St}{H:Hp}{R:V->V->Hp->Prop}(I:Inv X pins Y H s)(h:ta Y H fun x H1=>tb Y H1 fun y H2=>R x y H2){Q:Value->Shared->Prop}{f:Value->Value->Sem Value}(hf:∀ v u s2 x y H2,Inv X pins Y H2 s2->RelV x v->RelV y u->R x y H2->wpAny 'b' X.A (f v u) Q X.xe s2) :
  wpAny 'b' X.A (eval a X.env) (fun v zu=>wpAny 'b' X.A (eval b X.env) (fun u zx=>wpAny 'b' X.A (f v u) Q X.xe zx) X.xe zu) X.xe s:=by
 refine B3 (ha pins s Y H _ I h) fun v s1 ⟨x,H1,I1,r1,q1⟩=>?_
 refine B3 (hb pins s1 Y H1 _ I1 q1) fun u s2 ⟨y,H2,I2,r2,q2⟩=>?_
 exact hf v u s2 x y H2 I2 r1 r2 q2
theorem pe_op{op:Operator}{r:R2}(ho:L0 X (binaryOp op) r)(ha:PE X a ta)(hb:PE X b tb):PE X (.BinOp a op b pos) (bZ r ta tb):=by
 sleep 1;exact wpAny_BinOp (binT ha hb I h fun v u s2 x y H2 I2 rx ry q=>ho pins s2 Y H2 x y v u Q I2 rx ry q)
theorem pe_un{op:UnaryOp}{r:V->Hp->VK->Prop}(ho:sE X (unaryOp op) r)(ha:PE X a ta):PE X (.UnaryOp op a pos) (wO r ta):=by
 sleep 1;exact UnaryOp_ (B3 (ha pins s Y H _ I h) fun v s1 ⟨x,H1,I1,r1,q1⟩=>ho pins s1 Y H1 x v Q I1 r1 q1)
theorem sF{f:Value->Value->Sem Value}{C:Int->Int->Prop}{g:Int->Int->Int}(rule:∀ (i j:Int) (t u:Tok) (s:Shared) (Q:Value->Shared->Prop) (E:Value->Shared->Prop),C i j->Q (.int (g i j) s.toks) { s with toks:=s.toks+1 }->wpAny 'b' X.A (f (.int i t) (.int j u)) Q E s) :
  L0 X f (rI C fun i j=>.int (g i j)):=by
 sleep 0;obtain ⟨i,j,rfl,rfl,hc,q⟩:=h;obtain ⟨t,rfl⟩:=rx;obtain ⟨t',rfl⟩:=ry;exact rule i j t t' s _ _ hc ⟨.int (g i j),H,I.tok _,⟨_,rfl⟩,q⟩
theorem opI0{f:Value->Value->Sem Value}{g:Int->Int->Int}(rule:∀ (i j:Int) (t u:Tok) (s:Shared) (Q:Value->Shared->Prop) (E:Value->Shared->Prop),Q (.int (g i j) s.toks) { s with toks:=s.toks+1 }->wpAny 'b' X.A (f (.int i t) (.int j u)) Q E s) :
  L0 X f (aP fun i j=>.int (g i j)):=by
 sleep 0;obtain ⟨i,j,rfl,rfl,q⟩:=h;obtain ⟨t,rfl⟩:=rx;obtain ⟨t',rfl⟩:=ry;exact rule i j t t' s _ _ ⟨.int (g i j),H,I.tok _,⟨_,rfl⟩,q⟩
theorem opB0{f:Value->Value->Sem Value}{g:Int->Int->Bool}(rule:∀ (i j:Int) (t u:Tok) (s:Shared) (Q:Value->Shared->Prop) (E:Value->Shared->Prop),Q (.bool (g i j)) s->wpAny 'b' X.A (f (.int i t) (.int j u)) Q E s) :
  L0 X f (aP fun i j=>.bl (g i j)):=by
 sleep 0;obtain ⟨i,j,rfl,rfl,q⟩:=h;obtain ⟨t,rfl⟩:=rx;obtain ⟨t',rfl⟩:=ry;exact rule i j t t' s _ _ ⟨.bl (g i j),H,I,rfl,q⟩
noncomputable def CDiv (i j:Int):Prop:=0<j/\j<1073741824
noncomputable def CPow (i j:Int):Prop:=0<=j/\j<=1000000/\i.natAbs<2 ^ 64
noncomputable def CMul (i j:Int):Prop:=(-(2 ^ 64)<i/\i<2 ^ 64)\/(-(2 ^ 64)<j/\j<2 ^ 64)
theorem CMul.ok{i j:Int}(h:CMul i j):IntMulOk i j:=by
 rcases h with ⟨h1,h2⟩ | ⟨h1,h2⟩
 .exact .of_left (intBits_le_64 h1 h2)
 .exact .of_right (intBits_le_64 h1 h2)
theorem aql:L0 X (binaryOp .Add) (aP fun i j=>.int (i+j)):=opI0 fun _ _ _ _ _ _ _ q=>add_int q
theorem aqm:L0 X (binaryOp .Sub) (aP fun i j=>.int (i-j)):=opI0 fun _ _ _ _ _ _ _ q=>sub_int q
theorem aqn:L0 X (binaryOp .Mult) (rI CMul fun i j=>.int (i*j)):=sF fun _ _ _ _ _ _ _ hc q=>mul_int q hc.ok
theorem anA:L0 X (binaryOp .FloorDiv) (rI CDiv fun i j=>.int (i / j)):=sF fun i j _ _ _ _ _ hc q=>by
 have h1:(0:Int)<j:=hc.1;have h2:j<1073741824:=hc.2;exact floordiv_int 'a' (by rw [Int.fdiv_eq_ediv_of_nonneg i 'a'];exact q) (.inl (PyProof.noPylong_small 'a'))
theorem aqo:L0 X (binaryOp .Mod) (rI (fun _ j=>0<j) fun i j=>.int (i % j)):=sF fun i j _ _ _ _ _ hc q=>by
 have h1:(0:Int)<j:=hc;exact mod_int' 'a' (by rw [Int.fmod_eq_emod_of_nonneg i 'a'];exact q)
theorem aqp:L0 X (binaryOp .Pow) (rI CPow fun i j=>.int (i ^ j.toNat)):=sF fun _ _ _ _ _ _ _ hc q=>pow_int_small hc.1 hc.2.1 hc.2.2 q
theorem unI{f:Value->Sem Value}{g:Int->Int}(rule:∀ (i:Int) (t:Tok) (s:Shared) (Q:Value->Shared->Prop) (E:Value->Shared->Prop),Q (.int (g i) s.toks) { s with toks:=s.toks+1 }->wpAny 'b' X.A (f (.int i t)) Q E s) :
  sE X f (rU fun i=>.int (g i)):=by
 intro pins s Y H x v Q I rx h;obtain ⟨i,rfl,q⟩:=h;obtain ⟨t,rfl⟩:=rx;exact rule i t s _ _ ⟨.int (g i),H,I.tok _,⟨_,rfl⟩,q⟩
theorem aqq:sE X (unaryOp .USub) (rU fun i=>.int (-i)):=unI fun _ _ _ _ _ q=>neg_int q
end
noncomputable def scal:V->V->Bool
 | .non,.non=>true | .non,.int _=>true | .int _,.non=>true | .non,.bl _=>true | .bl _,.non=>true | .non,.str _=>true | .str _,.non=>true
 | .int _,.int _=>true | .bl _,.bl _=>true | .str _,.str _=>true | .byt _,.byt _=>true
 | .int _,.str _=>true | .str _,.int _=>true | .bl _,.str _=>true | .str _,.bl _=>true
 | _,_=>false
noncomputable def rEq:R2:=fun x y H Q=>scal x y=true/\Q (.bl (decide (x=y))) H
noncomputable def rNe:R2:=fun x y H Q=>scal x y=true/\Q (.bl (!decide (x=y))) H
theorem ajT{i j:Int} : decide (V.int i=V.int j)=(i==j):=by
 rw [aL]
 simp
theorem amW{i j:Bool} : decide (V.bl i=V.bl j)=(i==j):=by
 rw [aL]
 simp
theorem ajU{i j:Str} : decide (V.str i=V.str j)=(i==j):=by
 rw [aL]
 simp
theorem ajV{i j:Array UInt8} : decide (V.byt i=V.byt j)=(i.toList==j.toList):=by
 rw [aL]
 cases i
 cases j
 simp
section
variable {X:Cx} {a b c:Expr} {ta tb tc:TE} {pos:Pos}
theorem N7{pins:List (Addr×Obj)}{Y:St}{H:Hp}{s:Shared}{Q:VK}{k k':Bool}(I:Inv X pins Y H s)(q:Q (.bl k) H)(e:k=k'):EP X pins Y Q (.bool k') s:=by
 subst e;exact ⟨.bl k,H,I,rfl,q⟩
theorem op_eq:L0 X (compareOp .Eq) rEq:=by
 sleep 0;obtain ⟨hs,q⟩:=h
 cases x with
 | non=>
  cases rx
  cases y with
  | non=>cases ry;exact PySem.EqNone.eq_none_none (N7 I q 'c')
  | bl j=>cases ry;exact PySem.EqNone.eq_none_bool (N7 I q 'c')
  | int j=>obtain ⟨t',rfl⟩:=ry;exact PySem.EqNone.eq_none_int (N7 I q 'c')
  | str j=>obtain ⟨t',rfl⟩:=ry;exact PySem.EqNone.eq_none_str (N7 I q 'c')
  | _=>exact absurd (show false=true from hs) M4
 | bl i=>
  cases rx
  cases y with
  | non=>cases ry;exact PySem.EqNone.eq_bool_none (N7 I q 'c')
  | bl j=>cases ry;exact eq_bool (N7 I q amW)
  | str j=>obtain ⟨t',rfl⟩:=ry;exact PySem.EqMixed.eq_bool_str (N7 I q 'c')
  | _=>exact absurd (show false=true from hs) M4
 | int i=>
  obtain ⟨t,rfl⟩:=rx
  cases y with
  | non=>cases ry;exact PySem.EqNone.eq_int_none (N7 I q 'c')
  | int j=>obtain ⟨t',rfl⟩:=ry;exact eq_int (N7 I q ajT)
  | str j=>obtain ⟨t',rfl⟩:=ry;exact PySem.EqMixed.eq_int_str (N7 I q 'c')
  | _=>exact absurd (show false=true from hs) M4
 | str i=>
  obtain ⟨t,rfl⟩:=rx
  cases y with
  | non=>cases ry;exact PySem.EqNone.eq_str_none (N7 I q 'c')
  | bl j=>cases ry;exact PySem.EqMixed.eq_str_bool (N7 I q 'c')
  | int j=>obtain ⟨t',rfl⟩:=ry;exact PySem.EqMixed.eq_str_int (N7 I q 'c')
  | str j=>obtain ⟨t',rfl⟩:=ry;exact eq_str (N7 I q ajU)
  | _=>exact absurd (show false=true from hs) M4
 | byt i=>
  obtain ⟨t,rfl⟩:=rx
  cases y with
  | byt j=>obtain ⟨t',rfl⟩:=ry;exact PySem.W.eq_bytes (N7 I q ajV)
  | _=>exact absurd (show false=true from hs) M4
 | _=>cases y <;> exact absurd (show false=true from hs) M4
theorem op_ne:L0 X (compareOp .NotEq) rNe:=by
 sleep 0;obtain ⟨hs,q⟩:=h
 cases x with
 | non=>
  cases rx
  cases y with
  | non=>cases ry;exact PySem.EqNone.ne_none_none (N7 I q 'c')
  | bl j=>cases ry;exact PySem.EqNone.ne_none_bool (N7 I q 'c')
  | int j=>obtain ⟨t',rfl⟩:=ry;exact PySem.EqNone.ne_none_int (N7 I q 'c')
  | str j=>obtain ⟨t',rfl⟩:=ry;exact PySem.EqNone.ne_none_str (N7 I q 'c')
  | _=>exact absurd (show false=true from hs) M4
 | bl i=>
  cases rx
  cases y with
  | non=>cases ry;exact PySem.EqNone.ne_bool_none (N7 I q 'c')
  | bl j=>cases ry;exact ne_bool (N7 I q (congrArg not amW))
  | str j=>obtain ⟨t',rfl⟩:=ry;exact PySem.EqMixed.ne_bool_str (N7 I q 'c')
  | _=>exact absurd (show false=true from hs) M4
 | int i=>
  obtain ⟨t,rfl⟩:=rx
  cases y with
  | non=>cases ry;exact PySem.EqNone.ne_int_none (N7 I q 'c')
  | int j=>obtain ⟨t',rfl⟩:=ry;exact ne_int (N7 I q (congrArg not ajT))
  | str j=>obtain ⟨t',rfl⟩:=ry;exact PySem.EqMixed.ne_int_str (N7 I q 'c')
  | _=>exact absurd (show false=true from hs) M4
 | str i=>
  obtain ⟨t,rfl⟩:=rx
  cases y with
  | non=>cases ry;exact PySem.EqNone.ne_str_none (N7 I q 'c')
  | bl j=>cases ry;exact PySem.EqMixed.ne_str_bool (N7 I q 'c')
  | int j=>obtain ⟨t',rfl⟩:=ry;exact PySem.EqMixed.ne_str_int (N7 I q 'c')
  | str j=>obtain ⟨t',rfl⟩:=ry;exact ne_str (N7 I q (congrArg not ajU))
  | _=>exact absurd (show false=true from hs) M4
 | byt i=>
  obtain ⟨t,rfl⟩:=rx
  cases y with
  | byt j=>obtain ⟨t',rfl⟩:=ry;exact PySem.W.ne_bytes (N7 I q (congrArg not ajV))
  | _=>exact absurd (show false=true from hs) M4
 | _=>cases y <;> exact absurd (show false=true from hs) M4
theorem op_lt:L0 X (compareOp .Lt) (aP fun i j=>.bl (decide (i<j))):=opB0 fun _ _ _ _ _ _ _ q=>lt_int q
theorem op_le:L0 X (compareOp .LtE) (aP fun i j=>.bl (decide (i<=j))):=opB0 fun _ _ _ _ _ _ _ q=>le_int q
theorem op_gt:L0 X (compareOp .Gt) (aP fun i j=>.bl (decide (j<i))):=opB0 fun _ _ _ _ _ _ _ q=>gt_int q
theorem agk:L0 X (compareOp .Lt) (fun x y H Q=>∃ i j,x=.str i/\y=.str j/\Q (.bl (decide (i.cps.toList<j.cps.toList))) H):=by
 sleep 0;obtain ⟨i,j,rfl,rfl,q⟩:=h;obtain ⟨t,rfl⟩:=rx;obtain ⟨t',rfl⟩:=ry;exact lt_str (N7 I q rfl)
theorem ajW:L0 X (compareOp .In) (fun x y H Q=>∃ i j,x=.str i/\y=.str j/\Q (.bl (!(Builtin.Str.occurrences j i 0 j.length 1).isEmpty)) H):=by
 sleep 0;obtain ⟨i,j,rfl,rfl,q⟩:=h;obtain ⟨t,rfl⟩:=rx;obtain ⟨t',rfl⟩:=ry;exact in_str (N7 I q rfl)
theorem amX(b:Expr){op:CmpOp}(h:op≠.In:=by decide)(h2:op≠.NotIn:=by decide):behindInMarks op b=false:=by
 have e1:(op==CmpOp.In)=false:=by cases op <;> first | rfl | exact absurd rfl h
 have e2:(op==CmpOp.NotIn)=false:=by cases op <;> first | rfl | exact absurd rfl h2
 cases b <;> simp [behindInMarks,e1,e2]
theorem anB{op:CmpOp}{r:R2}(ho:L0 X (compareOp op) r)(ha:PE X a ta)(hb:PE X b tb)(hm:behindInMarks op b=false):PE X (.Compare a [op] [b] pos) (bZ r ta tb):=by
 sleep 1;exact wpAny_Compare1 (binT ha hb I h fun v u s2 x y H2 I2 rx ry q=>ho pins s2 Y H2 x y v u Q I2 rx ry q) hm
noncomputable def tTest (t:TE):TT:=fun Y H Q=>t Y H fun x H'=>∃ k,x=.bl k/\Q k H'
theorem anC{op:CmpOp}{r:R2}(ho:L0 X (compareOp op) r)(ha:PE X a ta)(hb:PE X b tb)(hm:behindInMarks op b=false):PT X (.Compare a [op] [b] pos) (tTest (bZ r ta tb)):=by
 sleep 1;refine wpAny_isTrue_Compare1 (B3 (ha pins s Y H _ I h) fun v s1 ⟨x,H1,I1,r1,q1⟩=>B3 (hb pins s1 Y H1 _ I1 q1) fun u s2 ⟨y,H2,I2,r2,q2⟩=>
  B3 (ho pins s2 Y H2 x y v u _ I2 r1 r2 q2) fun c s3 ⟨z,H3,I3,r3,k,e,q3⟩=>?_) hm
 subst e
 cases r3
 exact wpAny_truthy_bool ⟨H3,I3,q3⟩
noncomputable def wP (r r':R2) (ta tb tc:TE):TE:=fun Y H Q=>ta Y H fun x H1=>tb Y H1 fun y H2=>r x y H2 fun z H3=>∃ k,z=.bl k/\
 (if k=true then tc Y H3 fun w' H4=>r' y w' H4 Q else Q (.bl false) H3)
theorem alG{op op':CmpOp}{r r':R2}(ho:L0 X (compareOp op) r)(x5:L0 X (compareOp op') r')(ha:PE X a ta)(hb:PE X b tb)(hc:PE X c tc)(hm:lastMarks [op,op'] [b,c]=false:=by with_unfolding_all rfl):PE X (.Compare a [op,op'] [b,c] pos) (wP r r' ta tb tc):=by
 sleep 1;refine Compare_chain (B3 (ha pins s Y H _ I h) fun v s1 ⟨x,H1,I1,r1,q1⟩=>chain_link (B3 (hb pins s1 Y H1 _ I1 q1) fun u s2 ⟨y,H2,I2,r2,q2⟩=>
  B3 (ho pins s2 Y H2 x y v u _ I2 r1 r2 q2) fun d s3 ⟨z,H3,I3,r3,k,e,q3⟩=>?_)) hm
 subst e
 cases r3
 refine wpAny_truthy_bool ?_
 cases k with
 | false=>exact ite_ff ⟨.bl false,H3,I3,rfl,q3⟩
 | true=>exact ite_tt (chain_last (B3 (hc pins s3 Y H3 _ I3 q3) fun w' s4 ⟨z',H4,I4,r4,q4⟩=>x5 pins s4 Y H4 y z' u w' Q I4 r2 r4 q4))
noncomputable def TruV (K:PySem.W.Frag) (x:V) (H:Hp) (k:Bool):Prop:=
 match x with
 | .non=>k=false
 | .bl b=>k=b
 | .int i=>k=(i != 0)
 | .str y=>y.length<=sizeLine/\k=((y.length:Int) != 0)
 | .byt y=>y.size<=sizeLine/\k=((y.size:Int) != 0)
 | .ref p=>(∃ xs,D9 K H p xs/\k=!xs.isEmpty)\/(∃ xs,C6 K H p xs/\k=!xs.isEmpty)\/∃ kvs,H p=some (.dK kvs)/\k=!kvs.isEmpty
 | _=>False
theorem ai2{κ:Type}{kvs:List (κ×V)}{vs:List (κ×Value)}(r:KV kvs vs):(!vs.isEmpty)=!kvs.isEmpty:=by
 cases r <;> rfl
theorem afq{xs:List V}{its:List Value}(r:Vals xs its):(!its.toArray.isEmpty)=!xs.isEmpty:=by
 cases r <;> simp
theorem jW:(sizeLine:Nat)<2 ^ 63:=by rw [sizeLine_eq];decide
theorem amY:TruR X (fun x H Q=>∃ k,TruV X.K x H k/\Q k H):=by
 intro pins s Y H x v Q I rx h;obtain ⟨k,e,q⟩:=h;have hl:=jW;have hs:sizeLine=16777216:=sizeLine_eq
 cases x with
 | non=>
  cases rx
  have e':k=false:=e;subst e';exact truthy_none ⟨H,I,q⟩
 | bl b=>
  cases rx
  have e':k=b:=e;subst e';exact wpAny_truthy_bool ⟨H,I,q⟩
 | int i=>
  obtain ⟨t,rfl⟩:=rx;have e':k=(i != 0):=e;subst e';exact PySem.P.truthy_int ⟨H,I,q⟩
 | str y=>
  obtain ⟨t,rfl⟩:=rx;obtain ⟨hy,e'⟩:y.length<=sizeLine/\k=((y.length:Int) != 0):=e;subst e';exact PySem.P.truthy_str 'a' ⟨H,I.tok _,q⟩
 | byt y=>
  obtain ⟨t,rfl⟩:=rx;obtain ⟨hy,e'⟩:y.size<=sizeLine/\k=((y.size:Int) != 0):=e;subst e';exact PySem.W.truthy_bytes 'a' ⟨H,I.tok _,q⟩
 | ref p=>
  cases rx
  have e':(∃ xs,D9 X.K H p xs/\k=!xs.isEmpty)\/(∃ xs,C6 X.K H p xs/\k=!xs.isEmpty)\/∃ kvs,H p=some (.dK kvs)/\k=!kvs.isEmpty:=e
  rcases e' with ⟨xs,hx,e'⟩ | ⟨xs,hx,e'⟩ | ⟨kvs,hx,e'⟩
  .subst e';obtain ⟨its,r,pl,hz⟩:=I.list hx;have A9:=r.length;exact wpAny_truthy_list pl.isList (by simp only [M3];lia) ⟨H,I.tok _,by rw [afq r];exact q⟩
  .subst e';obtain ⟨its,r,pl,hz⟩:=I.tuple hx;have A9:=r.length;exact truthy_tuple pl (by simp only [M3];lia) ⟨H,I.tok _,by rw [afq r];exact q⟩
  .subst e';obtain ⟨hz,hS,vs,r,m⟩:kvs.length<=sizeLine/\(p==sysModules)=false/\∃ vs,KV kvs vs/\s.heap.DictOf (P9 X.prog X.w) p vs:=I.hok p _ hx;have A9:kvs.length=vs.length:=Paired.length r;exact wpAny_truthy_dict hS m 'a' ⟨H,I.tok _,by rw [ai2 r];exact q⟩
 | _=>exact (show False from e).elim
theorem alH(ha:PE X a ta)(he:∀ whole,isTrue a X.env whole=(do let v <- whole;standAt a.pos;holding [v] (truthy v))) :
  PT X a (fun Y H Q=>ta Y H fun x H'=>∃ k,TruV X.K x H' k/\Q k H'):=by
 sleep 1;exact isTrue_plain (B3 (ha pins s Y H _ I h) fun v s1 ⟨x,H1,I1,r1,q1⟩=>amY pins s1 Y H1 x v Q I1 r1 q1) (he _)
theorem ai3:L0 X (binaryOp .Add) (fun x y H Q=>∃ i j,x=.str i/\y=.str j/\i.length+j.length<=sizeLine/\Q (.str (i++j)) H):=by
 sleep 0;obtain ⟨i,j,rfl,rfl,hz,q⟩:=h;obtain ⟨t,rfl⟩:=rx;obtain ⟨t',rfl⟩:=ry;exact add_str (fun t' tk=>⟨.str (i++j),H,I.tok _,⟨_,rfl⟩,q⟩) hz
theorem vals1{x:V}{us:List Value}(r:Vals [x] us):∃ u,us=[u]/\RelV x u:=by
 cases r with
 | cons r1 r2=>cases r2;exact ⟨_,rfl,r1⟩
theorem vals2{x y:V}{us:List Value}(r:Vals [x,y] us):∃ u w',us=[u,w']/\RelV x u/\RelV y w':=by
 cases r with
 | cons r1 r2=>
  cases r2 with
  | cons r3 r4=>cases r4;exact ⟨_,_,rfl,r1,r3⟩
theorem ajY:CallR X (.type "int") (fun xs H Q=>(∃ i,xs=[.int i]/\Q (.int i) H)\/∃ k,xs=[.bl k]/\Q (.int (if k then 1 else 0)) H):=by
 intro pins s Y H xs us Q I r h
 rcases h with ⟨i,rfl,q⟩ | ⟨k,rfl,q⟩
 .obtain ⟨u,rfl,t,rfl⟩:=vals1 r;exact call_int_int ⟨.int i,H,I,⟨_,rfl⟩,q⟩
 .obtain ⟨u,rfl,r1⟩:=vals1 r
  cases r1
  exact call_int_bool ⟨.int (if k then 1 else 0),H,I.tok _,⟨_,rfl⟩,q⟩
noncomputable def LenV (K:PySem.W.Frag) (x:V) (H:Hp) (n:Nat):Prop:=
 match x with
 | .str y=>y.length<=sizeLine/\n=y.length
 | .byt y=>y.size<=sizeLine/\n=y.size
 | .ref p=>(∃ xs,D9 K H p xs/\n=xs.length)\/∃ xs,C6 K H p xs/\n=xs.length
 | _=>False
theorem wQ:CallR X (.builtin "len") (fun xs H Q=>∃ x n,xs=[x]/\LenV X.K x H n/\Q (.int n) H):=by
 intro pins s Y H xs us Q I r h;obtain ⟨x,n,rfl,e,q⟩:=h;obtain ⟨u,rfl,rx⟩:=vals1 r;have hl:=jW;have hs:sizeLine=16777216:=sizeLine_eq
 cases x with
 | str y=>
  obtain ⟨t,rfl⟩:=rx;obtain ⟨hy,e'⟩:y.length<=sizeLine/\n=y.length:=e;subst e';exact len_str 'a' ⟨.int _,H,I.tok _,⟨_,rfl⟩,q⟩
 | byt y=>
  obtain ⟨t,rfl⟩:=rx;obtain ⟨hy,e'⟩:y.size<=sizeLine/\n=y.size:=e;subst e';exact PySem.W.len_bytes 'a' ⟨.int _,H,I.tok _,⟨_,rfl⟩,q⟩
 | ref p=>
  cases rx
  have e':(∃ xs,D9 X.K H p xs/\n=xs.length)\/∃ xs,C6 X.K H p xs/\n=xs.length:=e
  rcases e' with ⟨xs,hx,e'⟩ | ⟨xs,hx,e'⟩
  .subst e';obtain ⟨its,r',pl,hz⟩:=I.list hx;have A9:=r'.length;exact Calls.call_len_list pl.isList (by simp only [M3];lia) ⟨.int xs.length,H,I.tok _,⟨_,by simp only [M3];rw [A9]⟩,q⟩
  .subst e';obtain ⟨its,r',pl,hz⟩:=I.tuple hx;have A9:=r'.length;exact len_tuple pl (by simp only [M3];lia) ⟨.int xs.length,H,I.tok _,⟨_,by simp only [M3];rw [A9]⟩,q⟩
 | _=>exact (show False from e).elim
end
structure ObjM(h:Heap)(x dx C:Addr)(mA:Str->Option Value):Prop where
 obj:h.get? x=some (dQ C dx)
 ns:h.Ns1 dx mA
 ne:dx≠x
theorem ajZ{h:Heap}{dx:Addr}{mA:Str->Option Value}(n:h.Ns1 dx mA):∃ od,h.get? dx=some od/\∀ name,PySem.W.lookIn name od=some (mA name):=by
 obtain ⟨o,es,ep,ho,hd,hk,_,hm⟩:=n;refine ⟨o,ho,fun name=>?_⟩;have e:=hm name;unfold nsFind findBy at e;rw [<- Array.find?_toList] at e;unfold PySem.W.lookIn;rw [hd]
 dsimp only
 split
 .rename_i y q
  rw [q] at e;exact congrArg some e
 .rename_i q
  rw [q] at e;have a:es.toList.any (·.refKey)=false:=by
   rw [List.any_eq_false];intro y hy;obtain ⟨z,t,m6⟩:=hk y (Array.mem_toList_iff.mp hy);simp [DictEntry.refKey,m6]
  have a':¬ es.toList.any (·.refKey)=true:=by rw [a];exact M4
  rw [if_neg a'];exact congrArg some e
theorem ObjM.look{h:Heap}{x dx C:Addr}{mA:Str->Option Value}(I:ObjM h x dx C mA):∃ od,PySem.W.InstAt h x (dQ C dx) C (some od)/\∀ name,PySem.W.lookIn name od=some (mA name):=
 let ⟨od,ho,hl⟩:=ajZ I.ns
 ⟨od,⟨I.obj,rfl,rfl,ho⟩,hl⟩
section
variable {prog:Program} {w:World} {A:Around} {E:Value->Shared->Prop} {s:Shared} {K:PySem.W.Frag} {x dx C f:Addr} {mA:Str->Option Value} {name:Str} {v:Value}
theorem anD{expr:Bool}{Q:Value->Shared->Prop}(X:K.In s.heap)(I:ObjM s.heap x dx C mA)(hg:nA K C name=true)(hh:PySem.W.hasDictIn K C=true)(ha:R4 K (.ref C) name=some none)(hv:mA name=some v)(vF:PySem.W.handedIn v=true)(h:Q v { s with toks:=s.toks+1 }) :
  wpAny (model prog w) A (getAttr (.ref x) name expr) Q E s:=by
 obtain ⟨od,J,hl⟩:=I.look;exact PySem.W.get_value X J (PySem.W.plainGet_of hg).1 (PySem.W.findObj_own hh ha rfl (by rw [hl,hv])) vF h
theorem alI{pl:Sem Bool}{Q:Value×List Value->Shared->Prop}(X:K.In s.heap)(I:ObjM s.heap x dx C mA)(hg:nA K C name=true)(hf:R4 K (.ref C) name=some (some (.ref f)))(ht:bU K (.ref f)=true)(hv:mA name=none)(h:Q (.ref f,[.ref x]) s) :
  wpAny (model prog w) A (getMethod (.ref x) name pl) Q E s:=by
 obtain ⟨od,J,hl⟩:=I.look;exact PySem.W.method_fn X J (PySem.W.plainGet_of hg).1 (PySem.W.plainGet_of hg).2 hf (beq_iff_eq.mp ht) (by show (PySem.W.lookIn name od).map (·.isSome)=some false;rw [hl,hv];rfl) h
theorem anE{ns:List Str}{Q:Unit->Shared->Prop}(X:K.In s.heap)(I:ObjM s.heap x dx C mA)(hs:R4 K (.ref C) "__setattr__"=some (some (.builtin "object.__setattr__")))(hp:PySem.W.plainOver K C=true)(ht:PySem.W.takerIn K C name=some none)(hh:PySem.W.hasDictIn K C=true)(hw:PySem.Within mA ns)(hsz:ns.length<=sizeLine)(h:∀ h',ObjM h' x dx C (fun y=>if y=name then some v else mA y)->Heap.SameBut dx s.heap h'->Q () { s with heap:=h',toks:=s.toks+2 }) :
  wpAny (model prog w) A (setAttr (.ref x) name v) Q E s:=by
 obtain ⟨od,J,hl⟩:=I.look;refine PySem.W.set_plain X J hs (PySem.W.osa_open (s:={ s with toks:=s.toks+1 }) (r:=none) X J hp ht fun b=>?_);obtain ⟨cd,hc,iJ⟩:=PySem.W.any_some hh;have hx:s.heap.get? x=some ⟨.ref C,some dx,.plain,#[]⟩:=I.obj;refine wpAny_bind (wpAny_pure (wpAny_bind (wpAny_bind (wpAny_loadPart hx (wpAny_bind (PySem.W.Looks.here (s:={ s with toks:=s.toks+1 }) (PySem.W.looks_clsIn X hc) ?_))))));rw [iJ];refine wpAny_pure (a:=some dx) (wpAny_bind (wpAny_pure (wpAny_bind ?_)));refine wpAny_nsSet1 (s:={ s with toks:=s.toks+1 }) I.ns fun h' lP x6=>?_
 obtain ⟨oD,esD,epD,hoD,hdD,hcD⟩:=lP.count (PySem.Within.cons name v hw);refine wpAny_bind (wpAny_lookBehind hoD (by rw [hdD];exact pastItsLine_dict (K6 hcD (by rw [K4];lia))) ?_);exact wpAny_pure (h _ ⟨(x6.2 _ (Ne.symm I.ne)).trans I.obj,lP,I.ne⟩ x6)
theorem alJ{R:Result->Shared->Prop}{vs:List Value}{kw:List (Str×Value)}(X:K.In s.heap)(hm:PySem.W.makesIn K C=true)(hi:R4 K (.ref C) "__init__"=some (some (.ref f)))(hf:PySem.W.typeIn K (.ref f)=some (.type "function"))(h:codeAny (model prog w) (A.under (.builtin "type.__call__" ⟨.ref C::vs,kw⟩)) (.call (.ref f) ⟨.ref (s.heap.objs.size+1)::vs,kw⟩) (PySem.W.InitBack (s.heap.objs.size+1) R)
   { s with heap:=(s.heap.push bT).push (dQ C s.heap.objs.size) }) :
  codeAny (model prog w) A (.call (.ref C) ⟨vs,kw⟩) R s:=by
 obtain ⟨hh,g,d,t,os⟩:=s;exact PySem.W.make_core (PySem.W.makes_of X hm) (PySem.W.looks_findIn X hi) (fun self=>PySem.W.bind_fn X self hf) 'g' h
end
noncomputable def putF (f:Str) (v:V):List (Str×V)->List (Str×V)
 | []=>[(f,v)]
 | (g,x)::r=>if g=f then (g,v)::r else (g,x)::putF f v r
theorem N5(f g:Str)(v:V):∀ fs:List (Str×V),(putF f v fs).lookup g=if g=f then some v else fs.lookup g
 | []=>by
  show dP g [(f,v)]=_
  by_cases h:g=f
  .have hb:(g==f)=true:=beq_iff_eq.mpr h;simp only [dP,hb,if_pos h]
  .have hb:(g==f)=false:=beq_eq_false_iff_ne.mpr h;simp only [dP,hb,if_neg h]
 | (k,x)::r=>by
  have ih:=N5 f g v r;rw [show putF f v ((k,x)::r)=(if k=f then (k,v)::r else (k,x)::putF f v r) from rfl]
  by_cases hk:k=f
  .rw [if_pos hk]
   by_cases h:g=k
   .have hb:(g==k)=true:=beq_iff_eq.mpr h;simp only [dP,hb,if_pos (h.trans hk)]
   .have hb:(g==k)=false:=beq_eq_false_iff_ne.mpr h;simp only [dP,hb,if_neg (fun e:g=f=>h (e.trans hk.symm))]
  .rw [if_neg hk]
   by_cases h:g=k
   .have hb:(g==k)=true:=beq_iff_eq.mpr h;simp only [dP,hb,if_neg (fun e:g=f=>hk (h.symm.trans e))]
   .have hb:(g==k)=false:=beq_eq_false_iff_ne.mpr h;simp only [dP,hb];exact ih
theorem wR(f:Str)(v:V):∀ fs:List (Str×V),f∈(putF f v fs).map (·.1)/\∀ g,g∈fs.map (·.1)->g∈(putF f v fs).map (·.1)
 | []=>⟨by simp [putF],fun g h=>by simp at h⟩
 | (k,x)::r=>by
  obtain ⟨i1,i2⟩:=wR f v r;rw [show putF f v ((k,x)::r)=(if k=f then (k,v)::r else (k,x)::putF f v r) from rfl]
  by_cases hk:k=f
  .rw [if_pos hk];subst hk;exact ⟨by simp,fun g h=>by simpa using h⟩
  .rw [if_neg hk];refine ⟨?_,fun g h=>?_⟩
   .rw [K5];exact N4 _ i1
   .rw [K5] at h ⊢
    rcases E7.mp h with e | e
    .exact E7.mpr (.inl e)
    .exact N4 _ (i2 g e)
theorem wS(f:Str)(v:V):∀ fs:List (Str×V),(putF f v fs).length<=fs.length+1
 | []=>by simp [putF]
 | (k,x)::r=>by
  have ih:=wS f v r;rw [show putF f v ((k,x)::r)=(if k=f then (k,v)::r else (k,x)::putF f v r) from rfl]
  by_cases hk:k=f
  .rw [if_pos hk,K4,K4];lia
  .rw [if_neg hk,K4,K4];lia
theorem sG{v:V}{o:Option Value}(r:RelO (some v) o):∃ u,o=some u/\RelV v u:=by
 cases o with
 | none=>exact (show False from r).elim
 | some u=>exact ⟨u,rfl,r⟩
theorem RelO.none_of{o:Option Value}(r:RelO none o):o=none:=by
 cases o with
 | none=>rfl
 | some u=>exact (show False from r).elim
theorem aj0{v:V}{u:Value}(r:RelV v u):PySem.W.handedIn u=true:=by
 cases v with
 | non=>cases (show u=Value.none from r);rfl
 | bl b=>cases (show u=Value.bool b from r);rfl
 | int i=>obtain ⟨t,e⟩:=(show ∃ t,u=Value.int i t from r);cases e;rfl
 | str x=>obtain ⟨t,e⟩:=(show ∃ t,u=Value.str x t from r);cases e;rfl
 | byt b=>obtain ⟨t,e⟩:=(show ∃ t,u=Value.bytes b t from r);cases e;rfl
 | flt b=>obtain ⟨t,e⟩:=(show ∃ t,u=Value.float b t from r);cases e;rfl
 | ref a=>cases (show u=Value.ref a from r);rfl
 | ty n=>cases (show u=Value.type n from r);rfl
section
variable {P:Program} {w:World} {H H':Hp} {h h':Heap} {a C dx:Addr} {fs fs':List (Str×V)}
theorem sH(hok:O1 P w H h)(e:H a=some (.ins C dx fs)):∃ mA,ObjM h a dx C mA/\(∀ f,RelO (fs.lookup f) (mA f))/\PySem.Within mA (fs.map (·.1))/\fs.length<=1000/\H dx=some (.own a):=by
 obtain ⟨d,z,ne,ob,mA,n,r,q⟩:=(show ObjOk P w H h a (.ins C dx fs) from hok a _ e)
 exact ⟨mA,⟨ob,n,ne⟩,r,q,z,d⟩
end
structure Cls(K:PySem.W.Frag)(C:Addr):Prop where
 pg:nA K C Str.empty=true
 hd:PySem.W.hasDictIn K C=true
 po:PySem.W.plainOver K C=true
 sa:R4 K (.ref C) "__setattr__"=some (some (.builtin "object.__setattr__"))
theorem Cls.get{K:PySem.W.Frag}{C:Addr}(c:Cls K C)(f:Str):nA K C f=true:=c.pg
noncomputable def NoAttr (K:PySem.W.Frag) (C:Addr) (f:Str):Prop:=R4 K (.ref C) f=some none
theorem NoAttr.taker{K:PySem.W.Frag}{C:Addr}{f:Str}(n:NoAttr K C f):PySem.W.takerIn K C f=some none:=by
 unfold PySem.W.takerIn;rw [show R4 K (.ref C) f=some none from n];rfl
structure Meth(K:PySem.W.Frag)(C:Addr)(m:Str)(f:Addr):Prop where
 at_:R4 K (.ref C) m=some (some (.ref f))
 fn:bU K (.ref f)=true
 kp:X3 K (.ref f)=true
section
variable {X:Cx} {pins:List (Addr×Obj)} {Y:St} {H:Hp} {s:Shared} {a C dx:Addr} {fs:List (Str×V)} {f:Str} {v:V} {A:Around} {E:Value->Shared->Prop}
theorem ai4{b:Bool}{Q:Value->Shared->Prop}(I:Inv X pins Y H s)(e:H a=some (.ins C dx fs))(c:Cls X.K C)(n:NoAttr X.K C f)(l:fs.lookup f=some v)(h:∀ u s',Inv X pins Y H s'->RelV v u->Q u s'):wpAny 'b' A (getAttr (.ref a) f b) Q E s:=by
 obtain ⟨mA,O,r,_,_,_⟩:=sH I.hok e;obtain ⟨u,hu,ru⟩:=sG (v:=v) (o:=mA f) (by rw [<- l];exact r f);exact anD I.kIn O (c.get f) c.hd n hu (aj0 ru) (h u _ (I.tok _) ru)
theorem afs{m:Str}{g:Addr}{pl:Sem Bool}{Q:Value×List Value->Shared->Prop}(I:Inv X pins Y H s)(e:H a=some (.ins C dx fs))(c:Cls X.K C)(k:Meth X.K C m g)(l:fs.lookup m=none)(h:Q (.ref g,[.ref a]) s):wpAny 'b' A (getMethod (.ref a) m pl) Q E s:=by
 obtain ⟨mA,O,r,_,_,_⟩:=sH I.hok e;have hn:mA m=none:=RelO.none_of (by rw [<- l];exact r m);exact alI I.kIn O (c.get m) k.at_ k.fn hn h
theorem ai5{y:V}{u:Value}{Q:Unit->Shared->Prop}(I:Inv X pins Y H s)(e:H a=some (.ins C dx fs))(c:Cls X.K C)(n:NoAttr X.K C f)(hl:fs.length<1000)(ry:RelV y u)(h:∀ s',Inv X pins Y (A0 H a (.ins C dx (putF f y fs))) s'->Q () s'):wpAny 'b' A (setAttr (.ref a) f u) Q E s:=by
 obtain ⟨mA,O,r,wi,_,ho⟩:=sH I.hok e;have hz:(fs.map (·.1)).length<=sizeLine:=by rw [A6,sizeLine_eq];lia
 refine anE I.kIn O c.sa c.po n.taker c.hd wi hz fun h' O' sb=>h _ ?_
 have hd:∃ o,h'.get? dx=some o:=let ⟨o,_,_,e',_⟩:=O'.ns;⟨o,e'⟩
 refine I.write (x:=a) (e:=dx) (by rw [e];exact True.intro) (.inr ho) (fun b q hb z=>(sb.2 b hb).trans z) hd ?_;refine ⟨by rw [B1 O.ne];exact ho,?_,O.ne,O'.obj,_,O'.ns,fun g=>?_,fun g hg=>?_⟩
 .have:=wS f y fs;lia
 .show RelO ((putF f y fs).lookup g) (if g=f then some u else mA g);rw [N5]
  by_cases q:g=f
  .rw [if_pos q,if_pos q];exact ry
  .rw [if_neg q,if_neg q];exact r g
 .by_cases q:g=f
  .rw [q];exact (wR f y fs).1
  .refine (wR f y fs).2 g (wi g fun z=>hg ?_);show (if g=f then some u else mA g)=none;rw [if_neg q];exact z
theorem Inv.made(I:Inv X pins Y H s):Inv X pins Y (A0 (A0 H s.heap.objs.size (.own (s.heap.objs.size+1))) (s.heap.objs.size+1) (.ins C s.heap.objs.size []))
  { s with heap:=(s.heap.push bT).push (dQ C s.heap.objs.size) }:=by
 have e1:(s.heap.push bT).get? s.heap.objs.size=some bT:=Heap.get?_push_size s.heap rfl;have e2:((s.heap.push bT).push (dQ C s.heap.objs.size)).get? (s.heap.objs.size+1)=some (dQ C s.heap.objs.size):=by
  have:=Heap.get?_push_size (s.heap.push bT) (o:=dQ C s.heap.objs.size) rfl
  rwa [Heap.size_push] at this
 have e3:(s.heap.push bT).Ns s.heap.objs.size (fun _=>none):=⟨bT,#[],_,e1,rfl,(fun e he=>absurd he 'c'),fun _=>rfl⟩
 have I1:=I.laid (a:=s.heap.objs.size) (o:=.own (s.heap.objs.size+1)) (h':=s.heap.push bT) (t':=s.toks) (fun b u q=>Heap.get?_push_of_some _ q) (B5 _) ⟨_,e1⟩;refine I1.laid (a:=s.heap.objs.size+1) (o:=.ins C s.heap.objs.size []) (t':=s.toks) (fun b u q=>Heap.get?_push_of_some _ q) (Nat.le_of_eq (Heap.size_push _ _)) ?_;have ne:s.heap.objs.size≠s.heap.objs.size+1:=O6 (Nat.lt_succ_self _);refine ⟨by rw [B1 ne,A5],F9 _,ne,e2,fun _=>none,(Heap.Ns1.of_empty e3).at fun o q=>Heap.get?_push_of_some _ q,fun _=>True.intro,fun y hy=>absurd rfl hy⟩
theorem anF{prog:Program}{w:World}{env:Env}{e:Expr}{f:Str}{pos:Pos}{s:Shared}{Q:Value->Shared->Prop}(hb:attributeBase e f env (eval e env)=eval e env)(h:wpAny (model prog w) A (eval e env) (fun o zu=>wpAny (model prog w) A (getAttr o f true) Q E zu) E s):wpAny (model prog w) A (eval (.Attribute e f pos) env) Q E s:=
 Attribute_any_ h (by rw [arm_eval_Attribute,hb])
end
noncomputable def tFld (K:PySem.W.Frag) (ta:TE) (f:Str):TE:=fun Y H Q=>ta Y H fun x H1=>∃ a C dx fs v,x=.ref a/\H1 a=some (.ins C dx fs)/\Cls K C/\NoAttr K C f/\fs.lookup f=some v/\Q v H1
noncomputable def sFld (K:PySem.W.Frag) (ta tv:TE) (f:Str):TS:=fun D Y H=>tv Y H fun y H1=>ta Y H1 fun x H2=>∃ a C dx fs,x=.ref a/\H2 a=some (.ins C dx fs)/\Cls K C/\NoAttr K C f/\fs.length<1000/\
 D.nx Y (A0 H2 a (.ins C dx (putF f y fs)))
noncomputable def InOp (X:Cx) (op:Operator) (rd:V->V->Hp->VK->Prop):Prop:=
 ∀ (pins:List (Addr×Obj)) (s:Shared) (Y:St) (H:Hp) (x y:V) (u v:Value) (Q:VK),Inv X pins Y H s->RelV x u->RelV y v->rd x y H Q->wpAny 'b' X.A (inplaceOp op u v) (EP X pins Y Q) X.xe s
section
variable {X:Cx} {o e value:Expr} {f:Str} {pos pos' tpos:Pos} {ta tv:TE}
theorem aqr(he:PE X e ta)(hb:attributeBase e f X.env (eval e X.env)=eval e X.env):PE X (.Attribute e f pos) (tFld X.K ta f):=by
 sleep 1;refine anF hb (B3 (he pins s Y H _ I h) fun u s1 ⟨x,H1,I1,rx,a,C,dx,fs,v,ex,ea,c,n,l,q⟩=>?_);subst ex;obtain rfl:u=Value.ref a:=rx;exact ai4 I1 ea c n l fun u' s2 I2 ru=>⟨v,H1,I2,ru,q⟩
theorem aqs(ha:PE X o ta)(hv:PE X value tv)(hs:swapsWith value (some (.Attribute o f pos')) pos.line X.env=pure false):PS X (.Assign [.Attribute o f pos'] value pos) (sFld X.K ta tv f):=by
 intro pins s Y H D I h;refine plainObj_wpAny_Assign_Attribute (B3 (hv pins s Y H _ I h) fun u s1 ⟨y,H1,I1,ry,q⟩=>B3 (ha pins s1 Y H1 _ I1 q) fun ov s2 ⟨x,H2,I2,rx,a,C,dx,fs,ex,ea,c,n,l,q2⟩=>?_) hs;subst ex;obtain rfl:ov=Value.ref a:=rx;exact ai5 I2 ea c n l ry fun s3 I3=>⟨Y,_,I3,q2⟩
noncomputable def rAdd:V->V->Hp->VK->Prop:=fun x y H Q=>∃ i j,x=.int i/\y=.int j/\Q (.int (i+j)) H
noncomputable def rSub:V->V->Hp->VK->Prop:=fun x y H Q=>∃ i j,x=.int i/\y=.int j/\Q (.int (i-j)) H
theorem aqt:InOp X .Add rAdd:=by
 rintro pins s Y H x y u v Q I rx ry ⟨i,j,rfl,rfl,q⟩;obtain ⟨t,rfl⟩:=(show ∃ t,u=Value.int i t from rx)
 obtain ⟨t',rfl⟩:=(show ∃ t',v=Value.int j t' from ry)
 exact PyProof.Rows.iadd_int ⟨.int (i+j),H,I.tok _,⟨_,rfl⟩,q⟩
theorem aqu:InOp X .Sub rSub:=by
 rintro pins s Y H x y u v Q I rx ry ⟨i,j,rfl,rfl,q⟩;obtain ⟨t,rfl⟩:=(show ∃ t,u=Value.int i t from rx)
 obtain ⟨t',rfl⟩:=(show ∃ t',v=Value.int j t' from ry)
 exact PyProof.Rows.isub_int ⟨.int (i-j),H,I.tok _,⟨_,rfl⟩,q⟩
end
section
variable {X:Cx} {pins:List (Addr×Obj)} {Y:St} {H:Hp} {s:Shared} {A:Around} {E:Value->Shared->Prop} {Q:Value->Shared->Prop} {c:Value} {b:Bool}
inductive TyOf (K:PySem.W.Frag) (H:Hp):V->Value->Prop where
 | non:TyOf K H .non (.type "NoneType")
 | bl (x:Bool):TyOf K H (.bl x) (.type "bool")
 | int (i:Int):TyOf K H (.int i) (.type "int")
 | str (x:Str):TyOf K H (.str x) (.type "str")
 | flt (x:UInt64):TyOf K H (.flt x) (.type "float")
 | lst {a:Addr} {xs:List V} (e:H a=some (.lst xs)):TyOf K H (.ref a) (.type "list")
 | frz {a:Addr} {o:Obj} {xs:List V} (e:H a=some (.frz o (.lst xs))):TyOf K H (.ref a) (.type "list")
 | tup {a:Addr} {xs:List V} (e:H a=some (.tup xs)):TyOf K H (.ref a) (.type "tuple")
 | dK {a:Addr} {kvs:List (C5×V)} (e:H a=some (.dK kvs)):TyOf K H (.ref a) (.type "dict")
 | dT {a:Addr} {kvs:List (List C5×V)} (e:H a=some (.dT kvs)):TyOf K H (.ref a) (.type "dict")
 | ins {a C dx:Addr} {fs:List (Str×V)} (e:H a=some (.ins C dx fs)) (cl:Cls K C) (ha:R4 K (.ref C) "__class__"=some (some (.builtin "object.__class__")))
   (hn:PySem.W.specialIn K (.builtin "object.__class__") "__get__"=some (some (.builtin "getset_descriptor.__get__"))) (htk:PySem.W.takesIn K (.builtin "object.__class__")=some true)
   (hm:PySem.W.mroIn K C (.type "object")=some true):TyOf K H (.ref a) (.ref C)
theorem aj1{x:V}{u t:Value}(I:Inv X pins Y H s)(rx:RelV x u)(ty:TyOf X.K H x t)(e:PySem.W.kitOne X.K t c=some b)(h:∀ tk,Q (.bool b) { s with toks:=tk }) :
  wpAny 'b' A (call (.builtin "isinstance") [u,c]) Q E s:=by
 cases ty with
 | non=>cases (show u=Value.none from rx);exact v4 PySem.W.kitx_none I.kIn True.intro e (fun z=>nomatch z) h
 | bl y=>cases (show u=Value.bool y from rx);exact v4 PySem.W.kitx_bool I.kIn True.intro e (fun z=>nomatch z) h
 | int i=>obtain ⟨t,q⟩:=(show ∃ t,u=Value.int i t from rx);cases q;exact v4 PySem.W.kitx_int I.kIn True.intro e (fun z=>nomatch z) h
 | str y=>obtain ⟨t,q⟩:=(show ∃ t,u=Value.str y t from rx);cases q;exact v4 PySem.W.kitx_str I.kIn True.intro e (fun z=>nomatch z) h
 | flt y=>obtain ⟨t,q⟩:=(show ∃ t,u=Value.float y t from rx);cases q;exact v4 PySem.W.kitx_float I.kIn True.intro e (fun z=>nomatch z) h
 | @lst a xs ea=>
  cases (show u=Value.ref a from rx)
  obtain ⟨_,_,n,_,h1⟩:=(show ObjOk X.prog X.w H s.heap a (.lst xs) from I.hok a _ ea)
  exact v4 PySem.W.kitx_list I.kIn ⟨_,h1,rfl⟩ e (fun z=>nomatch z) h
 | @frz a ob xs ea=>
  cases (show u=Value.ref a from rx)
  obtain ⟨_,_,_,n,_,h1⟩:=(show ObjOk X.prog X.w H s.heap a (.frz ob (.lst xs)) from I.hok a _ ea)
  exact v4 PySem.W.kitx_list I.kIn ⟨_,h1,rfl⟩ e (fun z=>nomatch z) h
 | @tup a xs ea=>
  cases (show u=Value.ref a from rx)
  obtain ⟨_,_,_,p⟩:=(show ObjOk X.prog X.w H s.heap a (.tup xs) from I.hok a _ ea)
  obtain ⟨o,h1,h2,_⟩:=p;exact v4 PySem.W.kitx_tuple I.kIn ⟨o,h1,h2⟩ e (fun z=>nomatch z) h
 | @dK a kvs ea=>
  cases (show u=Value.ref a from rx)
  obtain ⟨_,_,vs,_,p⟩:=(show ObjOk X.prog X.w H s.heap a (.dK kvs) from I.hok a _ ea)
  obtain ⟨o,es,ep,h1,h2,_⟩:=p;exact v4 PySem.W.kitx_dict I.kIn ⟨o,h1,h2.1⟩ e (fun z=>nomatch z) h
 | @dT a kvs ea=>
  cases (show u=Value.ref a from rx)
  obtain ⟨_,_,xs,_,o,es,ep,h1,h2,_⟩:=(show ObjOk X.prog X.w H s.heap a (.dT kvs) from I.hok a _ ea)
  exact v4 PySem.W.kitx_dict I.kIn ⟨o,h1,h2.1⟩ e (fun z=>nomatch z) h
 | @ins a C dx fs ea cl ha hn htk hm=>
  cases (show u=Value.ref a from rx)
  obtain ⟨mA,O,_⟩:=sH I.hok ea;obtain ⟨od,J,_⟩:=O.look;exact v4 (PySem.W.kitx_own (cl.get _) cl.hd ha hn htk hm) I.kIn J e (fun z=>nomatch z) h
end
structure Room(k:Nat)(A:Around):Prop where
 hd:A.handled=none
 dp:A.depth+3*k+5<recursionLimit
 un:A.units+16*k+200<cLine
 gd:A.guards=some []
theorem Room.mono{j k:Nat}{A:Around}(r:Room k A)(h:j<=k):Room j A:=⟨r.hd,by have:=r.dp;lia,by have:=r.un;lia,r.gd⟩
theorem Room.deeper{k:Nat}{A:Around}(r:Room (k+1) A)(env:Env):Room k (A.deeper env):=
 ⟨r.hd,by have:=r.dp;show A.depth+1+3*k+5<_;lia,by have:=r.un;show A.units+3+16*k+200<_;lia,r.gd⟩
theorem ai6{A:Around}{C:Addr}{us:List Value}{kw:List (Str×Value)} : (A.under (.builtin "type.__call__" ⟨.ref C::us,kw⟩)).depth=A.depth+1:=by
 first | rfl | simp [Around.under,Code.weight,Code.isCreation,Code.isGuard,Code.isCaller,Code.frames,Code.isFrame,guardIds]
theorem ai7{A:Around}{C:Addr}{us:List Value}{kw:List (Str×Value)} : (A.under (.builtin "type.__call__" ⟨.ref C::us,kw⟩)).units=A.units+1:=by
 first | rfl | simp [Around.under,Code.cUnits,Code.frames,Code.isFrame]
theorem Room.make{k:Nat}{A:Around}(r:Room (k+1) A)(C:Addr)(us:List Value)(kw:List (Str×Value)):Room k (A.under (.builtin "type.__call__" ⟨.ref C::us,kw⟩)):=
 ⟨r.hd,by have:=r.dp;rw [ai6];lia,by have:=r.un;rw [ai7];lia,r.gd⟩
theorem Room.depth{k:Nat}{A:Around}(r:Room k A):A.depth<recursionLimit:=by have:=r.dp;lia
theorem Room.units{k:Nat}{A:Around}(r:Room k A):A.units+64<cLine:=by have:=r.un;lia
noncomputable def tNil:TA:=fun _ H Q=>Q [] H
noncomputable def tCons (ta:TE) (tr:TA):TA:=fun Y H Q=>ta Y H fun x H1=>tr Y H1 fun xs H2=>Q (x::xs) H2
section
variable {X:Cx} {e:Expr} {es:List Expr} {te:TE} {t:TA} {pos:Pos}
theorem aqv:PA X [] tNil:=fun _ _ _ _ H Q I h=>Calls.spliced_nil ⟨[],H,I,.nil,h⟩
theorem anG(ha:PE X e te)(hr:PA X es t)(hs:starEach (e::es) X.env=(false,eval e X.env)::starEach es X.env:=by rfl):PA X (e::es) (tCons te t):=by
 intro pos pins s Y H Q I h;rw [hs];show wpAny _ _ (spliced ((false,eval e X.env)::backTo pos (starEach es X.env))) _ _ s;refine Calls.spliced_cons (B3 (ha pins s Y H _ I h) fun u s1 ⟨x,H1,I1,r1,q1⟩=>?_);exact B3 (hr pos pins s1 Y H1 _ I1 q1) fun us s2 ⟨xs,H2,I2,r2,q2⟩=>⟨x::xs,H2,I2,.cons r1 r2,q2⟩
noncomputable def tTup (t:TA):TE:=fun Y H Q=>t Y H fun xs H1=>xs.length<=sizeLine/\∀ p,H1 p=none->Q (.ref p) (A0 H1 p (.tup xs))
noncomputable def tLst (t:TA):TE:=fun Y H Q=>t Y H fun xs H1=>xs.length<=sizeLine/\∀ p,H1 p=none->Q (.ref p) (A0 H1 p (.lst xs))
theorem aqw{x1}(h:PA X es t):PE X (.Tuple es x1 pos) (tTup t):=by
 intro pins s Y H Q I hq;refine wpAny_Tuple_spliced (B3 (h pos pins s Y H _ I hq) fun us s1 ⟨xs,H1,I1,r,z,q⟩=>⟨by rw [<- r.length];exact z,?_⟩);have hf:H1 s1.heap.objs.size=none:=I1.hok.fresh (B5 _);refine ⟨.ref s1.heap.objs.size,A0 H1 s1.heap.objs.size (.tup xs),I1.laid (t':=s1.toks) (fun b u e=>Heap.get?_push_of_some _ e) (B5 _) ?_,rfl,q _ hf⟩;exact ⟨z,us,r,⟨_,Heap.get?_push_size _ rfl,rfl,_,rfl⟩⟩
theorem aqx(h:PA X es t):PE X (.List es pos) (tLst t):=by
 intro pins s Y H Q I hq;refine wpAny_List_spliced (B3 (h pos pins s Y H _ I hq) fun us s1 ⟨xs,H1,I1,r,z,q⟩=>⟨by rw [<- r.length];exact z,?_⟩);have hf:H1 s1.heap.objs.size=none:=I1.hok.fresh (B5 _);refine ⟨.ref s1.heap.objs.size,A0 H1 s1.heap.objs.size (.lst xs),I1.laid (t':=s1.toks) (fun b u e=>Heap.get?_push_of_some _ e) (B5 _) ?_,rfl,q _ hf⟩;exact ⟨z,us,0,r,Heap.get?_push_size _ rfl⟩
end
noncomputable abbrev Sp:=List V->Hp->VK->XK->Prop
noncomputable abbrev j7:=List Env->Hp->Shared->XK->Value->Shared->Prop
structure Env0(P:Program)(w:World)(K:PySem.W.Frag)(mg:Str->Option Value)(base:Heap)(A:Around)(outer:List Env)(s:Shared)(H:Hp):Prop where
 frames:A.frames=some outer
 mod:Mod K mg base
 bs:∀ b o,base.get? b=some o->s.heap.get? b=some o/\H b=none
 bsz:base.objs.size<=s.heap.objs.size
 funs:s.heap.FunFrames base outer
 frf:∀ b∈v7 outer,H b=none
 hok:O1 P w H s.heap
 bare:AllBare s.gens
noncomputable def CE (outer:List Env) (P:Program) (w:World) (H:Hp) (s:Shared) (Q:VK) (u:Value) (s':Shared):Prop:=
 ∃ v H',s'.os=s.os/\AllBare s'.gens/\Un (v7 outer) [] H H' s.heap s'.heap/\O1 P w H' s'.heap/\RelV v u/\Q v H'
noncomputable def CR (CX:j7) (outer:List Env) (P:Program) (w:World) (H:Hp) (s:Shared) (Q:VK) (E:XK) (r:Result) (s':Shared):Prop:=
 match r with
 | .ok (.ret u)=>CE outer P w H s Q u s'
 | .ok _=>False
 | .error e=>CX outer H s E e s'
structure FnOk(P:Program)(w:World)(K:PySem.W.Frag)(mg:Str->Option Value)(base:Heap)(CX:j7)(k:Nat)(f:Addr)(fd:FuncData)(ps:List Str)(sp:Sp):Prop where
 len:∀ vs H Q E,sp vs H Q E->vs.length=ps.length
 run:∀ (A:Around) (outer:List Env) (s:Shared) (H:Hp) (args:Args) (us:List Value) (vs:List V) (Q:VK) (E:XK),Room k A->Env0 P w K mg base A outer s H->BindsTo s fd args (ps.zip us)->Vals vs us->sp vs H Q E->
  codeAny (model P w) A (.call (.ref f) args) (CR CX outer P w H s Q E) s
theorem Env0.make{P:Program}{w:World}{K:PySem.W.Frag}{mg:Str->Option Value}{base:Heap}{A:Around}{outer:List Env}{s:Shared}{H:Hp}(e:Env0 P w K mg base A outer s H)(C:Addr)(us:List Value)(kw:List (Str×Value)) :
  Env0 P w K mg base (A.under (.builtin "type.__call__" ⟨.ref C::us,kw⟩)) outer s H:=⟨by first | exact e.frames | (simpa [Around.under,Code.envs,Code.isFrame,pushEnvs] using e.frames),e.mod,e.bs,e.bsz,e.funs,e.frf,e.hok,e.bare⟩
section
variable {X:Cx} {pins:List (Addr×Obj)} {Y:St} {H:Hp} {s s':Shared}
theorem Inv.env0(I:Inv X pins Y H s):Env0 X.prog X.w X.K X.mg X.base X.A X.stack s H:=
 ⟨I.ok.frames,I.ok.mod,I.bs,K6 I.ok.bsz I.sz,I.stack,I.stkFree,I.hok,I.bare⟩
theorem Inv.after{Q:VK}{u:Value}(I:Inv X pins Y H s)(h:CE X.stack X.prog X.w H s Q u s'):EP X pins Y Q u s':=by
 obtain ⟨v,H',os,bare,un,hok,r,q⟩:=h;obtain ⟨hh,g,d,t,os'⟩:=s';obtain rfl:os'=s.os:=os;exact ⟨v,H',I.call (h':=hh) (g':=g) (d':=d) (t':=t) (ch:=[]) un hok bare (fun b z=>absurd z 'c'),r,q⟩
end
noncomputable def tCall (sp:Sp) (dvs:List V) (E:XK) (t:TA):TE:=fun Y H Q=>t Y H fun vs H1=>sp (vs++dvs) H1 Q E
noncomputable def tMeth (C:Addr) (m:Str) (sp:Sp) (dvs:List V) (E:XK) (ta:TE) (t:TA):TE:=fun Y H Q=>ta Y H fun x H1=>∃ a dx fs,x=.ref a/\H1 a=some (.ins C dx fs)/\fs.lookup m=none/\
 t Y H1 fun vs H2=>sp (x::(vs++dvs)) H2 Q E
noncomputable def tMake (C:Addr) (sp:Sp) (dvs:List V) (E:XK) (t:TA):TE:=fun Y H Q=>t Y H fun vs H1=>∀ x dx,H1 x=none->H1 dx=none->dx≠x->
 sp (.ref x::(vs++dvs)) (A0 (A0 H1 dx (.own x)) x (.ins C dx [])) (fun v H2=>v=.non/\Q (.ref x) H2) E
noncomputable def Binds (K:PySem.W.Frag) (fd:FuncData) (ps:List Str) (ds:List Value):Prop:=
 ∀ (s:Shared) (us:List Value),K.In s.heap->(us++ds).length=ps.length->BindsTo s fd ⟨us,[]⟩ (ps.zip (us++ds))
theorem Binds.all{K:PySem.W.Frag}{fd:FuncData}{ps:List Str}(h:∀ us:List Value,us.length=ps.length->bindArgs fd ⟨us,[]⟩=pure (ps.zip us)):Binds K fd ps []:=fun s us _ hl=>by
 rw [K9] at hl ⊢
 exact .of_eq (h us hl)
noncomputable def gB (CX:j7) (X:Cx) (E:XK):Prop:=∀ (pins:List (Addr×Obj)) (Y:St) (H:Hp) (s:Shared) (e:Value) (s':Shared),Inv X pins Y H s->CX X.stack H s E e s'->X.xe e s'
section
variable {X:Cx} {CX:j7} {k:Nat} {f C:Addr} {fd:FuncData} {ps:List Str} {sp:Sp} {dvs:List V} {ds:List Value} {E:XK} {x m:Str} {p pos apos:Pos} {e o:Expr} {es:List Expr} {ta:TE} {t:TA}
theorem wT{pins:List (Addr×Obj)}{Y:St}{H:Hp}{s:Shared}{Q:VK}{us:List Value}{vs:List V}(F:FnOk X.prog X.w X.K X.mg X.base CX k f fd ps sp)(hr:Room k X.A)(hb:Binds X.K fd ps ds)(hd:Vals dvs ds)(hx:gB CX X E)(I:Inv X pins Y H s)(r:Vals vs us)(h:sp (vs++dvs) H Q E):wpAny 'b' X.A (call (.ref f) us) (EP X pins Y Q) X.xe s:=by
 have r2:Vals (vs++dvs) (us++ds):=r.append hd;have hl:(us++ds).length=ps.length:=by rw [<- r2.length];exact F.len _ _ _ _ h
 refine wpAny_call (codeAny_mono (F.run X.A X.stack s H ⟨us,[]⟩ (us++ds) (vs++dvs) Q E hr I.env0 (hb s us I.kIn hl) r2 h) fun r s' hq=>?_)
 cases r with
 | error e=>exact hx pins Y H s e s' I hq
 | ok fl=>
  cases fl with
  | ret u=>exact I.after hq
  | next=>exact False.elim hq
  | brk=>exact False.elim hq
  | cont=>exact False.elim hq
theorem anH(F:FnOk X.prog X.w X.K X.mg X.base CX k f fd ps sp)(hr:Room k X.A)(hg:Gl X x)(hm:X.mg x=some (.ref f))(hk:X3 X.K (.ref f)=true)(hb:Binds X.K fd ps ds)(hd:Vals dvs ds)(hx:gB CX X E)(ha:PA X (e::es) t)(U3:(x==("__debug__" : Str))=false:=by decide)(he:starEach (e::es) X.env=(false,eval e X.env)::starEach es X.env:=by rfl)(L5:(backTo pos (starEach es X.env)).any (·.1)=false:=by rfl) :
  PE X (.Call (.Name x p) (e::es) [] pos) (tCall sp dvs E t):=by
 sleep 1;refine wpAny_Call_Name_kw (wH I hg hm ?_ U3);refine PySem.W.callWith_K (h₀:=X.base) I.ok.mod.kin hk (B3 (ha pos pins s Y H _ I h) fun us s1 ⟨vs,H1,I1,r,q⟩=>⟨I1.kIn,?_⟩) he L5;exact wT F hr hb hd hx I1 r q
theorem anI{pl:Sem Bool}(he:PE X o ta)(c:Cls X.K C)(hm:Meth X.K C m f)(F:FnOk X.prog X.w X.K X.mg X.base CX k f fd ps sp)(hr:Room k X.A)(hb:Binds X.K fd ps ds)(hd:Vals dvs ds)(hx:gB CX X E)(ha:PA X (e::es) t)(Q8:starEach (e::es) X.env=(false,eval e X.env)::starEach es X.env:=by rfl)(L5:(backTo pos (starEach es X.env)).any (·.1)=false:=by rfl)(ht:eval (.Call (.Attribute o m apos) (e::es) [] pos) X.env=(do
   let ov <- eval o X.env
   standAt apos.atName
   let (f,first) <- holding [ov] (getMethod ov m pl)
   callWith pos f first (backTo pos (starEach (e::es) X.env)) (backToKw pos (keywordEach [] X.env))):=by rfl) :
  PE X (.Call (.Attribute o m apos) (e::es) [] pos) (tMeth C m sp dvs E ta t):=by
 sleep 1;refine PySem.W.methodCall_KW (pl:=pl) (B3 (he pins s Y H _ I h) fun u s1 ⟨x,H1,I1,rx,a,dx,fs,ex,ea,l,q⟩=>?_) ht;subst ex;obtain rfl:u=Value.ref a:=rx;refine afs I1 ea c hm l ?_;refine PySem.W.callWith_K (first:=[.ref a]) (h₀:=X.base) I.ok.mod.kin hm.kp (B3 (ha pos pins s1 Y H1 _ I1 q) fun us s2 ⟨vs,H2,I2,r,q2⟩=>⟨I2.kIn,?_⟩) Q8 L5;exact wT (us:=.ref a::us) (vs:=.ref a::vs) F hr hb hd hx I2 (.cons rfl r) q2
theorem alK{pl:Sem Bool}(he:PE X o ta)(c:Cls X.K C)(hm:Meth X.K C m f)(F:FnOk X.prog X.w X.K X.mg X.base CX k f fd ps sp)(hr:Room k X.A)(hb:Binds X.K fd ps ds)(hd:Vals dvs ds)(hx:gB CX X E)(ht:eval (.Call (.Attribute o m apos) [] [] pos) X.env=(do
   let ov <- eval o X.env
   standAt apos.atName
   let (f,first) <- holding [ov] (getMethod ov m pl)
   callWith pos f first (backTo pos (starEach [] X.env)) (backToKw pos (keywordEach [] X.env))):=by rfl) :
  PE X (.Call (.Attribute o m apos) [] [] pos) (tMeth C m sp dvs E ta tNil):=by
 sleep 1;refine PySem.W.methodCall_KW (pl:=pl) (B3 (he pins s Y H _ I h) fun u s1 ⟨x,H1,I1,rx,a,dx,fs,ex,ea,l,q⟩=>?_) ht;subst ex;obtain rfl:u=Value.ref a:=rx;refine afs I1 ea c hm l ?_;exact PySem.W.callWith_K0 (first:=[.ref a]) I1.kIn hm.kp (wT (us:=[.ref a]) (vs:=[.ref a]) F hr hb hd hx I1 (.cons rfl .nil) q)
structure Mk(K:PySem.W.Frag)(C f:Addr):Prop where
 makes:PySem.W.makesIn K C=true
 init:R4 K (.ref C) "__init__"=some (some (.ref f))
 fn:bU K (.ref f)=true
 kp:X3 K (.ref C)=true
theorem alL{pins:List (Addr×Obj)}{Y:St}{H:Hp}{s:Shared}{Q:VK}{us:List Value}{vs:List V}(M:Mk X.K C f)(F:FnOk X.prog X.w X.K X.mg X.base CX k f fd ps sp)(hr:Room (k+1) X.A)(hb:Binds X.K fd ps ds)(hd:Vals dvs ds)(hx:gB CX X E)(I:Inv X pins Y H s)(r:Vals vs us)(h:∀ x dx,H x=none->H dx=none->dx≠x->sp (.ref x::(vs++dvs)) (A0 (A0 H dx (.own x)) x (.ins C dx [])) (fun v H2=>v=.non/\Q (.ref x) H2) E) :
  wpAny 'b' X.A (call (.ref C) us) (EP X pins Y Q) X.xe s:=by
 have hq:=h (s.heap.objs.size+1) s.heap.objs.size (I.hok.fresh (Nat.le_succ _)) (I.hok.fresh (B5 _)) (O6 (Nat.lt_succ_self _));have I2:=Inv.made (C:=C) I;have r2:Vals (V.ref (s.heap.objs.size+1)::(vs++dvs)) (Value.ref (s.heap.objs.size+1)::(us++ds)):=.cons rfl (r.append hd);have hl:(Value.ref (s.heap.objs.size+1)::us++ds).length=ps.length:=by
  have e:=r2.length;rw [F.len _ _ _ _ hq] at e;exact e.symm
 refine wpAny_call (alJ (f:=f) I.kIn M.makes M.init (beq_iff_eq.mp M.fn) (codeAny_mono (F.run _ X.stack _ _ ⟨Value.ref (s.heap.objs.size+1)::us,[]⟩ (Value.ref (s.heap.objs.size+1)::(us++ds)) _ _ E (hr.make C us [])
  (I2.env0.make C us []) (hb _ (Value.ref (s.heap.objs.size+1)::us) I2.kIn hl) r2 hq) fun r s' cQ=>?_))
 cases r with
 | error e=>exact hx pins Y _ _ e s' I2 cQ
 | ok fl=>
  cases fl with
  | ret u=>
   obtain ⟨v,H',I3,rv,ev,q3⟩:=I2.after cQ;subst ev;exact ⟨rv,⟨V.ref (s.heap.objs.size+1),H',I3,rfl,q3⟩⟩
  | next=>exact False.elim cQ
  | brk=>exact False.elim cQ
  | cont=>exact False.elim cQ
theorem anJ(M:Mk X.K C f)(F:FnOk X.prog X.w X.K X.mg X.base CX k f fd ps sp)(hr:Room (k+1) X.A)(hg:Gl X x)(hm:X.mg x=some (.ref C))(hb:Binds X.K fd ps ds)(hd:Vals dvs ds)(hx:gB CX X E)(ha:PA X (e::es) t)(U3:(x==("__debug__" : Str))=false:=by decide)(he:starEach (e::es) X.env=(false,eval e X.env)::starEach es X.env:=by rfl)(L5:(backTo pos (starEach es X.env)).any (·.1)=false:=by rfl) :
  PE X (.Call (.Name x p) (e::es) [] pos) (tMake C sp dvs E t):=by
 sleep 1;refine wpAny_Call_Name_kw (wH I hg hm ?_ U3);refine PySem.W.callWith_K (h₀:=X.base) I.ok.mod.kin M.kp (B3 (ha pos pins s Y H _ I h) fun us s1 ⟨vs,H1,I1,r,q⟩=>⟨I1.kIn,?_⟩) he L5;exact alL M F hr hb hd hx I1 r q
end
noncomputable def PK (X:Cx) (kws:List Keyword) (t:TA):Prop:=
 ∀ (pos:Pos) (pins:List (Addr×Obj)) (s:Shared) (Y:St) (H:Hp) (Q:List V->Hp->Prop),Inv X pins Y H s->t Y H Q->wpAny 'b' X.A (evalAll ((backToKw pos (keywordEach kws X.env)).map (·.2))) (AP X pins Y Q) X.xe s
section
variable {X:Cx} {CX:j7} {k:Nat} {f C:Addr} {fd:FuncData} {ps ks:List Str} {sp:Sp} {E:XK} {x m:Str} {p pos apos kpos:Pos} {e o:Expr} {es:List Expr} {kws:List Keyword} {te ta:TE} {t tk:TA} {nm:Option Str}
theorem aqy:PK X [] tNil:=fun _ _ _ _ H Q I h=>wpAny_evalAll_nil ⟨[],H,I,.nil,h⟩
theorem anK(ha:PE X e te)(hr:PK X kws t):PK X (⟨nm,e,kpos⟩::kws) (tCons te t):=by
 intro pos pins s Y H Q I h;show wpAny _ _ (evalAll ((do let v <- eval e X.env;standAt pos;pure v)::(backToKw pos (keywordEach kws X.env)).map (·.2))) _ _ s;refine wpAny_evalAll_cons (wpAny_bind (B3 (ha pins s Y H _ I h) fun u s1 ⟨x,H1,I1,r1,q1⟩=>wpAny_bind (wpAny_standAt (wpAny_pure ?_))));exact B3 (hr pos pins s1 Y H1 _ I1 q1) fun us s2 ⟨xs,H2,I2,r2,q2⟩=>⟨x::xs,H2,I2,.cons r1 r2,q2⟩
variable {g:List Value->List Value->List Value} {gV:List V->List V->List V}
end
structure FnScope(N P:List Str)(sc:Scope):Prop where
 kind:sc.kind=.function
 co:sc.isCoroutine=false
 gen:sc.isGenerator=false
 nd:N.Nodup
 pre:N.take P.length=P
 par:∀ x∈P,sc.names.lookup x=some .local\/sc.names.lookup x=some .cell
 nofree:∀ y∈sc.names,y.2≠.free
theorem agl{kindOf:Str->Option NameKind}{x:Str} : ∀ {binds:List (Str×Value)} {m:Str->Option Value},(∀ v,(x,v)∉binds)->bindL kindOf binds m x=m x
 | [],_,_=>rfl
 | (n,v)::r,m,h=>by
  unfold bindL;rw [agl fun w hw=>h w (N4 _ hw)]
  split
  .have:x≠n:=by rintro rfl;exact h v O0
   simp [this]
  .rfl
theorem agm{kindOf:Str->Option NameKind}{x:Str} : ∀ {binds:List (Str×Value)} {m:Str->Option Value},(∀ v,(x,v)∉binds)->bindC kindOf binds m x=m x
 | [],_,_=>rfl
 | (n,v)::r,m,h=>by
  unfold bindC;rw [agm fun w hw=>h w (N4 _ hw)]
  split
  .rfl
  .have:x≠n:=by rintro rfl;exact h v O0
   simp [this]
theorem agn{kindOf:Str->Option NameKind}{x:Str}{v:Value} : ∀ {P:List Str} {vs:List Value} {i:Nat} {m:Str->Option Value},P.Nodup->P[i]?=some x->vs[i]?=some v->kindOf x=some .local->
  bindL kindOf (P.zip vs) m x=some v
 | [],_,_,_,_,h,_,_=>by simp at h
 | _::_,[],_,_,_,_,h,_=>by simp at h
 | p::P,w::vs,0,m,nd,h1,h2,hk=>by
  simp at h1 h2;subst h1;subst h2;show bindL kindOf ((p,w)::P.zip vs) m p=_;unfold bindL;rw [agl fun v hv=>(V8.mp nd).1 (List.of_mem_zip hv).1,if_pos hk]
  simp
 | p::P,w::vs,i+1,m,nd,h1,h2,hk=>by
  show bindL kindOf ((p,w)::P.zip vs) m x=_;unfold bindL;exact agn (i:=i) (V8.mp nd).2 (by simpa using h1) (by simpa using h2) hk
theorem ago{kindOf:Str->Option NameKind}{x:Str}{v:Value} : ∀ {P:List Str} {vs:List Value} {i:Nat} {m:Str->Option Value},P.Nodup->P[i]?=some x->vs[i]?=some v->kindOf x≠some .local->
  bindC kindOf (P.zip vs) m x=some v
 | [],_,_,_,_,h,_,_=>by simp at h
 | _::_,[],_,_,_,_,h,_=>by simp at h
 | p::P,w::vs,0,m,nd,h1,h2,hk=>by
  simp at h1 h2;subst h1;subst h2;show bindC kindOf ((p,w)::P.zip vs) m p=_;unfold bindC;rw [agm fun v hv=>(V8.mp nd).1 (List.of_mem_zip hv).1,if_neg hk]
  simp
 | p::P,w::vs,i+1,m,nd,h1,h2,hk=>by
  show bindC kindOf ((p,w)::P.zip vs) m x=_;unfold bindC;exact ago (i:=i) (V8.mp nd).2 (by simpa using h1) (by simpa using h2) hk
noncomputable def start (N:List Str) (vs:List V):St:=vs.map some++Y7 (N.length-vs.length) none
noncomputable def cxOf (CX:j7) (P:Program) (w:World) (K:PySem.W.Frag) (mg:Str->Option Value) (base:Heap) (N:List Str) (qual:Str) (scope:Scope) (f:Addr) (cd:Value) (A:Around) (outer:List Env) (s:Shared) (H:Hp) (E:XK):Cx where
 prog:=P
 w:=w
 K:=K
 mg:=mg
 base:=base
 A:=A.deeper (envOfC qual scope s.heap.objs.size f cd)
 N:=N
 s₀:=s
 H₀:=H
 env:=envOfC qual scope s.heap.objs.size f cd
 outer:=outer
 stack:=envOfC qual scope s.heap.objs.size f cd::outer
 ex:=[]
 calm:=true
 fn:=fun _=>true
 pn:=[]
 xe:=fun e s'=>wpAny (model P w) (A.deeper (envOfC qual scope s.heap.objs.size f cd)) (leaving (envOfC qual scope s.heap.objs.size f cd) e) (fun _ s''=>CX outer H s E e s'') (fun e' s''=>CX outer H s E e' s'') s'
theorem aii{sc:Scope}{n:Nat}{x:Str}(h:sc.names.lookup x=some .cell):∃ c,(cellsFrom n sc.names []).lookup x=some c:=by
 have q:=PySem.W.cellsFrom_some sc.names n [] (.inl h);exact Option.isSome_iff_exists.mp q
theorem aj3{CX:j7}{P:Program}{w:World}{K:PySem.W.Frag}{mg:Str->Option Value}{base:Heap}{N ps:List Str}{qual:Str}{scope:Scope}{f:Addr}{cd:Value}{A:Around}{outer:List Env}{s s1:Shared}{H:Hp}{E:XK}{us:List Value}{vs:List V}(S:FnScope N ps scope)(hd:A.handled=none)(e0:Env0 P w K mg base A outer s H)(hl:vs.length=ps.length)(r:Vals vs us)(x:InCallC s s.heap.objs.size (bindL (envOfC qual scope s.heap.objs.size f cd).kindOf (ps.zip us) fun _=>none) (cellsFrom (s.heap.objs.size+1) scope.names []) (bindC (envOfC qual scope s.heap.objs.size f cd).kindOf (ps.zip us) fun _=>none) s1) :
  Inv (cxOf CX P w K mg base N qual scope f cd A outer s H E) [] (start N vs) H s1:=by
 have L5:ps.length<=N.length:=by have:=congrArg Y8 S.pre;rw [E9] at this;lia
 obtain ⟨h1,tk,rfl,hk⟩:=x.done;have noA:∀ b:Addr,b∉(cxOf CX P w K mg base N qual scope f cd A outer s H E).ex:=fun b z=>absurd (show b∈([]:List Addr) from z) 'c'
 refine ⟨⟨e0.mod,S.kind,rfl,rfl,B5 _,fun y z c h1 h2=>?_,fun y hy=>?_,fun y c _ h=>?_,fun _=>hd,Around.frames_deeper e0.frames,.inr ⟨rfl,rfl⟩,fun b z=>absurd z (noA b),e0.bs,e0.bsz,fun b _ _=>noA b,fun b z=>absurd z (noA b),e0.funs,e0.frf⟩,
  rfl,e0.bare,Un.kept hk,⟨_,x.toInCall.ns,fun i y v h1 h2 h3=>?_⟩,fun y c h=>⟨_,x.cell y c h⟩,e0.hok.fresh (B5 _),fun y c h=>?_,fun p hp=>absurd (show p∈([]:List (Addr×Obj)) from hp) 'c',e0.hok.kept hk,?_⟩
 .exact name_of_addr x.apart (PySem.mem_of_lookup h1) (PySem.mem_of_lookup h2)
 .have hy:scope.names.lookup y=some .cell\/scope.names.lookup y=some .free:=hy
  rcases hy with hy | hy
  .exact aii hy
  .exact absurd rfl (S.nofree _ (PySem.mem_of_lookup hy))
 .exact Nat.le_of_lt (x.above y c (PySem.mem_of_lookup h))
 .have hi:i<vs.length:=by
   unfold start at h2
   by_cases hi:i<vs.length
   .exact hi
   .rw [fP (by simpa using hi)] at h2;rw [List.getElem?_replicate] at h2
    split at h2 <;> cases h2
  have ha:vs[i]?=some v:=by
   unfold start at h2;rw [jI (by simpa using hi),T8] at h2;cases e:vs[i]? with
   | none=>rw [e] at h2;cases h2
   | some a=>rw [e] at h2;cases h2;rfl
  obtain ⟨u,hu,rv⟩:=r.get ha;have hp:ps[i]?=some y:=by
   rw [<- S.pre,jK 'a'];exact h1
  have ndP:ps.Nodup:=by rw [<- S.pre];exact S.nd.sublist (List.take_sublist _ _)
  refine ⟨u,rv,?_⟩
  rcases S.par y (N2 hp) with k | k
  .exact .inl ⟨k,agn ndP hp hu k⟩
  .obtain ⟨c,e⟩:=aii (n:=s.heap.objs.size+1) k;refine .inr ⟨.inl k,c,e,?_⟩;have q:=x.cell y c e;rw [ago ndP hp hu (by show scope.names.lookup y≠_;rw [k];decide)] at q;exact q
 .exact e0.hok.fresh (Nat.le_of_lt (x.above y c (PySem.mem_of_lookup h)))
 .unfold start;show _=N.length;rw [C4,A6,List.length_replicate];lia
theorem fn_of{CX:j7}{P:Program}{w:World}{K:PySem.W.Frag}{mg:Str->Option Value}{base:Heap}{k:Nat}{f:Addr}{name qual:Str}{params:Arguments}{body:List Stmt}{scope:Scope}{dV kV doc pm cdv ct oc:Value}{an od:Option Addr}{osl:Array (Option Value)}{N ps:List Str}{sp:Sp}(lk:K.lookup f=some ⟨oc,od,.func (V9 name qual params body scope dV kV doc pm an cdv ct),osl⟩)(U1:b8 K cdv qual=true)(S:FnScope N ps scope)(len:∀ vs H Q E,sp vs H Q E->vs.length=ps.length)(x8:∀ (A:Around) (outer:List Env) (s:Shared) (H:Hp) (vs:List V) (Q:VK) (E:XK),Room k (A.deeper (envOfC qual scope s.heap.objs.size f cdv))->sp vs H Q E->
   ∃ t,b9 (cxOf CX P w K mg base N qual scope f cdv A outer s H E) body t/\t { nx:=fun _ H'=>Q .non H',rt:=Q } (start N vs) H) :
  FnOk P w K mg base CX (k+1) f (V9 name qual params body scope dV kV doc pm an cdv ct) ps sp:=by
 refine ⟨len,fun A outer s H args us vs Q E hr e0 hb r eV=>?_⟩;have hl:=len _ _ _ _ eV;have KX:K.In s.heap:=e0.mod.kin.keeps fun b o e=>(e0.bs b o e).1
 have lim:s.heap.NoLimit:=e0.mod.nolimit.keeps fun b o e=>(e0.bs b o e).1
 have x9:∀ y∈ps.zip us,scope.names.lookup y.1=some .local\/(scope.names.lookup y.1=some .cell/\((cellsFrom (s.heap.objs.size+1) scope.names []).lookup y.1).isSome=true):=fun ⟨n,v⟩ hy=>by
  rcases S.par n (List.of_mem_zip hy).1 with q | q
  .exact .inl q
  .exact .inr ⟨q,PySem.W.cellsFrom_some _ _ _ (.inl q)⟩
 refine codeAny_call_function hr.depth (KX _ _ lk) rfl S.co S.gen rfl (PySem.W.codeRec_of KX U1) (hb _ _ _ _ ?_);refine wpAny_newFunctionEnv_cells S.kind x9 fun env he s1 x=>?_
 subst he;refine ⟨lim.keeps x.toInCall.keep,codeAny_func ?_⟩;obtain ⟨t,ht,hq⟩:=x8 A outer s H vs Q E (hr.deeper _) eV;have I:Inv (cxOf CX P w K mg base N qual scope f cdv A outer s H E) [] (start N vs) H s1:=aj3 S hr.hd e0 hl r x;refine wpAny_mono (ht [] s1 (start N vs) H _ I hq) (fun fl s' hs=>?_) fun e s' hs=>hs
 have fin:∀ {σ':St} {H':Hp} {v:V} {u:Value},Inv (cxOf CX P w K mg base N qual scope f cdv A outer s H E) [] σ' H' s'->RelV v u->Q v H'->CE outer P w H s Q u s':=
  fun {σ' H' v u} J rv q=>⟨v,H',J.os,J.bare,J.base,J.hok,rv,q⟩
 cases fl with
 | ret u=>
  obtain ⟨v,σ',H',J,rv,q⟩:=hs;exact fin J rv q
 | next=>
  obtain ⟨σ',H',J,q⟩:=hs;exact fin (v:=V.non) (u:=Value.none) J rfl q
 | brk=>
  obtain ⟨_,_,_,q⟩:=hs;exact False.elim q
 | cont=>
  obtain ⟨_,_,_,q⟩:=hs;exact False.elim q
end L2
section
variable {C a b f fa it l1 l2 ll md ml r sl:PySem.Addr}{dvs vs xs ys:List L2.V}{Q:L2.VK}{cd ct oc pm u v vl vu:PySem.Value}{ck i j k m n t' x1:Nat}{items items2:Array PySem.Value}{fr ns:List Int}{its its' us:List PySem.Value}{pins:List (PySem.Addr×PySem.Obj)}{Y:L2.St}{H H' H0 H1 H2 H3 zt:L2.Hp}{s zw:PySem.Shared}{name p q qual z:PySem.Str}{A:PySem.Around}{v' x y:L2.V}{h h':PySem.Heap}{L M N N' S acc bad g' ks line loose ls ms ps qs ts zs:List PySem.Str}{K:PySem.W.Frag}{mg:PySem.Str->Option PySem.Value}{fd:PySem.FuncData}{sp:L2.Sp}{X:L2.Cx}{kvs:List (L2.C5×L2.V)}{prog:PySem.Program}{E:PySem.Value->PySem.Shared->Prop}{ixs pre:List Nat}{e elt iter target tg:PySem.Expr}{elts ifs:List PySem.Expr}{g:L2.TG}{c:L2.TT}{td te ti tl to tx ty:L2.TE}{fp l₁ rs:List PySem.Addr}{apos cpos kpos spos tpos:PySem.Pos}{bh calm fg neg:Bool}{st:PySem.Stmt}{an od:Option PySem.Addr}{tb:L2.TS}{D:L2.Ends}{lo:Int}{o:PySem.Obj}{ta:L2.TA}{ss:Array (Option PySem.Value)}
namespace L2
open PySem PySem.Spec PyProof.Rows
section
variable {X:Cx} {x:Str} {p pos:Pos} {e:Expr} {es:List Expr} {t:TA} {id T:String} {r:List V->Hp->VK->Prop}
noncomputable def gC (r:List V->Hp->VK->Prop) (t:TA):TE:=fun Y H Q=>t Y H fun vs H1=>r vs H1 Q
theorem alM(hc:CallR X (.builtin id) r)(hg:Gl X x)(hm:X.mg x=none)(hv:bootBuiltins x=some (.builtin id))(ha:PA X (e::es) t)(hn:x≠"__name__":=by decide)(U3:(x==("__debug__" : Str))=false:=by decide)(he:starEach (e::es) X.env=(false,eval e X.env)::starEach es X.env:=by rfl)(L5:(backTo pos (starEach es X.env)).any (·.1)=false:=by rfl):PE X (.Call (.Name x p) (e::es) [] pos) (gC r t):=by
 sleep 1;refine wpAny_Call_Name_kw (dR I hg hm hv ?_ hn U3);exact PyProof.Rows.callWith_builtin1 (B3 (ha pos pins s Y H _ I h) fun us s1 ⟨vs,H1,I1,r1,q1⟩=>hc pins s1 Y H1 vs us Q I1 r1 q1) he L5
theorem aj4(hc:CallR X (.type T) r)(hg:Gl X x)(hm:X.mg x=none)(hv:bootBuiltins x=some (.type T))(ha:PA X (e::es) t)(hn:x≠"__name__":=by decide)(U3:(x==("__debug__" : Str))=false:=by decide)(he:starEach (e::es) X.env=(false,eval e X.env)::starEach es X.env:=by rfl)(L5:(backTo pos (starEach es X.env)).any (·.1)=false:=by rfl):PE X (.Call (.Name x p) (e::es) [] pos) (gC r t):=by
 sleep 1;refine wpAny_Call_Name_kw (dR I hg hm hv ?_ hn U3);exact PyProof.Rows.callWith_type1 (B3 (ha pos pins s Y H _ I h) fun us s1 ⟨vs,H1,I1,r1,q1⟩=>hc pins s1 Y H1 vs us Q I1 r1 q1) he L5
end
end L2
namespace HT
open PySem PyProof.Rows
section
variable {prog:Program} {w:World} {A:Around} {E:Value->Shared->Prop} {s:Shared}
theorem cat_tup{t:Addr}{vs ws:List Value}{Q:Value->Shared->Prop}(ht:IsTup s.heap t vs.toArray)(hb:IsTup s.heap b ws.toArray)(hv:vs≠[])(h1:ws=[]->Q (.ref t) s)(h2:ws≠[]->Q (.ref s.heap.objs.size) { s with heap:=s.heap.push { cls:=.type "tuple",data:=.seq (vs++ws).toArray } })(hsz:vs.length+ws.length<=sizeLine):wpAny (model prog w) A (binaryOp .Add (.ref t) (.ref b)) Q E s:=by
 obtain ⟨⟨cls,dd,data,sl⟩,ho,hc,n,hd⟩:=id ht;obtain ⟨⟨cls2,f7,data2,W5⟩,m7,Q9,n2,O5⟩:=id hb;simp only at hc hd Q9 O5;subst hc hd Q9 O5;have e:vs.toArray++ws.toArray=(vs++ws).toArray:=by simp
 by_cases hw:ws=[]
 .exact concat_meets ⟨_,ho,rfl⟩ ⟨_,m7,rfl⟩ noFill_tuple_add seq_tuple_add PySem.F.slot_tuple_add PySem.F.entry_tuple_add (PySem.F.args_tuple_add_2 _ _)
   (tuple_addW1 t b vs.toArray ws.toArray n n2 dd f7 sl W5 (by simpa using hv) (by simp [hw])) ⟨ho,m7,h1 hw⟩
 .refine concat_meets ⟨_,ho,rfl⟩ ⟨_,m7,rfl⟩ noFill_tuple_add seq_tuple_add PySem.F.slot_tuple_add PySem.F.entry_tuple_add (PySem.F.args_tuple_add_2 _ _)
   (tuple_addW2 t b vs.toArray ws.toArray n n2 dd f7 sl W5 (by simpa using hv) (by simpa using hw) (by rw [M3,M3];exact hsz)) ⟨ho,m7,?_⟩
  rw [e];exact h2 hw
noncomputable def sIx (n d:Nat):Option Int->Nat
 | none=>d
 | some v=>if v<0 then (v+(n:Int)).toNat else min v.toNat n
theorem sIx_nat(n d k:Nat):sIx n d (some (k:Int))=min k n:=by
 show (if (k:Int)<0 then ((k:Int)+(n:Int)).toNat else min (k:Int).toNat n)=min k n;rw [if_neg 'a',Int.toNat_natCast]
theorem sIx_le(n d:Nat)(hd:d<=n)(o:Option Int):sIx n d o<=n:=by
 cases o with
 | none=>exact hd
 | some v=>
  show (if v<0 then (v+(n:Int)).toNat else min v.toNat n)<=n
  by_cases hv:v<0
  .rw [if_pos hv];lia
  .rw [if_neg hv];exact mX _ _
theorem clip_eq(v:Int)(n d:Nat):(if v<0 then max (v+(n:Int)) 0 else min v (n:Int))=((sIx n d (some v):Nat):Int):=by
 show (if v<0 then max (v+(n:Int)) 0 else min v (n:Int))=(((if v<0 then (v+(n:Int)).toNat else min v.toNat n):Nat):Int)
 by_cases hv:v<0
 .simp only [if_pos hv];lia
 .simp only [if_neg hv];lia
theorem ai8(lo hi:Option Int)(n:Nat):Builtin.Slice.sliceAdjust lo hi 1 (n:Int)=(((sIx n 0 lo:Nat):Int),((sIx n n hi:Nat):Int)):=by
 have h1:¬ ((1:Int)<0):=by lia
 unfold Builtin.Slice.sliceAdjust;simp only [h1,if_false];refine Prod.ext ?_ ?_
 .cases lo with
  | none=>rfl
  | some v=>exact clip_eq v n 0
 .cases hi with
  | none=>rfl
  | some v=>exact clip_eq v n n
theorem ai9(i j:Nat):Builtin.Slice.slicePlaces (i:Int) (j:Int) 1=j-i:=by
 unfold Builtin.Slice.slicePlaces;have h1:(1:Int) > 0:=by lia
 simp only [h1,if_true,Int.ediv_one]
 split <;> lia
theorem aft{o:Option Int}{Q:Option Int->Shared->Prop}(p:IsPart v o)(h:Q o s):wpAny (model prog w) A (Builtin.Slice.slicePartIndex v) Q E s:=by
 cases p with
 | none=>exact slicePart_none h
 | int i t=>exact slicePart_int h
theorem sliceApplied_gen{lo hi:Option Int}{Q:Int×Int×Nat->Shared->Prop}(hs:s.heap.IsSliceOf sl vl vu .none)(pl:IsPart vl lo)(pu:IsPart vu hi)(h:Q (((sIx n 0 lo:Nat):Int),1,sIx n n hi-sIx n 0 lo) s):wpAny (model prog w) A (Builtin.Slice.sliceApplied (.ref sl) (pure (n:Int))) Q E s:=by
 obtain ⟨os,bE,vG,pT⟩:=id hs;unfold Builtin.Slice.sliceApplied Builtin.Slice.sliceFields;refine wpAny_bind (wpAny_bind (wpAny_field bE pT (x:=vl) rfl (wpAny_bind (wpAny_field bE pT (x:=vu) rfl (wpAny_bind (wpAny_field bE pT (x:=.none) rfl (wpAny_pure ?_)))))));refine wpAny_bind (slicePart_none ?_);show wpAny _ _ (if ((1:Int)==0)=true then _ else _) _ _ s;rw [if_neg 'h'];refine wpAny_bind (aft pl (wpAny_bind (aft pu (wpAny_bind (wpAny_pure ?_)))));show wpAny _ _ (match Builtin.Slice.sliceAdjust lo hi 1 (n:Int) with | (lo,hi)=>pure (lo,(1:Int),Builtin.Slice.slicePlaces lo hi 1)) _ _ s;rw [ai8 lo hi n];show wpAny _ _ (pure (((sIx n 0 lo:Nat):Int),(1:Int),Builtin.Slice.slicePlaces ((sIx n 0 lo:Nat):Int) ((sIx n n hi:Nat):Int) 1)) _ _ s;rw [ai9];exact wpAny_pure h
theorem alN(xs:Array Value)(i k:Nat):((List.range k).filterMap fun (m:Nat)=>xs[((i:Int)+(m:Int)*1).toNat]?).toArray=((xs.toList.drop i).take k).toArray:=by
 have e:(fun (m:Nat)=>xs[((i:Int)+(m:Int)*1).toNat]?)=fun m=>xs[i+m]?:=by
  funext m
  have:((i:Int)+(m:Int)*1).toNat=i+m:=by lia
  rw [this]
 rw [e]
 have:=pick_run xs i k
 rw [List.filterMap_map] at this;have e2:((fun x=>xs[x]?)∘fun x=>i+x)=fun m=>xs[i+m]?:=rfl
 rw [e2] at this;rw [this]
theorem getItem_tuple_cut{t:Addr}{lo hi:Option Int}{Q:Value->Shared->Prop}(ht:IsTup s.heap t items)(hs:s.heap.IsSliceOf sl vl vu .none)(pl:IsPart vl lo)(pu:IsPart vu hi)(hw:¬ (sIx items.size 0 lo=0/\sIx items.size items.size hi=items.size))(h:Q (.ref s.heap.objs.size) { s with heap:=s.heap.push { cls:=.type "tuple",data:=.seq ((items.toList.drop (sIx items.size 0 lo)).take (sIx items.size items.size hi-sIx items.size 0 lo)).toArray } })(hsz:items.size<=sizeLine):wpAny (model prog w) A (getItem (.ref t) (.ref sl)) Q E s:=by
 have i4:sizeOk (.seq ((items.toList.drop (sIx items.size 0 lo)).take (sIx items.size items.size hi-sIx items.size 0 lo)).toArray):=by
  show ((items.toList.drop (sIx items.size 0 lo)).take (sIx items.size items.size hi-sIx items.size 0 lo)).toArray.size<=sizeLine;rw [M3,E9,X1,fY];lia
 have hj:sIx items.size items.size hi<=items.size:=sIx_le _ _ (B5 _) hi;obtain ⟨os,bE,vG,pT⟩:=id hs;have hTs:s.TypeIs (.ref sl) "slice":=⟨os,bE,vG⟩
 unfold getItem
 try with_reducible refine wpAny_holding ?_
 first | refine wpAny_bind (wpAny_pure ?_) | skip
 refine wpAny_bind (wpAny_sequenceKey ht.typeIs 'h' ?_);refine wpAny_bind (wpAny_callSpecial?_slot (name:=Str.ofString "__getitem__") ht.typeIs PyProof.Rows.slot_tuple_getitem
  (wpAny_call_entry PyProof.Rows.slot_tuple_getitem ht.typeIs entry_tuple_getitem ?_ (args_tuple_getitem _ _)))
 show wpAny _ _ (Builtin.Tuple.tupleItemsOf (.ref t) >>= _) _ _ s;refine wpAny_bind (tupleItemsOf_ ht ?_);refine wpAny_bind (wpAny_typeOf hTs ?_);rw [if_pos 'h'];refine wpAny_bind (sliceApplied_gen hs pl pu ?_);have pU:¬ ((((sIx items.size 0 lo:Nat):Int)==0&&(1:Int)==1&&(sIx items.size items.size hi-sIx items.size 0 lo)==items.size)=true):=by
  intro q;rw [T5,T5] at q;have q1:((sIx items.size 0 lo:Nat):Int)=0:=eq_of_beq q.1.1;have q2:sIx items.size items.size hi-sIx items.size 0 lo=items.size:=eq_of_beq q.2;exact hw ⟨by lia,by lia⟩
 show wpAny _ _ (if (((sIx items.size 0 lo:Nat):Int)==0&&(1:Int)==1&&(sIx items.size items.size hi-sIx items.size 0 lo)==items.size)=true then _ else _) _ _ s;rw [if_neg pU,alN]
 first
  | exact wpAny_bind (m:=Builtin.Tuple.tupleExact _) (wpAny_newObj_type (wpAny_pure ⟨_,rfl,wpAny_pure h⟩) i4)
  | exact wpAny_bind (m:=Builtin.Tuple.tupleExact _) (wpAny_newObj_type (wpAny_bind (wpAny_pure (wpAny_pure ⟨_,rfl,wpAny_pure h⟩))) i4)
  | exact wpAny_bind (wpAny_bind (m:=Builtin.Tuple.tupleExact _) (wpAny_newObj_type (wpAny_pure (wpAny_pure ⟨_,rfl,wpAny_pure h⟩)) i4))
  | exact wpAny_bind (wpAny_bind (m:=Builtin.Tuple.tupleExact _) (wpAny_newObj_type (wpAny_pure ⟨_,rfl,wpAny_pure h⟩) i4))
end
end HT
namespace L2
open PySem PySem.Spec PyProof.Rows
noncomputable abbrev TO:=St->Hp->(Option Int->Hp->Prop)->Prop
noncomputable def PO (X:Cx) (e:Option Expr) (t:TO):Prop:=
 ∀ (pins:List (Addr×Obj)) (s:Shared) (Y:St) (H:Hp) (Q:Option Int->Hp->Prop),Inv X pins Y H s->t Y H Q->
  wpAny 'b' X.A (evalPart e X.env) (fun u s'=>∃ o H',Inv X pins Y H' s'/\IsPart u o/\Q o H') X.xe s
noncomputable def wU:TO:=fun _ H Q=>Q none H
noncomputable def tPart (t:TE):TO:=fun Y H Q=>t Y H fun x H1=>∃ i,x=.int i/\Q (some i) H1
theorem sI : ∀ {us:List Value},Vals (ns.map V.int) us->IntsAre us ns:=by
 induction ns with
 | nil=>intro us r;rw [List.map_nil] at r;cases r;exact .nil
 | cons n ns ih=>
  intro us r;rw [K5] at r
  cases r with
  | cons r1 r2=>
   obtain ⟨t,e⟩:=r1;subst e;exact .cons n t (ih r2)
section
variable {X:Cx} {e:Expr} {te:TE} {lo hi:Option Expr} {tl th:TO} {pos p2:Pos}
theorem anL:PO X none wU:=by
 sleep 1;rw [evalPart_none];exact wpAny_pure ⟨none,H,I,.none,h⟩
theorem anM(h:PE X e te):PO X (some e) (tPart te):=by
 intro pins s Y H Q I hw;rw [evalPart_some];refine B3 (h pins s Y H _ I hw) fun u s1 ⟨x,H1,I1,r1,q1⟩=>?_
 obtain ⟨i,rfl,q⟩:=q1;obtain ⟨t,rfl⟩:=r1;exact ⟨some i,H1,I1,.int i t,q⟩
noncomputable def jX (X:Cx) (r:V->Option Int->Option Int->Hp->VK->Prop):Prop:=
 ∀ (pins:List (Addr×Obj)) (s:Shared) (Y:St) (H:Hp) (x:V) (v vl vu:Value) (lo hi:Option Int) (sl:Addr) (Q:VK),Inv X pins Y H s->RelV x v->s.heap.IsSliceOf sl vl vu .none->IsPart vl lo->IsPart vu hi->r x lo hi H Q->
  ∃ T id,typeLookup (.type T) "__getitem__"=pure (some (.builtin id))/\s.TypeIs v T/\wpAny 'b' X.A (getItem v (.ref sl)) (EP X pins Y Q) X.xe s
noncomputable def wV (r:V->Option Int->Option Int->Hp->VK->Prop) (te:TE) (tl th:TO):TE:=fun Y H Q=>te Y H fun x H1=>tl Y H1 fun l H2=>th Y H2 fun u H3=>r x l u H3 Q
theorem alO{r:V->Option Int->Option Int->Hp->VK->Prop}(hr:jX X r)(he:PE X e te)(hl:PO X lo tl)(hu:PO X hi th):PE X (.Subscript e (.Slice lo hi none p2) pos) (wV r te tl th):=by
 sleep 1;refine Subscript_ (B3 (he pins s Y H _ I h) fun v s1 ⟨x,H1,I1,r1,q1⟩=>?_);refine wpAny_Slice (B3 (hl pins s1 Y H1 _ I1 q1) fun vl s2 ⟨l,H2,I2,pl,q2⟩=>B3 (hu pins s2 Y H2 _ I2 q2) fun vu s3 ⟨u,H3,I3,pu,q3⟩=>?_);rw [evalPart_none];refine wpAny_pure ?_;have I4:Inv X pins Y H3 { s3 with heap:=s3.heap.push { cls:=.type "slice",data:=.fields #[vl,vu,.none] } }:=I3.kept (t':=s3.toks) fun b ob q=>Heap.get?_push_of_some _ q
 obtain ⟨T,id,hT,ht,hg⟩:=hr pins { s3 with heap:=s3.heap.push { cls:=.type "slice",data:=.fields #[vl,vu,.none] } } Y H3 x v vl vu l u s3.heap.objs.size Q I4 r1 (Heap.IsSliceOf.new ..) pl pu q3;show wpAny 'b' X.A (subscriptTail e (.Slice lo hi none p2) v (.ref s3.heap.objs.size)) (EP X pins Y Q) X.xe { s3 with heap:=s3.heap.push { cls:=.type "slice",data:=.fields #[vl,vu,.none] } };exact tail_any (ops:=[.ref s3.heap.objs.size,v]) ht hT hg (by with_unfolding_all rfl)
noncomputable def cutV (xs:List V) (lo hi:Option Int):List V:=(xs.drop (HT.sIx xs.length 0 lo)).take (HT.sIx xs.length xs.length hi-HT.sIx xs.length 0 lo)
theorem aeB(xs:List V)(lo hi:Option Int):(cutV xs lo hi).length<=xs.length:=by
 unfold cutV;rw [E9,X1];lia
noncomputable def rSlT (K:PySem.W.Frag):V->Option Int->Option Int->Hp->VK->Prop:=fun x lo hi H Q=>∃ a xs,x=.ref a/\C6 K H a xs/\
 ¬ (HT.sIx xs.length 0 lo=0/\HT.sIx xs.length xs.length hi=xs.length)/\∀ p,H p=none->Q (.ref p) (A0 H p (.tup (cutV xs lo hi)))
theorem aqz:jX X (rSlT X.K):=by
 intro pins s Y H x v vl vu lo hi sl Q I rx hs pl pu h;obtain ⟨a,xs,rfl,hx,hw,q⟩:=h
 cases rx
 obtain ⟨its,r,ht,hz⟩:=I.tuple hx;have A9:its.toArray.size=xs.length:=by rw [M3];exact r.length.symm
 refine ⟨"tuple",_,PyProof.Rows.slot_tuple_getitem.lookup,ht.typeIs,?_⟩;refine HT.getItem_tuple_cut ht hs pl pu (by rw [A9];exact hw) ?_ (by rw [A9];exact hz);rw [A9];refine ⟨.ref s.heap.objs.size,_,I.laid (t':=s.toks) (o:=.tup (cutV xs lo hi)) (fun b ob q=>Heap.get?_push_of_some _ q) (B5 _) ?_,rfl,q _ (I.hok.fresh (B5 _))⟩;exact ⟨K6 (aeB xs lo hi) hz,_,(r.drop (HT.sIx xs.length 0 lo)).take (HT.sIx xs.length xs.length hi-HT.sIx xs.length 0 lo),IsTup.new _ _⟩
noncomputable def rCatT (K:PySem.W.Frag):R2:=fun x y H Q=>∃ a b xs ys,x=.ref a/\y=.ref b/\C6 K H a xs/\C6 K H b ys/\xs≠[]/\xs.length+ys.length<=sizeLine/\
 (ys=[]->Q (.ref a) H)/\(ys≠[]->∀ p,H p=none->Q (.ref p) (A0 H p (.tup (xs++ys))))
theorem Vals.nil_iff(r:Vals xs us):us=[]↔xs=[]:=by
 cases r with
 | nil=>simp
 | cons _ _=>simp
theorem aj5:L0 X (binaryOp .Add) (rCatT X.K):=by
 sleep 0;obtain ⟨a,b,xs,ys,rfl,rfl,ha,hb,hx,hz,q1,q2⟩:=h
 cases rx
 cases ry
 obtain ⟨its,r1,p1,_⟩:=I.tuple ha;obtain ⟨its2,r2,p2,_⟩:=I.tuple hb;refine HT.cat_tup p1 p2 (fun z=>hx (r1.nil_iff.mp z)) (fun z=>⟨.ref a,H,I,rfl,q1 (r2.nil_iff.mp z)⟩) (fun z=>?_) (by rw [<- r1.length,<- r2.length];exact hz);refine ⟨.ref s.heap.objs.size,_,I.laid (t':=s.toks) (o:=.tup (xs++ys)) (fun b ob q=>Heap.get?_push_of_some _ q) (B5 _) ?_,rfl,q2 (fun w=>z (r2.nil_iff.mpr w)) _ (I.hok.fresh (B5 _))⟩;exact ⟨by rw [C4];exact hz,_,r1.append r2,IsTup.new _ _⟩
end
noncomputable def g6 (n:Nat) (i:Int):Option Nat:=if 0<=i then (if i<n then some i.toNat else none) else if -(n:Int)<=i then some (i+n).toNat else none
noncomputable def G4 {α:Type} (xs:List α) (i:Int):Option α:=(g6 xs.length i).bind fun j=>xs[j]?
theorem aj6{i:Int}(h:g6 n i=some j):seqIndex? i n=some j/\j<n/\-(n:Int)<=i/\i<n:=by
 unfold g6 at h
 by_cases h0:0<=i
 .rw [if_pos h0] at h
  by_cases h1:i<n
  .rw [if_pos h1] at h;have e:i.toNat=j:=Option.some.inj h;exact ⟨by rw [seqIndex_of h0 h1,e],by lia,by lia,h1⟩
  .rw [if_neg h1] at h;cases h
 .rw [if_neg h0] at h
  by_cases h1:-(n:Int)<=i
  .rw [if_pos h1] at h;have e:(i+n).toNat=j:=Option.some.inj h;exact ⟨by rw [seqIndex_neg 'a' h1,e],by lia,h1,by lia⟩
  .rw [if_neg h1] at h;cases h
theorem wW{α:Type}{xs:List α}{i:Int}{v:α}(h:G4 xs i=some v):∃ j,seqIndex? i xs.length=some j/\xs[j]?=some v/\j<xs.length/\-(xs.length:Int)<=i/\i<xs.length:=by
 unfold G4 at h;cases e:g6 xs.length i with
 | none=>rw [e] at h;cases h
 | some j=>
  rw [e] at h;obtain ⟨h1,h2,h3,h4⟩:=aj6 e;exact ⟨j,h1,h,h2,h3,h4⟩
theorem N9{α:Type}{xs:List α}{v:α}(h:xs[j]?=some v):G4 xs (j:Int)=some v:=by
 have hj:j<xs.length:=(G2.mp h).1;have e:g6 xs.length (j:Int)=some j:=by
  unfold g6;rw [if_pos 'a',if_pos 'a'];simp
 unfold G4;rw [e];exact h
theorem aij{α:Type}(xs:List α)(v:α):G4 (xs++[v]) (-1)=some v:=by
 have hl:(xs++[v]).length=xs.length+1:=by simp
 have e:g6 (xs++[v]).length (-1)=some xs.length:=by
  unfold g6;rw [hl,if_neg 'h',if_pos 'a']
  congr 1
  lia
 unfold G4;rw [e];show (xs++[v])[xs.length]?=some v
 simp
noncomputable def aj7 (b:Expr):Prop:=∀ o i,subscripted b false o i=operate [o,i] (getItem o i)
noncomputable def cA (X:Cx) (r:R2):Prop:=
 ∀ (value slice:Expr) (pins:List (Addr×Obj)) (s:Shared) (Y:St) (H:Hp) (x y:V) (v u:Value) (Q:VK),Inv X pins Y H s->RelV x v->RelV y u->r x y H Q->
  subscripted slice false v u=operate [v,u] (getItem v u)->wpAny 'b' X.A (subscriptTail value slice v u) (EP X pins Y Q) X.xe s
noncomputable def sJ (X:Cx) (id:String) (r:V->List V->Hp->VK->Prop):Prop:=
 ∀ (pins:List (Addr×Obj)) (s:Shared) (Y:St) (H:Hp) (x:V) (xs:List V) (v:Value) (us:List Value) (Q:VK),Inv X pins Y H s->RelV x v->Vals xs us->r x xs H Q->
  wpAny 'b' X.A (call (.builtin id) (v::us)) (EP X pins Y Q) X.xe s
section
variable {X:Cx} {a b:Expr} {ta tb:TE} {pos:Pos}
theorem cA.or{r r':R2}(h:cA X r)(h':cA X r'):cA X (fun x y H Q=>r x y H Q\/r' x y H Q):=by
 intro value slice pins s Y H x y v u Q I rx ry q hs
 rcases q with q | q
 .exact h value slice pins s Y H x y v u Q I rx ry q hs
 .exact h' value slice pins s Y H x y v u Q I rx ry q hs
theorem pe_ix{r:R2}(hr:cA X r)(ha:PE X a ta)(hb:PE X b tb)(hs:aj7 b):PE X (.Subscript a b pos) (bZ r ta tb):=by
 sleep 1;exact Subscript_ (binT ha hb I h fun v u s2 x y H2 I2 rx ry q=>hr a b pins s2 Y H2 x y v u Q I2 rx ry q (hs _ _))
noncomputable def rIxL (K:PySem.W.Frag):R2:=fun x y H Q=>∃ p xs i v,x=.ref p/\y=.int i/\D9 K H p xs/\G4 xs i=some v/\Q v H
noncomputable def rIxT (K:PySem.W.Frag):R2:=fun x y H Q=>∃ p xs i v,x=.ref p/\y=.int i/\C6 K H p xs/\G4 xs i=some v/\Q v H
noncomputable def rIxS:R2:=fun x y H Q=>∃ z i c,x=.str z/\y=.int i/\z.length<=sizeLine/\G4 z.cps.toList i=some c/\Q (.str ⟨#[c]⟩) H
theorem ix_list:cA X (rIxL X.K):=by
 intro value slice pins s Y H x y v u Q I rx ry h hs;obtain ⟨p,xs,i,z,rfl,rfl,hq,he,q⟩:=h
 cases rx
 obtain ⟨t,rfl⟩:=ry;obtain ⟨its,r,pl,hz⟩:=I.list hq;obtain ⟨j,h1,h2,h3,h4,h5⟩:=wW he;obtain ⟨w,ew,rw'⟩:=r.get h2;have hl:=r.length;have hn:=jW;have fin:EP X pins Y Q w s:=⟨z,H,I,rw',q⟩
 by_cases h0:0<=i
 .have hj:i.toNat=j:=by
   rw [seqIndex_of h0 h5] at h1;exact Option.some.inj h1
  exact item_listR pl.isList h0 'a' (by rw [hj];simpa using ew) fin hs
 .have hj:(i+(its.toArray.size:Int)).toNat=j:=by
   rw [seqIndex_neg 'a' h4] at h1;rw [M3,<- hl];exact Option.some.inj h1
  exact subscriptTail_builtinR (x:=w) pl.isList.typeIs slot_list_getitem.lookup
   (wpAny_getItem_list_neg (Q:=fun r s'=>r=w/\EP X pins Y Q r s') pl.isList 'a' (by rw [M3] <;> lia) 'a' (by rw [hj];simpa using ew) ⟨rfl,fin⟩) hs
theorem ix_tup:cA X (rIxT X.K):=by
 intro value slice pins s Y H x y v u Q I rx ry h hs;obtain ⟨p,xs,i,z,rfl,rfl,hq,he,q⟩:=h
 cases rx
 obtain ⟨t,rfl⟩:=ry;obtain ⟨its,r,pl,hz⟩:=I.tuple hq;obtain ⟨j,h1,h2,h3,h4,h5⟩:=wW he;obtain ⟨w,ew,rw'⟩:=r.get h2;have hl:=r.length;have hn:=jW;have fin:EP X pins Y Q w s:=⟨z,H,I,rw',q⟩
 exact subscriptTail_builtinR (x:=w) pl.typeIs slot_tuple_getitem.lookup
  (getItem_tuple (j:=j) (Q:=fun r s'=>r=w/\EP X pins Y Q r s') pl 'a' 'a' (by rw [M3,<- hl];exact h1) (by simpa using ew) ⟨rfl,fin⟩) hs
theorem aqA:cA X rIxS:=by
 intro value slice pins s Y H x y v u Q I rx ry h hs;obtain ⟨z,i,c,rfl,rfl,hz,he,q⟩:=h;obtain ⟨t,rfl⟩:=rx;obtain ⟨t',rfl⟩:=ry;obtain ⟨j,h1,h2,h3,h4,h5⟩:=wW he;have hl:z.cps.toList.length=z.length:=by simp [Str.length]
 rw [hl] at h1 h4 h5;have hn:=jW;exact tail_any (typeIs_str s z t) slot_str_getitem.lookup (getItem_str (c:=c) (by
  have e1:decide (i < -(2 ^ 63:Int))=false:=decide_eq_false 'a';have e2:decide (i≥2 ^ 63)=false:=decide_eq_false 'a';rw [e1,e2,Bool.or_false]) (by rw [h1];simpa using h2) ⟨.str ⟨#[c]⟩,H,I.tok _,⟨_,rfl⟩,q⟩) hs
noncomputable def jY (K:PySem.W.Frag):R2:=fun x y H Q=>rIxL K x y H Q\/rIxT K x y H Q\/rIxS x y H Q
theorem aqB:cA X (jY X.K):=ix_list.or (ix_tup.or aqA)
theorem aja(its:List Value)(n j:Nat)(u:Value):Obj.mapSeq (·.setIfInBounds j u) { cls:=.type "list",data:=.seq its.toArray n }={ cls:=.type "list",data:=.seq (its.set j u).toArray n }:=by
 simp [Obj.mapSeq]
theorem Inv.lst{p:Addr}(I:Inv X pins Y H s)(h:H p=some (.lst xs)) :
  ∃ (its:List Value) (n:Nat),Vals xs its/\s.heap.get? p=some { cls:=.type "list",data:=.seq its.toArray n }/\xs.length<=sizeLine:=by
 obtain ⟨z,its,n,r,e⟩:=I.hok p _ h;exact ⟨its,n,r,e,z⟩
theorem Inv.lstUpd{p:Addr}{n':Nat}{f:Obj->Obj}(I:Inv X pins Y H s)(h:H p=some (.lst xs))(ho:s.heap.get? p=some { cls:=.type "list",data:=.seq its.toArray n })(hf:f { cls:=.type "list",data:=.seq its.toArray n }={ cls:=.type "list",data:=.seq its'.toArray n' })(r:Vals ys its')(hz:ys.length<=sizeLine)(t:Nat) :
  Inv X pins Y (A0 H p (.lst ys)) { s with heap:=s.heap.update p f,toks:=t }:=by
 have e:(s.heap.update p f).get? p=some { cls:=.type "list",data:=.seq its'.toArray n' }:=by
  rw [Heap.get?_update_self f ho (by rw [hf] <;> rfl),hf]
 refine I.write (x:=p) (e:=p) (by rw [h];trivial) 'g' (fun b u hb q=>(Heap.get?_update_other _ _ (Ne.symm hb)).trans q) ⟨_,e⟩ ?_;exact ⟨hz,its',n',r,e⟩
noncomputable def rSetL:V->V->V->Hp->(Hp->Prop)->Prop:=fun o i v H Q=>∃ p xs k j,o=.ref p/\i=.int k/\H p=some (.lst xs)/\g6 xs.length k=some j/\Q (A0 H p (.lst (xs.set j v)))
theorem alP:PSet X rSetL:=by
 intro pins s Y H o i v ov iv u Q I ro ri rv h;obtain ⟨p,xs,k,j,rfl,rfl,hp,hj,q⟩:=h
 cases ro
 obtain ⟨t,rfl⟩:=ri;obtain ⟨its,n,r,ho,hz⟩:=I.lst hp;obtain ⟨h1,h2,h3,h4⟩:=aj6 hj;have hl:=r.length;have hn:=jW;have I':Inv X pins Y (A0 H p (.lst (xs.set j v))) { s with heap:=s.heap.update p (Obj.mapSeq (·.setIfInBounds j u)) }:=
  I.lstUpd hp ho (aja its n j u) (r.set rv j) (by rw [List.length_set];exact hz) s.toks
 by_cases h0:0<=k
 .have hk:k.toNat=j:=by
   rw [seqIndex_of h0 h4] at h1;exact Option.some.inj h1
  exact PySem.W.ki_setAt ho h0 'a' (by rw [M3,<- hl];exact h4) (by rw [hk];exact ⟨_,I',q⟩)
 .have hk:(k+(its.toArray.size:Int)).toNat=j:=by
   rw [seqIndex_neg 'a' h3] at h1;rw [M3,<- hl];exact Option.some.inj h1
  exact PySem.W.ki_setBack ho 'a' (by rw [M3,<- hl];exact h3) 'a' (by rw [hk];exact ⟨_,I',q⟩)
theorem agp(lo hi:Option Int)(n:Nat):(sliceBounds lo hi none n).1=((HT.sIx n 0 lo:Nat):Int)/\(sliceBounds lo hi none n).2.1=((HT.sIx n n hi:Nat):Int)/\(sliceBounds lo hi none n).2.2=1:=by
 refine ⟨?_,?_,rfl⟩
 .cases lo with
  | none=>simp [sliceBounds,HT.sIx]
  | some i=>
   simp only [sliceBounds,HT.sIx,Option.getD_none,show (1:Int) > 0 by decide,if_true]
   by_cases h:i<0
   .simp only [h,if_true] <;> lia
   .simp only [h,if_false] <;> lia
 .cases hi with
  | none=>simp [sliceBounds,HT.sIx]
  | some i=>
   simp only [sliceBounds,HT.sIx,Option.getD_none,show (1:Int) > 0 by decide,if_true]
   by_cases h:i<0
   .simp only [h,if_true] <;> lia
   .simp only [h,if_false] <;> lia
theorem afS(its:List Value)(lo hi:Option Int):slicePick its.toArray lo hi none=((its.drop (HT.sIx its.length 0 lo)).take (HT.sIx its.length its.length hi-HT.sIx its.length 0 lo)).toArray:=by
 obtain ⟨h1,h2,h3⟩:=agp lo hi its.toArray.size;unfold slicePick;rw [h1,h2,h3];simp only [sliceRange_one,pick_run,M3] <;> rfl
noncomputable def rSlL (K:PySem.W.Frag):V->Option Int->Option Int->Hp->VK->Prop:=fun x lo hi H Q=>∃ a xs,x=.ref a/\D9 K H a xs/\∀ p,H p=none->Q (.ref p) (A0 H p (.lst (cutV xs lo hi)))
theorem anN:jX X (rSlL X.K):=by
 intro pins s Y H x v vl vu lo hi sl Q I rx hs pl pu h;obtain ⟨a,xs,rfl,hx,q⟩:=h
 cases rx
 obtain ⟨its,r,ht,hz⟩:=I.list hx;have A9:=r.length;refine ⟨"list",_,slot_list_getitem.lookup,ht.isList.typeIs,?_⟩;refine wpAny_getItem_list_slice ht.isList hs pl pu .none 'c' ?_ (by rw [M3] <;> lia);rw [afS,<- A9];refine ⟨.ref s.heap.objs.size,_,I.laid (t':=s.toks) (o:=.lst (cutV xs lo hi)) (fun b ob q=>Heap.get?_push_of_some _ q) (B5 _) ?_,rfl,q _ (I.hok.fresh (B5 _))⟩;exact ⟨K6 (aeB xs lo hi) hz,_,0,(r.drop (HT.sIx xs.length 0 lo)).take (HT.sIx xs.length xs.length hi-HT.sIx xs.length 0 lo),Heap.get?_push_size _ rfl⟩
noncomputable def flatV:V->Bool
 | .non=>true
 | .bl _=>true
 | .int _=>true
 | .str _=>true
 | _=>false
noncomputable def dU:V->V->Bool
 | .non,.non=>true
 | .bl a,.bl b=>a==b
 | .bl a,.int b=>(if a then 1 else 0)==b
 | .int a,.bl b=>a==(if b then 1 else 0)
 | .int a,.int b=>a==b
 | .str a,.str b=>a==b
 | _,_=>false
theorem aqC(ry:RelV y u)(rx:RelV x v)(fy:flatV y=true)(fx:flatV x=true):SeqAt.EqAt A s u v (dU y x):=by
 cases y with
 | non=>
  cases ry
  cases x with
  | non=>cases rx;exact SeqAt.EqAt.same _
  | bl b=>cases rx;exact SeqAt.EqAt.none_bool b
  | int b=>obtain ⟨t,rfl⟩:=rx;exact SeqAt.EqAt.none_int b t
  | str b=>obtain ⟨t,rfl⟩:=rx;exact SeqAt.EqAt.none_str b t
  | _=>exact absurd (show false=true from fx) M4
 | bl a=>
  cases ry
  cases x with
  | non=>cases rx;exact SeqAt.EqAt.bool_none a
  | bl b=>cases rx;exact SeqAt.EqAt.bool_bool a b
  | int b=>obtain ⟨t,rfl⟩:=rx;exact SeqAt.EqAt.bool_int a b t
  | str b=>obtain ⟨t,rfl⟩:=rx;exact SeqAt.EqAt.bool_str a b t
  | _=>exact absurd (show false=true from fx) M4
 | int a=>
  obtain ⟨t',rfl⟩:=ry
  cases x with
  | non=>cases rx;exact SeqAt.EqAt.int_none a t'
  | bl b=>cases rx;exact SeqAt.EqAt.int_bool a t' b
  | int b=>obtain ⟨t,rfl⟩:=rx;exact SeqAt.EqAt.int_int a t' b t
  | str b=>obtain ⟨t,rfl⟩:=rx;exact SeqAt.EqAt.int_str a t' b t
  | _=>exact absurd (show false=true from fx) M4
 | str a=>
  obtain ⟨t',rfl⟩:=ry
  cases x with
  | non=>cases rx;exact SeqAt.EqAt.str_none a t'
  | bl b=>cases rx;exact SeqAt.EqAt.str_bool a t' b
  | int b=>obtain ⟨t,rfl⟩:=rx;exact SeqAt.EqAt.str_int a t' b t
  | str b=>obtain ⟨t,rfl⟩:=rx;exact SeqAt.EqAt.str_str a t' b t
  | _=>exact absurd (show false=true from fx) M4
 | _=>exact absurd (show false=true from fy) M4
noncomputable def c0 (x:V) (u:Value):Bool:=match u with
 | .none=>dU .non x
 | .bool b=>dU (.bl b) x
 | .int i _=>dU (.int i) x
 | .str z _=>dU (.str z) x
 | _=>false
theorem amZ(r:RelV y u)(f:flatV y=true):c0 x u=dU y x:=by
 cases y with
 | non=>cases r;rfl
 | bl b=>cases r;rfl
 | int i=>obtain ⟨t,rfl⟩:=r;rfl
 | str z=>obtain ⟨t,rfl⟩:=r;rfl
 | _=>exact absurd (show false=true from f) M4
theorem nH : ∀ {xs:List V} {us:List Value},Vals xs us->xs.all flatV=true->us.any (c0 x)=xs.any fun y=>dU y x
 | _,_,.nil,_=>rfl
 | y::xs,u::us,.cons r t,f=>by
  rw [List.all_cons,T5] at f;rw [bP,bP,amZ r f.1,nH t f.2]
theorem nI(rx:RelV x v)(fx:flatV x=true):∀ {xs:List V} {us:List Value},Vals xs us->xs.all flatV=true->∀ u∈us,SeqAt.EqAt A s u v (c0 x u)
 | _,_,.nil,_=>fun u hu=>by cases hu
 | y::xs,u::us,.cons r t,f=>fun u' hu=>by
  rw [List.all_cons,T5] at f
  rcases E7.mp hu with rfl | hu
  .rw [amZ r f.1];exact aqC r rx f.1 fx
  .exact nI rx fx t f.2 u' hu
noncomputable def dW (x:V) (xs:List V):Bool:=xs.any fun y=>dU y x
noncomputable def wX (K:PySem.W.Frag) (neg:Bool):R2:=fun x y H Q=>∃ p xs,y=.ref p/\(D9 K H p xs\/C6 K H p xs)/\flatV x=true/\xs.all flatV=true/\Q (.bl (if neg then !dW x xs else dW x xs)) H
theorem aj8:L0 X (compareOp .In) (wX X.K false):=by
 sleep 0;obtain ⟨p,xs,rfl,hq,fx,fs,q⟩:=h
 cases ry
 rcases hq with hq | hq
 .obtain ⟨its,r,pl,hz⟩:=I.list hq;refine SeqAt.in_listAt (c0 x) pl.isList (fun w hw=>nI rx fx r fs w (by simpa using hw)) ⟨.bl _,H,I,rfl,?_⟩;rw [show its.toArray.any (c0 x)=its.any (c0 x) by simp,nH r fs];exact q
 .obtain ⟨its,r,pl,hz⟩:=I.tuple hq;refine SeqAt.in_tupleAt (c0 x) pl (fun w hw=>nI rx fx r fs w (by simpa using hw)) ⟨.bl _,H,I,rfl,?_⟩;rw [show its.toArray.any (c0 x)=its.any (c0 x) by simp,nH r fs];exact q
theorem agq:L0 X (compareOp .NotIn) (wX X.K true):=by
 sleep 0;obtain ⟨p,xs,rfl,hq,fx,fs,q⟩:=h
 cases ry
 rcases hq with hq | hq
 .obtain ⟨its,r,pl,hz⟩:=I.list hq;refine SeqAt.notIn_listAt (c0 x) pl.isList (fun w hw=>nI rx fx r fs w (by simpa using hw)) ⟨.bl _,H,I,rfl,?_⟩;rw [show its.toArray.any (c0 x)=its.any (c0 x) by simp,nH r fs];exact q
 .obtain ⟨its,r,pl,hz⟩:=I.tuple hq;refine SeqAt.notIn_tupleAt (c0 x) pl (fun w hw=>nI rx fx r fs w (by simpa using hw)) ⟨.bl _,H,I,rfl,?_⟩;rw [show its.toArray.any (c0 x)=its.any (c0 x) by simp,nH r fs];exact q
theorem agr:L0 X (compareOp .NotIn) (fun x y H Q=>∃ i j,x=.str i/\y=.str j/\Q (.bl (!(!(Builtin.Str.occurrences j i 0 j.length 1).isEmpty))) H):=by
 sleep 0;obtain ⟨i,j,rfl,rfl,q⟩:=h;obtain ⟨t,rfl⟩:=rx;obtain ⟨t',rfl⟩:=ry;exact notIn_str ⟨.bl _,H,I,rfl,q⟩
theorem ags:CallR X (.type "list") (fun xs H Q=>∃ p ys,xs=[.ref p]/\(D9 X.K H p ys\/C6 X.K H p ys)/\∀ l,H l=none->Q (.ref l) (A0 H l (.lst ys))):=by
 intro pins s Y H xs us Q I r h;obtain ⟨p,ys,rfl,hq,q⟩:=h;obtain ⟨u,rfl,rx⟩:=vals1 r
 cases rx
 have fin:∀ (its:List Value),Vals ys its->ys.length<=sizeLine->∀ (h':Heap) (c':Nat),(∀ b o',s.heap.get? b=some o'->h'.get? b=some o')->
   h'.get? s.heap.objs.size=some { cls:=.type "list",dict:=none,data:=.seq its.toArray c',slots:=#[] }->EP X pins Y Q (.ref s.heap.objs.size) { s with heap:=h' }:=fun its r' hz h' c' kp e=>
  ⟨.ref s.heap.objs.size,_,I.laid (t':=s.toks) kp (B5 _) (show ObjOk X.prog X.w _ h' _ (.lst ys) from ⟨hz,its,c',r',e⟩),rfl,q _ (I.hok.fresh (B5 _))⟩
 rcases hq with hq | hq
 .obtain ⟨its,r',pl,hz⟩:=I.list hq;have A9:=r'.length;obtain ⟨o,ho,hc,n,hd⟩:=pl.isList;exact call_list_seq p 'g' ho hc hd (fun h' c' kp e=>fin its r' hz h' c' kp e) (by simp only [M3] <;> lia)
 .obtain ⟨its,r',pl,hz⟩:=I.tuple hq;have A9:=r'.length;obtain ⟨o,ho,hc,n,hd⟩:=pl;exact call_list_seq p (.inr rfl) ho hc hd (fun h' c' kp e=>fin its r' hz h' c' kp e) (by simp only [M3] <;> lia)
theorem afT:CallR X (.type "tuple") (fun xs H Q=>∃ p ys,xs=[.ref p]/\((D9 X.K H p ys/\∀ l,H l=none->Q (.ref l) (A0 H l (.tup ys)))\/(C6 X.K H p ys/\Q (.ref p) H))):=by
 intro pins s Y H xs us Q I r h;obtain ⟨p,ys,rfl,h⟩:=h;obtain ⟨u,rfl,rx⟩:=vals1 r
 cases rx
 rcases h with ⟨hq,q⟩ | ⟨hq,q⟩
 .obtain ⟨its,r',pl,hz⟩:=I.list hq;have A9:=r'.length;refine call_tuple_list pl.isList (fun h' kp=>?_) (by simp only [M3] <;> lia);have I1:Inv X pins Y H { s with heap:=h' }:=I.kept (t':=s.toks) kp;have I2:Inv X pins Y (A0 H h'.objs.size (.tup ys)) { s with heap:=h'.push { cls:=.type "tuple",data:=.seq its.toArray } }:=
   I1.laid (t':=s.toks) (fun b o e=>Heap.get?_push_of_some _ e) (B5 _) (show ObjOk X.prog X.w _ _ _ (.tup ys) from ⟨hz,its,r',IsTup.new _ _⟩)
  exact ⟨.ref h'.objs.size,_,I2,rfl,q _ (I1.hok.fresh (B5 _))⟩
 .obtain ⟨its,r',pl,hz⟩:=I.tuple hq;exact call_tuple_same pl ⟨.ref p,H,I,rfl,q⟩
noncomputable def cC (K:PySem.W.Frag) (T:String) (x:V) (H:Hp):Prop:=match x with
 | .str _=>T="str"
 | .int _=>T="int"
 | .ref p=>(T="list"/\∃ xs,D9 K H p xs)\/(T="tuple"/\∃ o,K.lookup p=some o/\o.cls=.type "tuple"/\o.dict=none)\/
   (T="dict"/\((∃ kvs,H p=some (.dK kvs))\/∃ kvs,H p=some (.dT kvs)))\/(T="set"/\∃ S n,H p=some (.set S n))
 | _=>False
theorem am0{T:String}(I:Inv X pins Y H s)(r:RelV x v)(ty:cC X.K T x H) :
  s.TypeIs v T/\∀ a,v=.ref a->∃ ob,s.heap.get? a=some ob/\ob.dict=none:=by
 cases x with
 | str z=>
  obtain ⟨t,rfl⟩:=r
  cases (show T="str" from ty)
  exact ⟨typeIs_str s z t,fun _ e=>nomatch e⟩
 | int i=>
  obtain ⟨t,rfl⟩:=r
  cases (show T="int" from ty)
  exact ⟨typeIs_int s i t,fun _ e=>nomatch e⟩
 | ref p=>
  cases r
  rcases ty with ⟨rfl,xs,hq⟩ | ⟨rfl,o,hk,hc,hd⟩ | ⟨rfl,hk⟩ | ⟨rfl,S,n,hk⟩
  .obtain ⟨its,_,pl,_⟩:=I.list hq;refine ⟨pl.isList.typeIs,fun a e=>?_⟩;cases e;obtain ⟨o,n,e,c,hd,_⟩:=pl;exact ⟨o,e,hd⟩
  .refine ⟨⟨o,I.kIn p o hk,hc⟩,fun a e=>?_⟩;cases e;exact ⟨o,I.kIn _ o hk,hd⟩
  .have z:∃ o,s.heap.get? p=some o/\o.ExactDict:=by
    rcases hk with ⟨kvs,hk⟩ | ⟨kvs,hk⟩
    .obtain ⟨_,_,_,_,o,_,_,e,ex,_⟩:=I.hok p _ hk;exact ⟨o,e,ex⟩
    .obtain ⟨_,_,_,_,o,_,_,e,ex,_⟩:=I.hok p _ hk;exact ⟨o,e,ex⟩
   obtain ⟨o,e,ex⟩:=z;refine ⟨⟨o,e,ex.1⟩,fun a e2=>?_⟩;cases e2;exact ⟨o,e,ex.2.1⟩
  .obtain ⟨o,_,_,_,e,ex,_⟩:=I.hok p _ hk;refine ⟨⟨o,e,ex.1⟩,fun a e2=>?_⟩;cases e2;exact ⟨o,e,ex.2.1⟩
 | _=>exact False.elim ty
noncomputable def tBM0 (K:PySem.W.Frag) (T:String) (r:V->List V->Hp->VK->Prop) (to:TE):TE:=fun Y H Q=>to Y H fun x H1=>cC K T x H1/\r x [] H1 Q
noncomputable def sK (K:PySem.W.Frag) (T:String) (r:V->List V->Hp->VK->Prop) (to:TE) (t:TA):TE:=fun Y H Q=>to Y H fun x H1=>cC K T x H1/\t Y H1 fun xs H2=>r x xs H2 Q
variable {o e:Expr} {es:List Expr} {to:TE} {t:TA} {name:Str} {apos cpos:Pos} {T id:String} {r:V->List V->Hp->VK->Prop}
theorem aqD(pa:PlainAttrs T)(slot:Slot T name id)(X6:typeOf (.builtin id)=pure (.type "method_descriptor"))(hm:sJ X id r)(ho:PE X o to)(G7:attributeBase o name X.env (eval o X.env)=eval o X.env:=by rfl)(G8:(apos.endLine==cpos.line)=true:=by rfl):PE X (.Call (.Attribute o name apos) [] [] cpos) (tBM0 X.K T r to):=by
 sleep 1;refine wpAny_Call_method0_late G7 G8 (B3 (ho pins s Y H _ I h) fun v s1 ⟨x,H1,I1,r1,ty,q1⟩=>?_);obtain ⟨h1,h2⟩:=am0 I1 r1 ty;exact ⟨T,id,pa,slot,X6,h1,h2,Calls.callWith_builtin rfl (PySem.evalArgs_none (hm pins s1 Y H1 x [] v [] Q I1 r1 .nil q1))⟩
theorem pe_bm(pa:PlainAttrs T)(slot:Slot T name id)(X6:typeOf (.builtin id)=pure (.type "method_descriptor"))(hm:sJ X id r)(ho:PE X o to)(ha:PA X (e::es) t)(G7:attributeBase o name X.env (eval o X.env)=eval o X.env:=by rfl)(hfew:((backTo cpos (starEach (e::es) X.env)).all (fun x=>!x.1)&&(backToKw cpos (keywordEach [] X.env)).all (fun x=>x.1.isSome)
   && decide ((e::es).length+([]:List Keyword).length+(if ([]:List Keyword).isEmpty then 0 else 1)<30))=true:=by rfl)(G8:(apos.endLine==cpos.line)=true:=by rfl)(hs:starEach (e::es) X.env=(false,eval e X.env)::starEach es X.env:=by rfl)(hplain:(backTo cpos (starEach es X.env)).any (·.1)=false:=by rfl) :
  PE X (.Call (.Attribute o name apos) (e::es) [] cpos) (sK X.K T r to t):=by
 sleep 1;refine wpAny_Call_method_late G7 hfew G8 rfl (B3 (ho pins s Y H _ I h) fun v s1 ⟨x,H1,I1,r1,ty,q1⟩=>?_);obtain ⟨h1,h2⟩:=am0 I1 r1 ty;refine ⟨T,id,pa,slot,X6,h1,h2,?_⟩;have hA:=ha cpos pins s1 Y H1 _ I1 q1;rw [hs] at hA ⊢
 refine Calls.callWith_builtin (by show (false || (backTo cpos (starEach es X.env)).any (·.1))=false;rw [hplain] <;> rfl) (Calls.evalArgs_plain ?_);exact B3 hA fun us s2 ⟨vs,H2,I2,r2,q2⟩=>hm pins s2 Y H2 x vs v us Q I2 r1 r2 q2
end
noncomputable def nJ (X:Cx) (id:String) (r:V->List V->Hp->VK->Prop):Prop:=
 ∀ (pins:List (Addr×Obj)) (s:Shared) (Y:St) (H:Hp) (x:V) (xs:List V) (v:Value) (us:List Value) (Q:VK),Inv X pins Y H s->RelV x v->Vals xs us->r x xs H Q->
  wpAny 'b' X.A (call (.builtin id) (v::us)) (EP X pins Y Q) X.xe s
theorem Vals.one:∀ {x:V} {us:List Value},Vals [x] us->∃ u,us=[u]/\RelV x u
 | _,_,.cons r .nil=>⟨_,rfl,r⟩
theorem Vals.zero:∀ {us:List Value},Vals [] us->us=[]
 | _,.nil=>rfl
theorem Vals.eraseIdx:∀ {xs:List V} {us:List Value} (i:Nat),Vals xs us->Vals (xs.eraseIdx i) (us.eraseIdx i)
 | _,_,_,.nil=>.nil
 | _,_,0,.cons _ t=>t
 | _,_,i+1,.cons r t=>.cons r (Vals.eraseIdx i t)
theorem Vals.reverse(h:Vals xs us):Vals xs.reverse us.reverse:=by
 induction h with
 | nil=>exact .nil
 | cons r t ih=>rw [List.reverse_cons,List.reverse_cons];exact Vals.append ih (.cons r .nil)
theorem Vals.rep(h:Vals xs us):∀ k:Nat,Vals (Y7 k xs).flatten (Y7 k us).flatten
 | 0=>.nil
 | k+1=>by
  rw [jN,jN,fU,fU];exact Vals.append h (Vals.rep h k)
theorem agt(its:List Value):∀ (k:Nat) (acc:List Value),
  List.foldl (fun x1 x2=>x1++x2) acc.toArray (Y7 k its.toArray)=(acc++(Y7 k its).flatten).toArray
 | 0,acc=>by simp
 | k+1,acc=>by
  have e:acc.toArray++its.toArray=(acc++its).toArray:=by simp
  have e2:(acc++its)++(Y7 k its).flatten=acc++(Y7 (k+1) its).flatten:=by
   rw [jN,fU,R3]
  rw [<- e2,<- agt its k (acc++its),<- e,jN,List.foldl_cons]
section
variable {X:Cx} {pins:List (Addr×Obj)} {Y:St} {H:Hp} {s:Shared} {l b:Addr} {xs ys zs:List V}
theorem Inv.lset{f:Array Value->Array Value}(I:Inv X pins Y H s)(hH:H l=some (.lst xs))(e:s.heap.get? l=some { cls:=.type "list",data:=.seq its.toArray n })(hf:f its.toArray=its'.toArray)(hv:Vals ys its')(hz:ys.length<=sizeLine) :
  Inv X pins Y (A0 H l (.lst ys)) { s with heap:=s.heap.update l (Obj.mapSeq f),toks:=t' }:=by
 have q:=PySem.IsL.update e f;rw [hf] at q;refine I.write (x:=l) (e:=l) (by rw [hH];exact trivial) 'g' (fun b' u hb hu=>(Heap.get?_update_other s.heap (Obj.mapSeq f) (Ne.symm hb)).trans hu) ⟨_,q⟩ ?_;exact ⟨hz,its',_,hv,q⟩
theorem Inv.lnew(I:Inv X pins Y H s)(hv:Vals ys its)(hz:ys.length<=sizeLine) :
  Inv X pins Y (A0 H s.heap.objs.size (.lst ys)) { s with heap:=s.heap.push { cls:=.type "list",data:=.seq its.toArray },toks:=t' }:=
 I.laid (fun _ _ q=>Heap.get?_push_of_some _ q) (B5 _) ⟨hz,its,0,hv,Heap.get?_push_size _ rfl⟩
theorem Inv.fresh(I:Inv X pins Y H s):H s.heap.objs.size=none:=I.hok.fresh (B5 _)
theorem Inv.lstM(I:Inv X pins Y H s)(hH:H l=some (.lst xs)):xs.length<=sizeLine/\∃ (its:List Value) (n:Nat),Vals xs its/\xs.length=its.length/\s.heap.get? l=some { cls:=.type "list",data:=.seq its.toArray n }:=by
 obtain ⟨z,its,n,r,e⟩:=I.hok l _ hH;exact ⟨z,its,n,r,r.length,e⟩
theorem aik(h:n<=sizeLine):Builtin.List.listTooLong n=false:=by
 unfold Builtin.List.listTooLong;exact decide_eq_false 'a'
end
section
variable {X:Cx}
noncomputable def nK:V->List V->Hp->VK->Prop:=fun x vs H Q=>∃ l xs y,x=.ref l/\vs=[y]/\H l=some (.lst xs)/\xs.length<sizeLine/\Q .non (A0 H l (.lst (xs++[y])))
theorem agu:nJ X "list.append" nK:=by
 intro pins s Y H x vs v us Q I rx rv h;obtain ⟨l,xs,y,rfl,rfl,hH,hz,q⟩:=h
 cases rx
 obtain ⟨u,rfl,ru⟩:=rv.one;obtain ⟨z,its,n,r,hl,e⟩:=I.lstM hH;refine call_meets F.slot_list_append ⟨_,e,rfl⟩ F.entry_list_append (F.args_list_append_2 _ _) (PySem.list_append l its.toArray n u (by rw [M3];lia)) ⟨e,?_⟩;refine ⟨.non,_,I.lset (its':=its++[u]) hH e 'c' (r.append (.cons ru .nil)) ?_,rfl,q⟩;rw [C4,N3];lia
noncomputable def ail:V->List V->Hp->VK->Prop:=fun x vs H Q=>∃ l xs,x=.ref l/\vs=[]/\H l=some (.lst xs)/\Q .non (A0 H l (.lst xs.reverse))
theorem ajb:nJ X "list.reverse" ail:=by
 intro pins s Y H x vs v us Q I rx rv h;obtain ⟨l,xs,rfl,rfl,hH,q⟩:=h
 cases rx
 have hus:=rv.zero;subst hus;obtain ⟨z,its,n,r,hl,e⟩:=I.lstM hH;refine call_meets F.slot_list_reverse ⟨_,e,rfl⟩ F.entry_list_reverse (F.args_list_reverse_1 _) (AutoSeq1.list_reverse_list_0 l its.toArray n (by rw [M3];lia)) ⟨e,?_⟩;refine ⟨.non,_,I.lset (its':=its.reverse) hH e 'c' r.reverse ?_,rfl,q⟩;rw [List.length_reverse];lia
noncomputable def wY:V->List V->Hp->VK->Prop:=fun x vs H Q=>∃ l xs,x=.ref l/\vs=[]/\H l=some (.lst xs)/\Q .non (A0 H l (.lst []))
theorem alQ:nJ X "list.clear" wY:=by
 intro pins s Y H x vs v us Q I rx rv h;obtain ⟨l,xs,rfl,rfl,hH,q⟩:=h
 cases rx
 have hus:=rv.zero;subst hus;obtain ⟨z,its,n,r,hl,e⟩:=I.lstM hH;refine call_meets F.slot_list_clear ⟨_,e,rfl⟩ F.entry_list_clear (F.args_list_clear_1 _) (AutoSeq1.list_clear_list_0 l its.toArray n (by rw [M3];lia)) ⟨e,?_⟩;exact ⟨.non,_,I.lset (its':=[]) (ys:=[]) hH e rfl .nil (F9 _),rfl,q⟩
noncomputable def rCat:R2:=fun x y H Q=>∃ l b xs zs,x=.ref l/\y=.ref b/\H l=some (.lst xs)/\H b=some (.lst zs)/\xs.length+zs.length<=sizeLine/\∀ p,H p=none->Q (.ref p) (A0 H p (.lst (xs++zs)))
theorem aqE:L0 X (binaryOp .Add) rCat:=by
 sleep 0;obtain ⟨l,b,xs,zs,rfl,rfl,hH,hB,hz,q⟩:=h
 cases rx
 cases ry
 obtain ⟨z,its,n,r,hl,e⟩:=I.lstM hH;obtain ⟨z2,its2,n2,r2,R0,e2⟩:=I.lstM hB;refine PySem.P.add_list e e2 ?_ (by rw [M3,M3];lia);have ea:its.toArray++its2.toArray=(its++its2).toArray:=by simp
 rw [ea];exact ⟨.ref _,_,I.lnew (t':=s.toks) (r.append r2) (by rw [C4];lia),rfl,q _ I.fresh⟩
noncomputable def rRep:R2:=fun x y H Q=>∃ l k xs,x=.ref l/\y=.int k/\H l=some (.lst xs)/\-(2 ^ 63)<=k/\k<2 ^ 63/\xs.length*k.toNat<=sizeLine/\
 ∀ p,H p=none->Q (.ref p) (A0 H p (.lst (Y7 k.toNat xs).flatten))
theorem anO{α:Type}(xs:List α)(k:Nat):(Y7 k xs).flatten.length=k*xs.length:=by
 induction k with
 | zero=>simp
 | succ k ih=>rw [jN,fU,C4,ih,Nat.succ_mul,Nat.add_comm]
theorem aqF:L0 X (binaryOp .Mult) rRep:=by
 sleep 0;obtain ⟨l,k,xs,rfl,rfl,hH,h1,h2,hz,q⟩:=h
 cases rx
 obtain ⟨t,rfl⟩:=ry;obtain ⟨z,its,n,r,hl,e⟩:=I.lstM hH;have A9:its.toArray.size*k.toNat<=sizeLine:=by rw [M3,<- hl];exact hz
 have hcap:¬ its.toArray.size*k.toNat > (2 ^ 63-1) / 8:=by
  have:(sizeLine:Nat)<=(2 ^ 63-1) / 8:=by decide
  lia
 have hfit:¬ (!Builtin.List.listFitsIndex k)=true:=by
  rw [fitsIndex_both h1 h2];exact M4
 have y0:¬ Builtin.List.listTooLong (its.toArray.size*k.toNat)=true:=by
  rw [aik A9];exact M4
 have Q3:List.foldl (fun x1 x2=>x1++x2) #[] (Y7 (if its.toArray.isEmpty=true then 0 else k.toNat) its.toArray)=(Y7 k.toNat its).flatten.toArray:=by
  have f0:∀ m:Nat,List.foldl (fun x1 x2=>x1++x2) #[] (Y7 m its.toArray)=(Y7 m its).flatten.toArray:=fun m=>by
   have:=agt its m []
   rw [List.nil_append] at this;exact this
  rw [f0]
  cases its with
  | nil=>simp
  | cons a r'=>rw [if_neg 'c']
 refine wpAny_binaryOp_repeat_ref (T:="list") (U:="int") 'h' ⟨_,e,rfl⟩ (fun s'=>typeIs_int s' k t) noFill_list_mul F.fills_int_mul F.slot_int_rmul repeat_list F.slot_int_index.lookup
  (call_meets F.slot_int_rmul (typeIs_int s k t) F.entry_int_rmul (F.args_int_rmul_2 _ _) (int___rmul___int_list k t l its.toArray n)
   ⟨e,rfl,⟨_,e,rfl⟩,call_meets F.slot_list_mul ⟨_,e,rfl⟩ F.entry_list_mul (F.args_list_mul_2 _ _) (AutoListH.list___mul___list_int_3 l its.toArray n k t hfit hcap y0) ⟨e,?_⟩⟩)
 rw [Q3];exact ⟨.ref _,_,I.lnew (t':=s.toks) (r.rep k.toNat) (by rw [anO,Nat.mul_comm];exact hz),rfl,q _ I.fresh⟩
end
end L2
namespace Att
open PySem PySem.W PySem.Calls PyProof.Rows
theorem aeE{P:Params} : ∀ (ns:List Int) (vs:List Value),WellAll P h vs (ns.map WData.int)->IntsAre vs ns:=by
 intro ns
 induction ns with
 | nil=>
  intro vs w;rw [List.map_nil] at w
  cases w
  exact .nil
 | cons n ns ih=>
  intro vs w;rw [K5] at w
  cases w with
  | cons a b=>
   cases a
   exact .cons _ _ (ih _ b)
theorem aka{l:OpenLaw}(hn:l.most=some n){P:Params}{args:List WData}{vals:List Value}(cR:l.row.toRowW.claim.pre args=true)(hwl:WellAll P h vals args) :
  ∃ a vs ns,vals=[Value.ref a]/\args=[WData.list (ns.map WData.int)]/\h.get? a=some { cls:=.type "list",data:=.seq vs.toArray }/\IntsAre vs ns/\ns.length<=n:=by
 have hsh:WShape.hasAll [] args [.list .int]=true:=(pre_splitW cR).1;have hc:l.pre.holds [] { args:=args }=true:=(pre_splitW cR).2;obtain ⟨d,r,rfl,h1,h2⟩:=hasAllW_cons hsh;obtain rfl:=hasAllW_nil h2;obtain ⟨xs,rfl,h3⟩:=hasW_list h1;obtain ⟨ns,rfl⟩:=items_int h3;have A9:ns.length<=n:=by
  unfold OpenLaw.pre at hc;have h4:(WTm.not (.lt (.lit (.int (n:Int))) (.len (.arg 0)))).holds [] { args:=[.list (ns.map .int)] }=true:=by
   have h4:=(holds_andW hc).1;rw [hn] at h4;exact h4
  have h5:=condW_of h4 (w_not (w_lt w_lit (w_len_list (w_arg rfl))));rw [A6] at h5;refine Nat.le_of_not_lt fun q=>?_
  have q':(n:Int)<((ns.length:Nat):Int):=by lia
  first
   | (rw [decide_eq_true q'] at h5;exact absurd h5 'h')
   | (simp at h5;lia)
 cases hwl with
 | cons w1 w2=>
  cases w2
  cases w1 with
  | list ho cS=>exact ⟨_,_,ns,rfl,rfl,ho,aeE ns _ cS,A9⟩
theorem akb(l:OpenLaw)(args:List WData):l.row.toRowW.claim.post args (.bool true) args=true:=
 postW_of (r:=l.row.toRowW) (X:=(true==true))
  (show WShape.has [] (.bool true) .bool=true by first | rfl | decide | simp [WShape.has,WShape.arms,WShape.armsAll])
  (show (WTm.eq .res (.lit (.bool true))).value [] { args:=args,res:=some (.bool true),after:=args }=some (.bool (true==true)) from w_eq_bool (w_res rfl) w_lit) rfl
theorem attach_call{l:OpenLaw}{q:Program}{XP:(Str->Option Value)->Heap->Prop}{YP:World->Heap->Prop}{d:DefRec}(hn:l.most=some n)(bF:d.params.defaults=[])(call:∀ (w:World) (s₀ zu:Shared) (mg mb:Str->Option Value) (fa:Addr) (o:Obj) (pm cd doc:Value) (a:Addr) (vs:List Value) (ns:List Int),
   Ground q loose [] XP w s₀ mg mb zu.heap->YP w zu.heap->
   zu.heap.get? fa=some o->o.data=.func (docDef d.name d.params d.body d.scope pm cd doc)->zu.heap.CodeRec cd d.name->mg d.name=some (.ref fa)->
   zu.heap.get? a=some { cls:=.type "list",data:=.seq vs.toArray }->IntsAre vs ns->ns.length<=n->zu.gens=#[]->
   codeAny (model l.prog w) callerA (.call (.ref fa) ⟨[.ref a],[]⟩) (fun r s'=>r=.ok (.ret (.bool true))/\OldK zu.heap s'.heap/\s'.os=zu.os/\AllBare s'.gens) zu) :
  WalkO q loose XP YP l.row.toRowW d [] (fun f vs=>PySem.call f vs):=by
 intro w s₀ zu mg mb G zy fa o pm cd doc dV kV ho hd U1 hD pV hg args vals as cR hlay hrd hwl hlo;obtain rfl:dV=.none:=Dflts.none hD bF;obtain rfl:kV=.none:=Dflts.noKw hD;obtain ⟨a,vs,ns,rfl,rfl,iL,y3,A9⟩:=aka hn cR hwl;refine enter_call (codeAny_mono (call w s₀ zu mg mb fa o pm cd doc a vs ns G zy ho (fd_plain hd) U1 pV iL y3 A9 hg) fun r s' hq=>?_);obtain ⟨rfl,h2,h3,h4⟩:=hq;exact ⟨.inl ⟨.bool true,.bool true,[],rfl,fun _=>rfl,.bool true,akb l _,fun _=>⟨List.Pairwise.nil,fun _ hm=>(nomatch hm)⟩⟩,h2,h3,h4⟩
end Att
namespace L2
open PySem PySem.Spec PyProof.Rows
theorem agv:∀ {vs:List Value} {ns:List Int},IntsAre vs ns->Vals (ns.map V.int) vs
 | _,_,.nil=>.nil
 | _,_,.cons n t h=>.cons ⟨t,rfl⟩ (agv h)
noncomputable def Only (H:Hp):Prop:=∀ b,H b=none\/∃ o xs,H b=some (.frz o (.lst xs))
theorem alR{P:Program}{w:World}{mb:Str->Option Value}{CX:j7}{x:Str}{zu:Shared}{vs:List Value}(KX:K.In zu.heap)(eW:zu.heap.Ns mainGlobals mg)(hb:zu.heap.Ns builtinsNs mb)(hbb:∀ x:Str,x≠"__name__"->mb x=bootBuiltins x)(hlim:zu.heap.NoLimit)(hg:zu.gens=#[])(ha:zu.heap.get? a=some { cls:=.type "list",data:=.seq vs.toArray })(hi:IntsAre vs ns)(hl:ns.length<=sizeLine)(hr:Room k callerA)(F:∀ base:Heap,K.In base->base.Ns mainGlobals mg->FnOk P w K mg base CX k fa fd [x] sp)(pW:∀ (s:Shared) (u:Value),BindsTo s fd ⟨[u],[]⟩ [(x,u)])(eV:∀ H:Hp,Only H->D9 K H a (ns.map V.int)->sp [.ref a] H (fun v _=>v=.bl true) fun _ _ _=>False)(hCX:∀ H e s',CX [] H zu (fun _ _ _=>False) e s'->False) :
  codeAny (model P w) callerA (.call (.ref fa) ⟨[.ref a],[]⟩) (fun r s'=>r=.ok (.ret (.bool true))/\OldK zu.heap s'.heap/\s'.os=zu.os/\AllBare s'.gens) zu:=by
 have rv:=agv hi;have lenV:=hi.length;have core:∀ H:Hp,Only H->D9 K H a (ns.map V.int)->O1 P w H zu.heap->(∀ b,H b≠none->b=a)->(H a≠none->K.lookup a=none)->
   codeAny (model P w) callerA (.call (.ref fa) ⟨[.ref a],[]⟩) (fun r s'=>r=.ok (.ret (.bool true))/\OldK zu.heap s'.heap/\s'.os=zu.os/\AllBare s'.gens) zu:=by
  intro H hO hS hok hA hK;have base_of:∀ {b:Addr} {o:Obj},zu.heap.get? b=some o->H b=none->(hidT zu.heap H).get? b=some o:=fun e n=>alz e n
  have noA:∀ {b:Addr} {o:Obj} {es:Array DictEntry} {ep:Nat},zu.heap.get? b=some o->o.data=.dict es ep->H b=none:=fun {b o es ep} e d=>by
   cases q:H b with
   | none=>rfl
   | some u=>
    have e':b=a:=hA b (by rw [q];simp);subst e';rw [ha] at e;cases e;have d':Data.seq vs.toArray _=Data.dict es ep:=d
    cases d'
  have nsK:∀ {b:Addr} {m:Str->Option Value},zu.heap.Ns b m->(hidT zu.heap H).Ns b m:=fun {b m} ⟨o,es,ep,e,d,r⟩=>⟨o,es,ep,base_of e (noA e d),d,r⟩
  have hKb:K.In (hidT zu.heap H):=fun b o e=>base_of (KX b o e) (by
   cases q:H b with
   | none=>rfl
   | some u=>
    have e':b=a:=hA b (by rw [q];simp);subst e';rw [hK (by rw [q];simp)] at e;cases e)
  have hM:Mod K mg (hidT zu.heap H):=⟨hKb,nsK eW,⟨mb,nsK hb,hbb⟩,let ⟨mc,h1,h2⟩:=hlim;⟨mc,nsK h1,h2⟩⟩
  have e0:Env0 P w K mg (hidT zu.heap H) callerA [] zu H:=⟨rfl,hM,fun b o e=>ano e,Nat.le_of_eq (ajK _ _),trivial,fun b hb=>absurd (show b∈([]:List Addr) from hb) 'c',hok,.of_eq hg⟩
  refine codeAny_mono ((F _ hKb (nsK eW)).run callerA [] zu H ⟨[.ref a],[]⟩ [.ref a] [.ref a] _ _ hr e0 (pW zu (.ref a)) (.cons rfl .nil) (eV H hO hS)) fun r s' h=>?_
  cases r with
  | error e=>exact (hCX H e s' h).elim
  | ok fl=>
   cases fl with
   | next=>exact False.elim h
   | brk=>exact False.elim h
   | cont=>exact False.elim h
   | ret u=>
    obtain ⟨v,H',os,bare,un,hok',r',q⟩:=h;have q':v=.bl true:=q;subst q';obtain rfl:u=Value.bool true:=r';refine ⟨rfl,OldK.of_keep fun b o e=>?_,os,bare⟩
    cases q:H b with
    | none=>exact un.keep b o e q (by intro z;exact absurd (show b∈([]:List Addr) from z) 'c') 'c'
    | some u=>
     rcases hO b with z | ⟨ob,xs,z⟩
     .rw [q] at z;cases z
     .have z2:=un.frzs b ob _ z;obtain ⟨e1,_⟩:=hok b _ z;obtain ⟨e2,_⟩:=hok' b _ z2;rw [e] at e1;cases e1;exact e2
 cases hk:K.lookup a with
 | some o=>
  have e:=KX a o hk;rw [ha] at e;cases e;refine core (fun _=>none) (fun _=>.inl rfl) (.inr ⟨_,vs.toArray,_,hk,rfl,rfl,rfl,by rw [M3,lenV];exact hl,by simpa using rv⟩) (fun b u z=>by have z':(none:Option HO)=some u:=z;cases z') (fun b z=>absurd rfl z) fun z=>absurd rfl z
 | none=>
  refine core (fun b=>if b=a then some (.frz { cls:=.type "list",data:=.seq vs.toArray } (.lst (ns.map V.int))) else none) (fun b=>?_) (.inl (.inr ⟨{ cls:=.type "list",data:=.seq vs.toArray },if_pos rfl⟩)) (fun b u z=>?_) (fun b z=>?_) fun _=>hk
  .by_cases hb:b=a
   .exact .inr ⟨_,_,if_pos hb⟩
   .exact .inl (if_neg hb)
  .by_cases hb:b=a
   .have z':=(if_pos hb).symm.trans z
    cases z'
    subst hb;exact ⟨ha,by rw [A6];exact hl,vs,_,rv,ha⟩
   .have z':=(if_neg hb).symm.trans z
    cases z'
  .by_cases hb:b=a
   .exact hb
   .exact absurd (if_neg hb) z
theorem walk_of{l:PySem.W.OpenLaw}{q:Program}{XP:(Str->Option Value)->Heap->Prop}{YP:World->Heap->Prop}{d:DefRec}{K:Params->PySem.W.Frag}{CX:World->j7}{sp:World->Sp}{x:Str}(hn:l.most=some n)(lP:n<=sizeLine)(bF:d.params.defaults=[])(hr:Room k callerA)(hY:∀ (w:World) (h:Heap),YP w h->(K w.params).In h)(F:∀ (w:World) (mg:Str->Option Value) (fa:Addr) (h:Heap),(K w.params).In h->h.Ns mainGlobals mg->mg d.name=some (.ref fa)->
   ∃ fd:FuncData,(∀ (s:Shared) (u:Value),BindsTo s fd ⟨[u],[]⟩ [(x,u)])/\
    ∀ base:Heap,(K w.params).In base->base.Ns mainGlobals mg->FnOk l.prog w (K w.params) mg base (CX w) k fa fd [x] (sp w))(eV:∀ (w:World) (H:Hp) (a:Addr) (ns:List Int),ns.length<=n->Only H->D9 (K w.params) H a (ns.map V.int)->sp w [.ref a] H (fun v _=>v=.bl true) fun _ _ _=>False)(hCX:∀ (w:World) (H:Hp) (s:Shared) (e:Value) (s':Shared),CX w [] H s (fun _ _ _=>False) e s'->False) :
  PySem.W.WalkO q loose XP YP l.row.toRowW d [] (fun f vs=>PySem.call f vs):=by
 refine Att.attach_call hn bF fun w s₀ zu mg mb fa o pm cd doc a vs ns G zy ho hd U1 pV iL y3 A9 hg=>?_
 have KX:=hY w _ zy;obtain ⟨fd,hb,hF⟩:=F w mg fa _ KX G.T.g pV;exact alR KX G.T.g G.T.b G.T.builtins G.T.nolimit hg iL y3 (K6 A9 lP) hr hF hb (fun H hO hS=>eV w H a ns A9 hO hS) fun H e s'=>hCX w H zu e s'
noncomputable def jZ (s:Stmt) (j:Nat):Stmt:=match s with
 | .ClassDef _ _ _ body _ _ _ _ _ _ _=>body.getD j (.Pass ⟨0,0,0,0⟩)
 | _=>.Pass ⟨0,0,0,0⟩
noncomputable def X4 (s:Stmt):Arguments:=match s with
 | .FunctionDef _ a _ _ _ _ _ _ _ _=>a
 | _=>{ posonlyargs:=[],args:=[],vararg:=none,kwonlyargs:=[],kw_defaults:=[],kwarg:=none,defaults:=[] }
noncomputable def W6 (s:Stmt):List Stmt:=match s with
 | .FunctionDef _ _ b _ _ _ _ _ _ _=>b
 | _=>[]
noncomputable def C3 (s:Stmt):Scope:=match s with
 | .FunctionDef _ _ _ _ _ _ sc _ _ _=>sc
 | _=>{ kind:=.function,names:=[],isGenerator:=false,isCoroutine:=false }
noncomputable abbrev E6:j7:=fun _ _ _ _ _ _=>False
noncomputable abbrev E0:XK:=fun _ _ _=>False
theorem pass0 : gB E6 X E0:=fun _ _ _ _ _ _ _ h=>h.elim
structure Fun(K:PySem.W.Frag)(x qual:Str)(st:Stmt)(f:Addr)(fd:FuncData):Prop where
 ex:∃ (oc:Value) (od:Option Addr) (kV doc pm:Value) (an:Option Addr) (cdv ct:Value) (osl:Array (Option Value)),
  fd=V9 x qual (X4 st) (W6 st) (C3 st) .none kV doc pm an cdv ct/\K.lookup f=some ⟨oc,od,.func fd,osl⟩/\b8 K cdv qual=true
 kp:X3 K (.ref f)=true
theorem hu_of(hr:Room k A):A.units+1<cLine:=jQ (Nat.add_le_add_left (by decide:1<=64) _) hr.units
theorem iteF{A B:Prop}(h:B):if false=true then A else B:=by
 rw [if_neg M4];exact h
theorem iteT{A B:Prop}(h:A):if true=true then A else B:=by
 rw [if_pos rfl];exact h
noncomputable def Same (H H':Hp):Prop:=∀ b o,H b=some o->H' b=some o
theorem aQ(H:Hp):Same H H:=fun _ _ h=>h
theorem Same.trans(a:Same H H1)(b:Same H1 H2):Same H H2:=fun c o h=>b c o (a c o h)
theorem Same.free(e:Same H H'){l:Addr}(h:H' l=Option.none):H l=Option.none:=by
 cases q:H l with
 | none=>rfl
 | some o=>
  rw [e l o q] at h;cases h
theorem Same.seq(e:Same H H')(h:D9 K H a xs):D9 K H' a xs:=by
 rcases h with (h | ⟨o,h⟩) | h
 .exact .inl (.inl (e _ _ h))
 .exact .inl (.inr ⟨o,e _ _ h⟩)
 .exact .inr h
section
variable {κ:Type} [DecidableEq κ]
noncomputable def valV (kvs:List (κ×V)) (k:κ):Option V:=(kvs.find? fun kv=>decide (kv.1=k)).map (·.2)
noncomputable def putK (kvs:List (κ×V)) (k:κ) (v:V):List (κ×V):=
 if (kvs.any fun kv=>decide (kv.1=k))=true then kvs.map (fun kv=>if kv.1=k then (kv.1,v) else kv) else kvs++[(k,v)]
theorem sL{p:κ×V}{r:List (κ×V)}{k:κ}(e:p.1=k):valV (p::r) k=some p.2:=by simp [valV,u8,e]
theorem cD{p:κ×V}{r:List (κ×V)}{k:κ}(e:¬ p.1=k):valV (p::r) k=valV r k:=by simp [valV,u8,e]
theorem wZ(k:κ):∀ kvs:List (κ×V),(kvs.any fun kv=>decide (kv.1=k))=(valV kvs k).isSome
 | []=>rfl
 | p::r=>by
  rw [bP]
  by_cases e:p.1=k
  .simp only [sL e,decide_eq_true e,Bool.true_or,Option.isSome_some]
  .rw [cD e,decide_eq_false e,Bool.false_or];exact wZ k r
theorem xA(kvs:List (κ×V))(k:κ)(v:V):(putK kvs k v).length<=kvs.length+1:=by
 unfold putK
 split
 .rw [A6];lia
 .rw [C4,K4,Y6];lia
theorem alS{kvs:List (κ×V)}{k:κ}(v:V)(h:valV kvs k=none):putK kvs k v=kvs++[(k,v)]:=by
 unfold putK;rw [wZ,h];exact if_neg 'h'
theorem RelO.isSome_eq{o:Option V}{u:Option Value}(r:RelO o u):o.isSome=u.isSome:=by
 cases o with
 | none=>cases u with
  | none=>rfl
  | some _=>exact (show False from r).elim
 | some _=>cases u with
  | none=>exact (show False from r).elim
  | some _=>rfl
theorem RelO.getD{o:Option V}{u:Option Value}{d:V}{d':Value}(r:RelO o u)(rd:RelV d d'):RelV (o.getD d) (u.getD d'):=by
 cases o with
 | none=>cases u with
  | none=>exact rd
  | some _=>exact (show False from r).elim
 | some _=>cases u with
  | none=>exact (show False from r).elim
  | some _=>exact r
theorem KV.val{kvs:List (κ×V)}{vs:List (κ×Value)}(r:KV kvs vs)(k:κ):RelO (valV kvs k) (valueAt vs k):=by
 unfold KV at r
 induction r with
 | nil=>exact True.intro
 | @cons p q ps qs h t ih=>
  obtain ⟨h1,h2⟩:=h
  by_cases e:p.1=k
  .have e':q.1=k:=h1.symm.trans e;have b:valueAt (q::qs) k=some q.2:=by simp [valueAt,u8,e']
   rw [sL e,b];exact h2
  .have e':¬ q.1=k:=fun z=>e (h1.trans z)
   have b:valueAt (q::qs) k=valueAt qs k:=by simp [valueAt,u8,e']
   rw [cD e,b];exact ih
theorem KV.any{kvs:List (κ×V)}{vs:List (κ×Value)}(r:KV kvs vs)(k:κ):(kvs.any fun kv=>decide (kv.1=k))=vs.any fun kv=>decide (kv.1=k):=by
 unfold KV at r
 induction r with
 | nil=>rfl
 | cons h t ih=>rw [bP,bP,ih,h.1]
theorem KV.repl{kvs:List (κ×V)}{vs:List (κ×Value)}(r:KV kvs vs)(k:κ)(ry:RelV y u) :
  KV (kvs.map fun kv=>if kv.1=k then (kv.1,y) else kv) (vs.map fun kv=>if kv.1=k then (kv.1,u) else kv):=by
 unfold KV at r ⊢
 induction r with
 | nil=>exact .nil
 | @cons p q ps qs h t ih=>
  rw [K5,K5];refine .cons ?_ ih;obtain ⟨h1,h2⟩:=h
  by_cases e:p.1=k
  .rw [if_pos e,if_pos (h1.symm.trans e)];exact ⟨h1,ry⟩
  .rw [if_neg e,if_neg (fun z=>e (h1.trans z))];exact ⟨h1,h2⟩
theorem KV.put{kvs:List (κ×V)}{vs:List (κ×Value)}(r:KV kvs vs)(k:κ)(ry:RelV y u):KV (putK kvs k y) (stored vs k u):=by
 unfold putK stored;rw [r.any k]
 by_cases e:(vs.any fun kv=>decide (kv.1=k))=true
 .rw [if_pos e,if_pos e];exact r.repl k ry
 .rw [if_neg e,if_neg e];exact Paired.snoc r ⟨rfl,ry⟩
theorem KV.keys{kvs:List (κ×V)}{vs:List (κ×Value)}(r:KV kvs vs):kvs.map (·.1)=vs.map (·.1):=by
 unfold KV at r
 induction r with
 | nil=>rfl
 | cons h t ih=>rw [K5,K5,ih,h.1]
theorem KV.length{kvs:List (κ×V)}{vs:List (κ×Value)}(r:KV kvs vs):kvs.length=vs.length:=Paired.length r
end
theorem kV_is{P:Program}{w:World}{k:C5}(r:RelV (kV k) u):(P9 P w).is k u=true:=by
 cases k with
 | inl i=>obtain ⟨t,e⟩:=(show ∃ t,u=Value.int i t from r);subst e;exact aho P w i t
 | inr x=>obtain ⟨t,e⟩:=(show ∃ t,u=Value.str x t from r);subst e;exact ahp P w x t
theorem agw{P:Program}{w:World} : ∀ {ks:List C5} {us:List Value},Vals (ks.map kV) us->ItemsAre (P9 P w) ks us
 | [],_,r=>by rw [List.map_nil] at r;cases r;exact .nil
 | k::ks,_,r=>by
  rw [K5] at r
  cases r with
  | cons h t=>exact .cons (kV_is h) (agw t)
noncomputable abbrev KT (H:Hp):List (List C5×V)->List (List C5×Addr×Value)->Prop:=Paired fun p q=>p.1=q.1/\H q.2.1=some (.tup (p.1.map kV))/\RelV p.2 q.2.2
theorem KT.val{kvs:List (List C5×V)}{xs:List (List C5×Addr×Value)}(r:KT H kvs xs)(k:List C5):RelO (valV kvs k) ((atKey xs k).map (·.2)):=by
 induction r with
 | nil=>exact True.intro
 | @cons p q ps qs h t ih=>
  obtain ⟨h1,_,h2⟩:=h
  by_cases e:p.1=k
  .have e':q.1=k:=h1.symm.trans e;have b:atKey (q::qs) k=some q.2:=by simp [atKey,u8,e']
   rw [sL e,b];exact h2
  .have e':¬ q.1=k:=fun z=>e (h1.trans z)
   have b:atKey (q::qs) k=atKey qs k:=by simp [atKey,u8,e']
   rw [cD e,b];exact ih
theorem KT.repl{kvs:List (List C5×V)}{xs:List (List C5×Addr×Value)}(r:KT H kvs xs)(k:List C5)(ry:RelV y u) :
  KT H (kvs.map fun kv=>if kv.1=k then (kv.1,y) else kv) (xs.map (putAt k u)):=by
 induction r with
 | nil=>exact .nil
 | @cons p q ps qs h t ih=>
  rw [K5,K5];refine .cons ?_ ih;obtain ⟨h1,h2,h3⟩:=h;unfold putAt
  by_cases e:p.1=k
  .rw [if_pos e,if_pos (h1.symm.trans e)];exact ⟨h1,h2,ry⟩
  .rw [if_neg e,if_neg (fun z=>e (h1.trans z))];exact ⟨h1,h2,h3⟩
theorem KT.put{kvs:List (List C5×V)}{xs:List (List C5×Addr×Value)}(r:KT H kvs xs)(k:List C5)(hb:H b=some (.tup (k.map kV)))(ry:RelV y u) :
  KT H (putK kvs k y) (storedH xs k b u):=by
 have e:(kvs.any fun kv=>decide (kv.1=k))=(atKey xs k).isSome:=by
  rw [wZ,(r.val k).isSome_eq,Option.isSome_map]
 unfold putK storedH;rw [e]
 by_cases q:(atKey xs k).isSome=true
 .rw [if_pos q,if_pos q];exact r.repl k ry
 .rw [if_neg q,if_neg q];exact Paired.snoc r ⟨rfl,hb,ry⟩
theorem KT.keeps{kvs:List (List C5×V)}{xs:List (List C5×Addr×Value)}(r:KT H kvs xs)(ht:∀ b ys,H b=some (.tup ys)->H' b=some (.tup ys)):KT H' kvs xs:=
 M5 r fun _ _ z=>⟨z.1,ht _ _ z.2.1,z.2.2⟩
section
variable {P:Program} {w:World} {H:Hp} {h:Heap} {a:Addr}
theorem rd_of{u:HO}(ok:O1 P w H h)(e:Rd H a u):ObjOk P w H h a u:=e.ok ok
theorem dk_rd(ok:O1 P w H h)(e:Rd H a (.dK kvs)):kvs.length<=sizeLine/\(a==sysModules)=false/\∃ vs,KV kvs vs/\h.DictOf (P9 P w) a vs:=
 show ObjOk P w H h a (.dK kvs) from rd_of ok e
theorem dk_of(ok:O1 P w H h)(e:H a=some (.dK kvs)):kvs.length<=sizeLine/\(a==sysModules)=false/\∃ vs,KV kvs vs/\h.DictOf (P9 P w) a vs:=dk_rd ok (.inl e)
theorem gD{ks:List C5}(ok:O1 P w H h)(e:H a=some (.tup (ks.map kV))):(tupleKind (P9 P w)).is h ks a:=by
 obtain ⟨_,its,r,o,h1,h2,n,h3⟩:=(show ObjOk P w H h a (.tup (ks.map kV)) from ok a _ e)
 exact ⟨o,its.toArray,n,h1,h2,h3,by simpa using agw r⟩
theorem dt_rd{kvs:List (List C5×V)}(ok:O1 P w H h)(e:Rd H a (.dT kvs)):kvs.length<=sizeLine/\(a==sysModules)=false/\
  ∃ xs,KT H kvs xs/\h.DictOfH (tupleKind (P9 P w)) a xs:=by
 obtain ⟨z,y,xs,r,o,es,ep,h1,h2,h3,h4,h5⟩:=(show ObjOk P w H h a (.dT kvs) from rd_of ok e)
 refine ⟨z,y,xs,r,o,es,ep,h1,h2,h3,h4,fun x hx=>?_,h5⟩;have all:∀ {l:List (List C5×V)} {m:List (List C5×Addr×Value)},KT H l m->∀ x∈m,(tupleKind (P9 P w)).is h x.1 x.2.1:=by
  intro l m q
  induction q with
  | nil=>intro x hx;exact nomatch hx
  | @cons p q ps qs hq t ih=>
   intro x hx
   rcases E7.mp hx with e | hx
   .subst e;exact gD ok (by rw [<- hq.1];exact hq.2.1)
   .exact ih x hx
 exact all r x hx
theorem dt_of{kvs:List (List C5×V)}(ok:O1 P w H h)(e:H a=some (.dT kvs)):kvs.length<=sizeLine/\(a==sysModules)=false/\
  ∃ xs,KT H kvs xs/\h.DictOfH (tupleKind (P9 P w)) a xs:=dt_rd ok (.inl e)
end
noncomputable def DGet (H:Hp) (a:Addr) (y:V) (r:Option V):Prop:=
 (∃ kvs k,Rd H a (.dK kvs)/\y=kV k/\r=valV kvs k)\/∃ kvs k b,Rd H a (.dT kvs)/\y=.ref b/\H b=some (.tup (k.map kV))/\r=valV kvs k
noncomputable def DPut (H:Hp) (a:Addr) (y v:V) (H':Hp):Prop:=
 (∃ kvs k,H a=some (.dK kvs)/\y=kV k/\kvs.length<sizeLine/\H'=A0 H a (.dK (putK kvs k v)))\/
 ∃ kvs k b,H a=some (.dT kvs)/\y=.ref b/\H b=some (.tup (k.map kV))/\kvs.length<sizeLine/\H'=A0 H a (.dT (putK kvs k v))
theorem c9{k:C5}(e:H a=some (.dK kvs)):DGet H a (kV k) (valV kvs k):=.inl ⟨kvs,k,.inl e,rfl,rfl⟩
theorem cE{k:C5}{v:V}(e:H a=some (.dK kvs))(hl:kvs.length<sizeLine):DPut H a (kV k) v (A0 H a (.dK (putK kvs k v))):=.inl ⟨kvs,k,e,rfl,hl,rfl⟩
section
variable {X:Cx} {pins:List (Addr×Obj)} {Y:St} {H:Hp} {s:Shared} {a:Addr} {y v:V} {u r:Value} {o:Option V} {A:Around} {E:Value->Shared->Prop}
theorem Inv.big(I:Inv X pins Y H s):sysModules<s.heap.objs.size:=by
 have h:mainGlobals<s.heap.objs.size:=(I.mod.glob.keeps I.bk).lt;exact Nat.lt_trans 'h' h
theorem agx{Q:Value->Shared->Prop}(hu:A.units+1<cLine)(I:Inv X pins Y H s)(g:DGet H a y (some v))(ry:RelV y u)(h:∀ w' s',Inv X pins Y H s'->RelV v w'->Q w' s') :
  wpAny 'b' A (getItem (.ref a) u) Q E s:=by
 rcases g with ⟨kvs,k,e,ey,l⟩ | ⟨kvs,k,b,e,ey,eb,l⟩
 .subst ey;obtain ⟨z,hd,vs,rel,dd⟩:=dk_rd I.hok e;obtain ⟨w',hw,rw'⟩:=sG (v:=v) (o:=valueAt vs k) (by rw [l];exact rel.val k);exact wpAny_getItem_of (kV_is ry) dd.mapOf hw (h w' _ (I.tok _) rw')
 .subst ey
  cases (show u=Value.ref b from ry)
  obtain ⟨z,hd,xs,rel,dd⟩:=dt_rd I.hok e;obtain ⟨w',hw,rw'⟩:=sG (v:=v) (o:=(atKey xs k).map (·.2)) (by rw [l];exact rel.val k);obtain ⟨p,hp,U4⟩:=Option.map_eq_some_iff.mp hw;refine wpAny_getItem_heap (tupleKind_room_in1 hu) (gD I.hok eb) dd hp ?_;rw [U4];exact h w' _ (I.tok _) rw'
theorem d_in{Q:Value->Shared->Prop}(hu:A.units+1<cLine)(I:Inv X pins Y H s)(g:DGet H a y o)(ry:RelV y u)(h:∀ s',Inv X pins Y H s'->Q (.bool o.isSome) s') :
  wpAny 'b' A (compareOp .In u (.ref a)) Q E s:=by
 rcases g with ⟨kvs,k,e,ey,l⟩ | ⟨kvs,k,b,e,ey,eb,l⟩
 .subst ey;obtain ⟨z,hd,vs,rel,dd⟩:=dk_rd I.hok e;refine wpAny_in_of (kV_is ry) hd dd.mapOf ?_;rw [<- (rel.val k).isSome_eq,<- l];exact h _ (I.tok _)
 .subst ey
  cases (show u=Value.ref b from ry)
  obtain ⟨z,hd,xs,rel,dd⟩:=dt_rd I.hok e;refine wpAny_in_heap (tupleKind_room_in1 hu) (gD I.hok eb) hd dd ?_;have q:=(rel.val k).isSome_eq;rw [Option.isSome_map] at q;rw [<- q,<- l];exact h _ (I.tok _)
theorem anP{Q:Value->Shared->Prop}(hu:A.units+1<cLine)(I:Inv X pins Y H s)(g:DGet H a y o)(ry:RelV y u)(h:∀ s',Inv X pins Y H s'->Q (.bool (!o.isSome)) s') :
  wpAny 'b' A (compareOp .NotIn u (.ref a)) Q E s:=by
 rcases g with ⟨kvs,k,e,ey,l⟩ | ⟨kvs,k,b,e,ey,eb,l⟩
 .subst ey;obtain ⟨z,hd,vs,rel,dd⟩:=dk_rd I.hok e;refine wpAny_notIn_of (kV_is ry) hd dd.mapOf ?_;rw [<- (rel.val k).isSome_eq,<- l];exact h _ (I.tok _)
 .subst ey
  cases (show u=Value.ref b from ry)
  obtain ⟨z,hd,xs,rel,dd⟩:=dt_rd I.hok e;refine wpAny_notIn_heap (tupleKind_room_in1 hu) (gD I.hok eb) hd dd ?_;have q:=(rel.val k).isSome_eq;rw [Option.isSome_map] at q;rw [<- q,<- l];exact h _ (I.tok _)
theorem xB{ob:HO}(I:Inv X pins Y H s)(mu:nE (H a))(hs:Heap.SameBut a s.heap h')(he:∃ q,h'.get? a=some q)(new:ObjOk X.prog X.w (A0 H a ob) h' a ob) :
  Inv X pins Y (A0 H a ob) { s with heap:=h',toks:=t' }:=
 I.write (x:=a) (e:=a) mu 'g' (fun b q hb z=>(hs.2 b hb).trans z) he new
theorem xC{P:Program}{w:World}{vs:List (C5×Value)}(z:kvs.length<=sizeLine)(hd:(a==sysModules)=false)(rel:KV kvs vs)(dd:h'.DictOf (P9 P w) a vs) :
  ObjOk P w H' h' a (.dK kvs):=⟨z,hd,vs,rel,dd⟩
theorem agy{Q:Unit->Shared->Prop}(hu:A.units+1<cLine)(I:Inv X pins Y H s)(g:DPut H a y v H')(ry:RelV y u)(rv:RelV v r)(h:∀ s',Inv X pins Y H' s'->Q () s') :
  wpAny 'b' A (setItem (.ref a) u r) Q E s:=by
 rcases g with ⟨kvs,k,e,ey,l,eH⟩ | ⟨kvs,k,b,e,ey,eb,l,eH⟩
 .subst ey eH;obtain ⟨z,hd,vs,rel,dd⟩:=dk_of I.hok e;have hz:vs.length<=sizeLine:=by rw [<- rel.length];exact z
  have hl:(putK kvs k v).length<=sizeLine:=by have:=xA kvs k v;lia
  refine wpAny_setItem_pairs (hsz:=hz) (kV_is ry) dd fun h' dd' hs=>h _ ?_
  have he:∃ q,h'.get? a=some q:=let ⟨q,_,_,hq,_⟩:=dd';⟨q,hq⟩
  exact xB I (by rw [e];exact True.intro) hs he (xC hl hd (rel.put k rv) dd')
 .subst ey eH
  cases (show u=Value.ref b from ry)
  obtain ⟨z,hd,xs,rel,dd⟩:=dt_of I.hok e;have hz:xs.length<=sizeLine:=by rw [<- Paired.length rel];exact z
  have hl:(putK kvs k v).length<=sizeLine:=by have:=xA kvs k v;lia
  refine wpAny_setItem_heap (hsz:=hz) (tupleKind_room_in1 hu) (gD I.hok eb) dd fun h' dd' hs=>h _ ?_
  obtain ⟨q,es,ep,hq,h2,h3,h4,_,h5⟩:=dd';refine xB I (by rw [e];exact True.intro) hs ⟨q,hq⟩ ⟨hl,hd,_,(rel.put k eb rv).keeps fun c ys ec=>?_,q,es,ep,hq,h2,h3,h4,h5⟩;rw [B1 (ne_of ec e (fun z=>nomatch z))];exact ec
end
section
variable {X:Cx} {pins:List (Addr×Obj)} {Y:St} {H:Hp} {s:Shared} {a:Addr} {kvs:List (C5×V)} {k:C5} {u:Value} {A:Around} {E:Value->Shared->Prop}
theorem d_len{Q:Value->Shared->Prop}(I:Inv X pins Y H s)(e:Rd H a (.dK kvs))(h:∀ t s',Inv X pins Y H s'->Q (.int kvs.length t) s'):wpAny 'b' A (call (.builtin "len") [.ref a]) Q E s:=by
 obtain ⟨z,hd,vs,rel,dd⟩:=dk_rd I.hok e;refine call_len_dict hd dd (by rw [<- rel.length];rw [sizeLine_eq] at z;lia) ?_;rw [<- rel.length];exact h _ _ (I.tok _)
end
noncomputable def NoSl (i:Expr):Prop:=∀ ov iv,subscripted i false ov iv=operate [ov,iv] (getItem ov iv)
theorem akd{w:World}{env:Env}{value slice:Expr}{pos:Pos}{T id:String}{Q:Value->Shared->Prop}(hl:typeLookup (.type T) "__getitem__"=pure (some (.builtin id)))(hs:NoSl slice)(h:wpAny (model prog w) A (eval value env) (fun o zu=>wpAny (model prog w) A (eval slice env) (fun i zx=>zx.TypeIs o T/\wpAny (model prog w) A (getItem o i) Q E zx) E zu) E s) :
  wpAny (model prog w) A (eval (.Subscript value slice pos) env) Q E s:=by
 refine Subscript_ (wpAny_mono h (fun o zu zr=>wpAny_mono zr (fun i zx zq=>?_) fun _ _ x=>x) fun _ _ x=>x);obtain ⟨hT,zq⟩:=zq;unfold subscriptTail;refine wpAny_bind ?_;rw [getitemInPython_of_ne hT.not_modules];refine wpAny_bind (wpAny_specialOf hT hl ?_);have fin:wpAny (model prog w) A (subscripted slice false o i) (fun r zw=>wpAny (model prog w) A (letTemporaryGo value o r >>= fun _=>pure r) Q E zw) E zx:=by
  rw [hs o i];exact wpAny_operating (wpAny_mono zq (fun r zw zp=>wpAny_bind (wpAny_letTemporaryGo (wpAny_pure zp))) fun _ _ x=>x)
 first
  | exact wpAny_pure (wpAny_bind fin)
  | exact wpAny_bind (wpAny_pure (wpAny_bind fin))
  | exact wpAny_bind fin
theorem ahu{o:Option V}(I:Inv X pins Y H s)(g:DGet H a y o):s.TypeIs (.ref a) "dict":=by
 rcases g with ⟨kvs,k,e,_,_⟩ | ⟨kvs,k,b,e,_,_,_⟩
 .obtain ⟨_,_,vs,_,dd⟩:=dk_rd I.hok e;exact dd.typeIs
 .obtain ⟨_,_,xs,_,dd⟩:=dt_rd I.hok e;exact dd.typeIs
noncomputable def tDGet (td ty:TE):TE:=fun Y H Q=>td Y H fun x H1=>ty Y H1 fun y H2=>∃ a v,x=.ref a/\DGet H2 a y (some v)/\Q v H2
noncomputable def sDPut (td ty tv:TE):TS:=fun D Y H=>tv Y H fun v H1=>td Y H1 fun x H2=>ty Y H2 fun y H3=>∃ a H4,x=.ref a/\DPut H3 a y v H4/\D.nx Y H4
noncomputable def sDAug (td ty tv:TE) (rd:V->V->Hp->VK->Prop):TS:=fun D Y H=>td Y H fun x H1=>ty Y H1 fun y H2=>∃ a v,x=.ref a/\DGet H2 a y (some v)/\
 tv Y H2 fun y2 H3=>rd v y2 H3 fun z H4=>∃ H5,DPut H4 a y z H5/\D.nx Y H5
section
variable {X:Cx} {o i e value:Expr} {pos pos' tpos:Pos} {td ty tv:TE}
theorem anQ(hu:X.A.units+1<cLine)(ho:PE X o td)(hi:PE X i ty)(hs:NoSl i):PE X (.Subscript o i pos) (tDGet td ty):=by
 sleep 1;refine akd PySem.F.slot_dict_getitem.lookup hs (B3 (ho pins s Y H _ I h) fun u s1 ⟨x,H1,I1,rx,q1⟩=>B3 (hi pins s1 Y H1 _ I1 q1) fun iv s2 ⟨y,H2,I2,ry,a,v,ex,g,q2⟩=>?_);subst ex;obtain rfl:u=Value.ref a:=rx;exact ⟨ahu I2 g,agx hu I2 g ry fun w' s3 I3 rw'=>⟨v,H2,I3,rw',q2⟩⟩
theorem anR(hu:X.A.units+1<cLine)(ho:PE X o td)(hi:PE X i ty)(hv:PE X value tv)(hs:swapsWith value (some (.Subscript o i pos')) pos.line X.env=pure false) :
  PS X (.Assign [.Subscript o i pos'] value pos) (sDPut td ty tv):=by
 intro pins s Y H D I h;refine wpAny_Assign_Subscript (B3 (hv pins s Y H _ I h) fun r s1 ⟨v,H1,I1,rv,q1⟩=>B3 (ho pins s1 Y H1 _ I1 q1) fun u s2 ⟨x,H2,I2,rx,q2⟩=>B3 (hi pins s2 Y H2 _ I2 q2) fun iv s3 ⟨y,H3,I3,ry,a,H4,ex,g,q3⟩=>?_) hs;subst ex;obtain rfl:u=Value.ref a:=rx;exact agy hu I3 g ry rv fun s4 I4=>⟨Y,H4,I4,q3⟩
theorem anS{op:Operator}{rd:V->V->Hp->VK->Prop}(hu:X.A.units+1<cLine)(ho:PE X o td)(hi:PE X i ty)(hv:PE X value tv)(hop:InOp X op rd)(ha:∀ ov iv new,augStore i ov iv new=(do holding [new,ov,iv] (setItem ov iv new);release [new,ov,iv] [];pure .next)):PS X (.AugAssign (.Subscript o i tpos) op value pos) (sDAug td ty tv rd):=by
 intro pins s Y H D I h;refine wpAny_AugAssign_SubscriptAny (B3 (ho pins s Y H _ I h) fun u s1 ⟨x,H1,I1,rx,q1⟩=>B3 (hi pins s1 Y H1 _ I1 q1) fun iv s2 ⟨y,H2,I2,ry,a,v,ex,g,q2⟩=>?_) ha;subst ex;obtain rfl:u=Value.ref a:=rx;refine agx hu I2 g ry fun w' s3 I3 rw'=>B3 (hv pins s3 Y H2 _ I3 q2) fun w2 s4 ⟨y2,H3,I4,ry2,q3⟩=>B3 (hop pins s4 Y H3 v y2 w' w2 _ I4 rw' ry2 q3) fun w3 s5 ⟨z,H4,I5,rz,H5,g5,q4⟩=>?_
 exact agy hu I5 g5 ry rz fun s6 I6=>⟨Y,H5,I6,q4⟩
end
theorem alT{P:Program}{w:World}(h:Heap)(hb:sysModules<h.objs.size):ObjOk P w H (h.push { cls:=.type "dict",data:=.dict #[] }) h.objs.size (.dK []):=
 ⟨F9 _,beq_eq_false_iff_ne.mpr (Ne.symm (O6 hb)),[],.nil,Heap.DictOf.new h⟩
noncomputable def xD:TE:=fun _ H Q=>∀ p,H p=none->Q (.ref p) (A0 H p (.dK []))
section
variable {X:Cx} {pos:Pos}
theorem alU:PE X (.Dict [] [] pos) xD:=fun pins s Y H Q I h=>
 wpAny_Dict_empty ⟨.ref s.heap.objs.size,_,I.laid (a:=s.heap.objs.size) (o:=.dK []) (t':=s.toks) (fun _ _ q=>Heap.get?_push_of_some _ q) (B5 _) (alT s.heap I.big),rfl,h _ (I.hok.fresh (B5 _))⟩
end
noncomputable def kA:List (TE×TE)->St->Hp->(List (V×V)->Hp->Prop)->Prop
 | [],_,H,Q=>Q [] H
 | (tk,tv)::r,Y,H,Q=>tk Y H fun x H1=>tv Y H1 fun y H2=>kA r Y H2 fun ps H3=>Q ((x,y)::ps) H3
noncomputable def Z0 (kvs more:List (C5×V)):List (C5×V):=more.foldl (fun acc kv=>putK acc kv.1 kv.2) kvs
theorem adN:∀ (more kvs:List (C5×V)),(Z0 kvs more).length<=kvs.length+more.length
 | [],kvs=>by show kvs.length<=kvs.length+0;lia
 | p::r,kvs=>by
  have h1:=adN r (putK kvs p.1 p.2);have h2:=xA kvs p.1 p.2;show (Z0 (putK kvs p.1 p.2) r).length<=_;rw [K4];lia
noncomputable def tDisp (trs:List (TE×TE)):TE:=fun Y H Q=>∀ p,H p=none->kA trs Y (A0 H p (.dK [])) fun ps H2=>H2 p=some (.dK [])/\∃ kvs:List (C5×V),ps=kvs.map (fun kv=>(kV kv.1,kv.2))/\kvs.length<=15/\Q (.ref p) (A0 H2 p (.dK (Z0 [] kvs)))
structure M1(X:Cx)(o:Expr)(m:Str)(apos:Pos)(e:Expr)(cpos:Pos):Prop where
 base:attributeBase o m X.env (eval o X.env)=eval o X.env
 few:((backTo cpos (starEach [e] X.env)).all (fun x=>!x.1)&&(backToKw cpos (keywordEach [] X.env)).all (fun x=>x.1.isSome)
  && decide (([e]:List Expr).length+([]:List Keyword).length+(if ([]:List Keyword).isEmpty then 0 else 1)<30))=true
 line:(apos.endLine==cpos.line)=true
 trees:backTo cpos (starEach [e] X.env)=[(false,eval e X.env)]
structure M2(X:Cx)(o:Expr)(m:Str)(apos:Pos)(e f:Expr)(cpos:Pos):Prop where
 base:attributeBase o m X.env (eval o X.env)=eval o X.env
 few:((backTo cpos (starEach [e,f] X.env)).all (fun x=>!x.1)&&(backToKw cpos (keywordEach [] X.env)).all (fun x=>x.1.isSome)
  && decide (([e,f]:List Expr).length+([]:List Keyword).length+(if ([]:List Keyword).isEmpty then 0 else 1)<30))=true
 line:(apos.endLine==cpos.line)=true
 trees:backTo cpos (starEach [e,f] X.env)=[(false,eval e X.env),(false,eval f X.env)]
noncomputable def gE (H:Hp) (a:Addr):Prop:=(∃ kvs,Rd H a (.dK kvs))\/∃ kvs,Rd H a (.dT kvs)
theorem xE(I:Inv X pins Y H s)(d:gE H a) :
  s.TypeIs (.ref a) "dict"/\(∀ b,Value.ref a=.ref b->∃ ob,s.heap.get? b=some ob/\ob.dict=none)/\(a==sysModules)=false:=by
 rcases d with ⟨kvs,e⟩ | ⟨kvs,e⟩
 .obtain ⟨_,hd,vs,_,dd⟩:=dk_rd I.hok e;refine ⟨dd.typeIs,fun b q=>?_,hd⟩
  cases q
  obtain ⟨ob,_,_,h1,h2,_⟩:=dd;exact ⟨ob,h1,h2.2.1⟩
 .obtain ⟨_,hd,xs,_,dd⟩:=dt_rd I.hok e;refine ⟨dd.typeIs,fun b q=>?_,hd⟩
  cases q
  obtain ⟨ob,_,_,h1,h2,_⟩:=dd;exact ⟨ob,h1,h2.2.1⟩
section
variable {X:Cx} {pins:List (Addr×Obj)} {Y:St} {H:Hp} {s:Shared} {a:Addr} {y d:V} {u r:Value} {o:Option V} {A:Around} {E:Value->Shared->Prop}
theorem aqG{Q:Value->Shared->Prop}(hu:A.units+1<cLine)(I:Inv X pins Y H s)(g:DGet H a y o)(ry:RelV y u)(h:∀ w' s',Inv X pins Y H s'->RelV (o.getD .non) w'->Q w' s') :
  wpAny 'b' A (call (.builtin "dict.get") [.ref a,u]) Q E s:=by
 rcases g with ⟨kvs,k,e,ey,l⟩ | ⟨kvs,k,b,e,ey,eb,l⟩
 .subst ey;obtain ⟨z,hd,vs,rel,dd⟩:=dk_rd I.hok e;refine call_meetsIn jS dd.typeIs sA (PySem.F.args_dict_get_2 _ _) (meets_dict_get (P9 X.prog X.w) a (kV_is ry) hd) ⟨_,dd.mapOf,h _ _ (I.tok _) ?_⟩;rw [l];exact (rel.val k).getD rfl
 .subst ey
  cases (show u=Value.ref b from ry)
  obtain ⟨z,hd,xs,rel,dd⟩:=dt_rd I.hok e;refine call_meetsIn jS dd.typeIs sA (PySem.F.args_dict_get_2 _ _) (meetsH_dict_get (tupleKind (P9 X.prog X.w)) a b hd) ⟨tupleKind_room_in1 hu,k,xs,gD I.hok eb,dd,h _ _ (I.tok _) ?_⟩;rw [l];exact (rel.val k).getD rfl
theorem aqH{Q:Value->Shared->Prop}(hu:A.units+1<cLine)(I:Inv X pins Y H s)(g:DGet H a y o)(ry:RelV y u)(rd:RelV d r)(h:∀ w' s',Inv X pins Y H s'->RelV (o.getD d) w'->Q w' s') :
  wpAny 'b' A (call (.builtin "dict.get") [.ref a,u,r]) Q E s:=by
 rcases g with ⟨kvs,k,e,ey,l⟩ | ⟨kvs,k,b,e,ey,eb,l⟩
 .subst ey;obtain ⟨z,hd,vs,rel,dd⟩:=dk_rd I.hok e;refine call_meetsIn jS dd.typeIs sA (PySem.F.args_dict_get_3 _ _ _) (meets_dict_get_default (P9 X.prog X.w) a (kV_is ry) hd r) ⟨_,dd.mapOf,h _ _ (I.tok _) ?_⟩;rw [l];exact (rel.val k).getD rd
 .subst ey
  cases (show u=Value.ref b from ry)
  obtain ⟨z,hd,xs,rel,dd⟩:=dt_rd I.hok e;refine call_meetsIn jS dd.typeIs sA (PySem.F.args_dict_get_3 _ _ _) (meetsH_dict_get_default (tupleKind (P9 X.prog X.w)) a b hd r) ⟨tupleKind_room_in1 hu,k,xs,gD I.hok eb,dd,h _ _ (I.tok _) ?_⟩;rw [l];exact (rel.val k).getD rd
end
noncomputable def xF (td ty:TE):TE:=fun Y H Q=>td Y H fun x H1=>∃ a,x=.ref a/\gE H1 a/\ty Y H1 fun y H2=>∃ o,DGet H2 a y o/\Q (o.getD .non) H2
noncomputable def xG (td ty tx:TE):TE:=fun Y H Q=>td Y H fun x H1=>∃ a,x=.ref a/\gE H1 a/\ty Y H1 fun y H2=>tx Y H2 fun z H3=>∃ o,DGet H3 a y o/\Q (o.getD z) H3
section
variable {X:Cx} {o e f:Expr} {apos cpos:Pos} {td ty tx:TE}
theorem alV(hu:X.A.units+1<cLine)(ho:PE X o td)(he:PE X e ty)(m:M1 X o "get" apos e cpos):PE X (.Call (.Attribute o "get" apos) [e] [] cpos) (xF td ty):=by
 sleep 1;refine wpAny_Call_method m.base m.few m.line PySem.F.plainAttrs_dict jS PySem.F.type_dict_get (B3 (ho pins s Y H _ I h) fun u s1 ⟨x,H1,I1,rx,a,ex,d,q1⟩=>?_);subst ex;obtain rfl:u=Value.ref a:=rx;obtain ⟨t1,t2,_⟩:=xE I1 d;refine ⟨t1,t2,?_⟩;rw [m.trees];refine Calls.callWith_builtin rfl (Calls.evalArgs_plain (Calls.spliced_cons (B3 (he pins s1 Y H1 _ I1 q1) fun iv s2 ⟨y,H2,I2,ry,ov,g,q2⟩=>Calls.spliced_nil ?_)));exact aqG hu I2 g ry fun w' s3 I3 rw'=>⟨_,H2,I3,rw',q2⟩
theorem alW(hu:X.A.units+1<cLine)(ho:PE X o td)(he:PE X e ty)(hf:PE X f tx)(m:M2 X o "get" apos e f cpos):PE X (.Call (.Attribute o "get" apos) [e,f] [] cpos) (xG td ty tx):=by
 sleep 1;refine wpAny_Call_method m.base m.few m.line PySem.F.plainAttrs_dict jS PySem.F.type_dict_get (B3 (ho pins s Y H _ I h) fun u s1 ⟨x,H1,I1,rx,a,ex,d,q1⟩=>?_);subst ex;obtain rfl:u=Value.ref a:=rx;obtain ⟨t1,t2,_⟩:=xE I1 d;refine ⟨t1,t2,?_⟩;rw [m.trees];refine Calls.callWith_builtin rfl (Calls.evalArgs_plain (Calls.spliced_cons (B3 (he pins s1 Y H1 _ I1 q1) fun iv s2 ⟨y,H2,I2,ry,q2⟩=>
  Calls.spliced_cons (B3 (hf pins s2 Y H2 _ I2 q2) fun fv s3 ⟨z,H3,I3,rz,ov,g,q3⟩=>Calls.spliced_nil ?_))))
 exact aqH hu I3 g ry rz fun w' s4 I4 rw'=>⟨_,H3,I4,rw',q3⟩
end
section
variable {κ:Type} [DecidableEq κ]
theorem sM:∀ {l:List κ} {k:κ},l.Nodup->¬ k∈l->(l++[k]).Nodup
 | [],k,_,_=>by simp
 | a::r,k,h,hk=>by
  obtain ⟨h1,h2⟩:=V8.mp h;show (a::(r++[k])).Nodup;refine V8.mpr ⟨fun m=>?_,sM h2 fun m=>hk (E7.mpr (Or.inr m))⟩
  rcases E1.mp m with q | q
  .exact h1 q
  .exact hk (E7.mpr (Or.inl (F6.mp q).symm))
end
noncomputable def cloOf (cells:List (Str×Addr)):List (Str×NameKind)->List (Str×Addr)->List (Str×Addr)
 | [],acc=>acc
 | (n,k)::r,acc=>if k=.free then cloOf cells r ((n,(cells.lookup n).getD 0)::acc) else cloOf cells r acc
theorem xH{env:Env} : ∀ (names:List (Str×NameKind)) (acc:List (Str×Addr)),(∀ x∈names,x.2=.free->∃ c,env.cells.lookup x.1=some c)->
  (forIn names acc fun (x:Str×NameKind) (cs:List (Str×Addr))=>(if (x.2==NameKind.free)=true then do
   let c <- cellOf env x.1
   pure (ForInStep.yield ((x.1,c)::cs)) else pure (ForInStep.yield cs):Sem (ForInStep (List (Str×Addr)))))=(pure (cloOf env.cells names acc):Sem (List (Str×Addr)))
 | [],acc,_=>rfl
 | (n,k)::r,acc,h=>by
  rw [List.forIn_cons];have hr:∀ x∈r,x.2=.free->∃ c,env.cells.lookup x.1=some c:=fun x hx=>h x (N4 _ hx)
  by_cases hk:k=.free
  .subst hk;obtain ⟨c,hc⟩:=h (n,.free) O0 rfl;have e1:cellOf env n=pure c:=by unfold cellOf;rw [show env.cells.lookup n=some c from hc]
   simp only [beq_self_eq_true,if_true];rw [e1];show (forIn r ((n,c)::acc) _:Sem _)=_;rw [xH r _ hr];show _=pure (if NameKind.free=.free then cloOf env.cells r ((n,(env.cells.lookup n).getD 0)::acc) else _);rw [if_pos rfl,show env.cells.lookup n=some c from hc];rfl
  .have hb:(k==NameKind.free)=false:=by simpa using hk
   simp only [hb,mY,if_false];show (forIn r acc _:Sem _)=_;rw [xH r _ hr];show _=pure (if k=.free then _ else cloOf env.cells r acc);rw [if_neg hk]
theorem adA{scope:Scope}{env:Env}(h:∀ x∈scope.names,x.2=.free->∃ c,env.cells.lookup x.1=some c):closureFor scope env=pure (cloOf env.cells scope.names []):=by
 simp only [closureFor];have e:=xH (env:=env) scope.names [] h;rw [e];rfl
theorem sN{cells:List (Str×Addr)}{x:Str} : ∀ (names:List (Str×NameKind)) (acc:List (Str×Addr)),
  (cloOf cells names acc).lookup x=if (x,NameKind.free)∈names then some ((cells.lookup x).getD 0) else acc.lookup x
 | [],acc=>by simp [cloOf]
 | (n,k)::r,acc=>by
  show (if k=.free then cloOf cells r ((n,(cells.lookup n).getD 0)::acc) else cloOf cells r acc).lookup x=_
  by_cases hk:k=.free
  .subst hk;rw [if_pos rfl,sN r]
   by_cases hm:(x,NameKind.free)∈r
   .rw [if_pos hm,if_pos (N4 _ hm)]
   .rw [if_neg hm,List.lookup_cons]
    by_cases hx:x=n
    .subst hx;rw [if_pos O0]
     simp
    .have e:(x==n)=false:=by simpa using hx
     rw [e,if_neg];intro z
     rcases E7.mp z with z | z
     .exact hx (Prod.mk.inj z).1
     .exact hm z
  .rw [if_neg hk,sN r]
   by_cases hm:(x,NameKind.free)∈r
   .rw [if_pos hm,if_pos (N4 _ hm)]
   .rw [if_neg hm,if_neg];intro z
    rcases E7.mp z with z | z
    .exact hk (Prod.mk.inj z).2.symm
    .exact hm z
theorem xI{α:Type}{x:Str} : ∀ {l:List (Str×α)} {k:α},l.lookup x=some k->(x,k)∈l
 | [],_,h=>by simp at h
 | (n,a)::r,k,h=>by
  rw [List.lookup_cons] at h
  by_cases hx:x=n
  .subst hx;simp at h;subst h;exact O0
  .have e:(x==n)=false:=by simpa using hx
   rw [e] at h;exact N4 _ (xI h)
theorem aef{sc:Scope}{env:Env}{x:Str}{k:NameKind}(hc:∀ y∈sc.names,y.2≠.cell)(h:(relabel sc env).names.lookup x=some k)(hk:k=.cell\/k=.free):(x,NameKind.free)∈sc.names:=by
 have m:=xI h;unfold relabel at m;obtain ⟨⟨n,k'⟩,hm,e⟩:=D8.mp m;have G9:=hc _ hm
 by_cases hf:k'=.free
 .subst hf
  have:n=x:=by
   dsimp only at e
   split at e
   .exact (Prod.mk.inj e).1
   .exact (Prod.mk.inj e).1
  subst this;exact hm
 .have hb:(k'==NameKind.free)=false:=by simpa using hf
  simp only [hb,jR,mY,if_false] at e;obtain ⟨e1,e2⟩:=Prod.mk.inj e;subst e1 e2
  rcases hk with z | z
  .exact absurd z G9
  .subst z;exact absurd rfl hf
structure CompOk(N:List Str)(kn:List (Str×NameKind))(sc:Scope)(N':List Str)(k:Nat)(ixs:List Nat):Prop where
 kind:sc.kind=.function
 cell:∀ x∈sc.names,x.2≠.cell
 names:∀ x∈sc.names,x.2=.local->sc.names.lookup x.1=some .local
 free:∀ x∈sc.names,x.2=.free->kn.lookup x.1=some .cell\/kn.lookup x.1=some .free
 clean:∀ x∈sc.names,x.2=.free->sc.names.lookup x.1=some .free
 len:N'.length=k+ixs.length
 at_:ixs.map (fun i=>N[i]?)=(N'.drop k).map some
 fr:∀ x∈N'.drop k,(x,NameKind.free)∈sc.names
noncomputable def N6 (X:Cx) (sc:Scope) (N':List Str) (C:Addr) (zw:Shared) (zt:Hp) (fp:List Addr) (pins:List (Addr×Obj)):Cx:=
 {prog:=X.prog,w:=X.w,K:=X.K,mg:=X.mg,base:=X.base,A:=X.A,N:=N',s₀:=zw,H₀:=zt,
  env:=compEnvC sc (cloOf X.env.cells sc.names []) C X.env,outer:=X.stack,stack:=X.stack,ex:=fp,fn:=fun _=>false,calm:=X.calm,
  pn:=X.pn++pins,xe:=fun _ _=>False }
noncomputable def compStart (k:Nat) (ixs:List Nat) (Y:St):St:=Y7 k none++ixs.map fun i=>(Y[i]?).join
theorem afW : (compStart k ixs Y).length=k+ixs.length:=by simp [compStart]
section
variable {X:Cx} {sc:Scope} {N':List Str} {k:Nat} {ixs:List Nat} {pins:List (Addr×Obj)} {Y:St} {H:Hp} {s:Shared} {fp:List Addr}
theorem kC(C:CompOk X.N X.env.scope.names sc N' k ixs)(I:Inv X pins Y H s){x:Str}{c:Addr}(e:(cloOf X.env.cells sc.names []).lookup x=some c):X.env.cells.lookup x=some c/\(x,NameKind.free)∈sc.names:=by
 rw [sN] at e
 by_cases hm:(x,NameKind.free)∈sc.names
 .rw [if_pos hm] at e;obtain ⟨c',bD⟩:=I.ok.has x (C.free _ hm rfl);rw [bD] at e;exact ⟨bD.trans e,hm⟩
 .rw [if_neg hm] at e;cases e
theorem aki(C:CompOk X.N X.env.scope.names sc N' k ixs)(I:Inv X pins Y H s){x:Str}(hm:(x,NameKind.free)∈sc.names):∃ c,(cloOf X.env.cells sc.names []).lookup x=some c/\X.env.cells.lookup x=some c:=by
 obtain ⟨c',bD⟩:=I.ok.has x (C.free _ hm rfl);refine ⟨c',?_,bD⟩;rw [sN,if_pos hm,bD];rfl
theorem aqI(C:CompOk X.N X.env.scope.names sc N' k ixs)(I:Inv X pins Y H s)(hf:∀ b∈fp,FpOk X pins H b)(ho:∀ b∈fp,∃ o,s.heap.get? b=some o):(N6 X sc N' s.heap.objs.size s H fp pins).Ok where
 mod:=I.ok.mod
 kind:=C.kind
 glob:=I.ok.glob
 blt:=I.ok.blt
 above:=B5 _
 inj:=fun x y c e1 e2=>I.ok.inj x y c (kC C I e1).1 (kC C I e2).1
 has:=fun x hx=>by
  have hm:(x,NameKind.free)∈sc.names:=by
   rcases hx with z | z
   .exact aef C.cell z 'g'
   .exact aef C.cell z (.inr rfl)
  obtain ⟨c,h1,_⟩:=aki C I hm;exact ⟨c,h1⟩
 cab:=fun x c h _=>by cases h
 hd:=I.ok.hd
 frames:=I.ok.frames
 stk:=.inl rfl
 exf:=fun b hb=>by
  obtain ⟨o,e⟩:=ho b hb;exact ⟨O6 (Heap.lt_size e),fun x c e1=>(hf b hb).2.2.2.2.1 x c (kC C I e1).1⟩
 bs:=I.bs
 bsz:=K6 I.ok.bsz I.sz
 noex:=fun b o e hb=>by
  rcases (hf b hb).2.2.2.1 with z | z
  .exact I.ok.noex b o e z
  .exact absurd (T4 (Heap.lt_size e) (K6 I.ok.bsz z)) (g3 _)
 exfs:=fun b hb hm=>by
  rcases E7.mp (I.stkSub b hm) with z | z
  .exact (hf b hb).2.1 z
  .exact (hf b hb).2.2.1 z
 funs:=I.stack
 frf:=I.stkFree
theorem anT(C:CompOk X.N X.env.scope.names sc N' k ixs)(I:Inv X pins Y H s)(hf:∀ b∈fp,FpOk X pins H b)(ho:∀ b∈fp,∃ o,s.heap.get? b=some o){m:Str->Option Value}(hn:h'.Ns s.heap.objs.size m)(hk:∀ b o,s.heap.get? b=some o->h'.get? b=some o):Inv (N6 X sc N' s.heap.objs.size s H fp pins) [] (compStart k ixs Y) H { s with heap:=h',toks:=t' } where
 ok:=aqI C I hf ho
 os:=rfl
 bare:=I.bare
 base:=Un.kept hk
 loc:=by
  refine ⟨m,hn,fun i x v e1 e2 e3=>?_⟩;unfold compStart at e2
  by_cases hi:i<k
  .rw [jI (by simpa using hi)] at e2;rw [List.getElem?_replicate_of_lt hi] at e2;cases e2
  .rw [fP (by simpa using hi),List.length_replicate] at e2;rw [T8] at e2;cases e4:ixs[i-k]? with
   | none=>rw [e4] at e2;cases e2
   | some j=>
    rw [e4] at e2;have e5:(Y[j]?).join=some v:=Option.some.inj e2;have e6:Y[j]?=some (some v):=by
     cases e7:Y[j]? with
     | none=>rw [e7] at e5;cases e5
     | some o=>rw [e7] at e5;exact congrArg some e5
    have e1':N'[i]?=some x:=e1;have ed:(N'.drop k)[i-k]?=some x:=by rw [List.getElem?_drop,show k+(i-k)=i by lia];exact e1'
    have n3:(x,NameKind.free)∈sc.names:=C.fr x (N2 ed);have n2:X.N[j]?=some x:=by
     have q:=congrArg (fun l=>l[i-k]?) C.at_;simp only [T8,e4,ed,Option.map_some] at q;exact Option.some.inj q
    obtain ⟨m0,hn0,pX⟩:=I.loc;have pY:X.env.scope.names.lookup x=some .cell\/X.env.scope.names.lookup x=some .free:=C.free _ n3 rfl;obtain ⟨u,r,l⟩:=pX j x v n2 e6 (.inr pY);refine ⟨u,r,.inr ?_⟩
    rcases l with ⟨l,_⟩ | ⟨_,c,hc,N8⟩
    .have l':X.env.scope.names.lookup x=some .local:=l
     rcases pY with z | z
     .rw [l'] at z;cases z
     .rw [l'] at z;cases z
    .obtain ⟨c',h1,h2⟩:=aki C I n3;rw [hc] at h2;cases h2;refine ⟨?_,c,h1,?_⟩
     .have e3':(relabel sc X.env).names.lookup x=some .local\/(relabel sc X.env).names.lookup x=some .cell\/(relabel sc X.env).names.lookup x=some .free:=e3
      rcases e3' with z | z
      .exfalso
       have mm:=xI z;unfold relabel at mm;obtain ⟨⟨n,k'⟩,hm,e⟩:=D8.mp mm;have i5:k'=.local/\n=x:=by
        dsimp only at e
        split at e
        .obtain ⟨_,q⟩:=Prod.mk.inj e
         cases q
        .exact ⟨(Prod.mk.inj e).2,(Prod.mk.inj e).1⟩
       obtain ⟨z1,z2⟩:=i5;subst z1 z2;have q1:=C.names _ hm rfl;rw [C.clean _ n3 rfl] at q1
       cases q1
      .exact z
     .exact N8.keeps hk
 cell:=fun x c e=>by
  obtain ⟨v,z⟩:=I.cell x c (kC C I e).1;exact ⟨v,z.keeps hk⟩
 free:=I.hok.fresh (B5 _)
 freeC:=fun x c e=>I.freeC x c (kC C I e).1
 pin:=fun p hp=>by
  have hp':p∈X.pn++pins:=by simpa [N6] using hp
  obtain ⟨e,n,ne,nf,d⟩:=I.pin p hp';refine ⟨hk _ _ e,n,O6 (Heap.lt_size e),fun hm=>?_,d⟩
  rcases E7.mp (I.stkSub _ hm) with z | z
  .exact ne z
  .exact nf z
 hok:=I.hok.kept hk
 len:=by rw [afW];exact C.len.symm
end
section
variable {prog:Program} {w:World} {A:Around} {R:Result->Shared->Prop} {s:Shared}
theorem agz{scope:Scope}{pos:Pos}{it acc:Value}{env:Env}(I:Nat->Shared->Prop)(turn:∀ n s,I n s->wpAny (model prog w) A (pyNext it) (fun r zu=>match r with
   | none=>R (.ok .next) zu
   | some v=>wpAny (model prog w) A (letOwnedTupleGo target it v) (fun _ zu=>wpAny (model prog w) A (assign target env v) (fun _ zx=>
     wpAny (model prog w) A (forIn ifs true fun c r=>if r=true then do let ok <- isTrue c env (eval c env);pure (ForInStep.yield ok) else pure (ForInStep.yield r)) (fun ok zw=>
      if ok=true then wpAny (model prog w) A (eval elt env) (fun x zo=>
       wpAny (model prog w) A (call (.builtin "list.append") [acc,x]) (fun _ zn=>∃ m,m<n/\I m zn) (notedBy (model prog w) A env fun e s'=>R (.error e) s') zo) (notedBy (model prog w) A env fun e s'=>R (.error e) s') zw
      else ∃ m,m<n/\I m zw) (notedBy (model prog w) A env fun e s'=>R (.error e) s') zx) (notedBy (model prog w) A env fun e s'=>R (.error e) s') zu) (notedBy (model prog w) A env fun e s'=>R (.error e) s') zu) (notedBy (model prog w) A env fun e s'=>R (.error e) s') s)(n:Nat)(h:I n s) :
  codeAny (model prog w) A (.compLoop (.ListComp elt [⟨target,iter,ifs,0⟩] scope pos) 0 it acc env) R s:=by
 refine codeAny_loop rfl I (fun n s hI=>?_) n h;show wpAny _ A ((compTurn (.ListComp elt [⟨target,iter,ifs,0⟩] scope pos) 0 it acc env).onRaise (fun x=>do noteFrame x env;theTreesLotGoes x)) _ _ s;refine wpAny_noted ?_;rw [compTurn_list];refine wpAny_bind (wpAny_standAt (wpAny_bind (wpAny_mono (turn n s hI) (fun r zu zr=>?_) fun _ _ h'=>h')))
 cases r with
 | none=>exact wpAny_pure zr
 | some v=>
  refine wpAny_bind (wpAny_mono zr (fun _ zu zr=>?_) fun _ _ h'=>h');refine wpAny_bind (wpAny_mono zr (fun _ zx zq=>wpAny_bind (wpAny_mono zq (fun ok zw zp=>?_) fun _ _ h'=>h')) fun _ _ h'=>h')
  cases ok with
  | false=>exact wpAny_pure ⟨rfl,zp⟩
  | true=>
   exact wpAny_bind (wpAny_bind (wpAny_mono zp (fun x zo zm=>wpAny_bind (wpAny_mono zm (fun _ zn zk=>wpAny_pure (wpAny_pure ⟨rfl,zk⟩)) fun _ _ h'=>h')) fun _ _ h'=>h'))
end
noncomputable def PIfs (X:Cx) (ifs:List Expr) (t:TT):Prop:=
 ∀ (pins:List (Addr×Obj)) (s:Shared) (Y:St) (H:Hp) (Q:Bool->Hp->Prop),Inv X pins Y H s->t Y H Q->
  wpAny 'b' X.A (forIn ifs true fun c r=>if r=true then do let ok <- isTrue c X.env (eval c X.env);pure (ForInStep.yield ok) else pure (ForInStep.yield r)) (TP X pins Y Q) X.xe s
noncomputable def tYes:TT:=fun _ H Q=>Q true H
theorem alX : PIfs X [] tYes:=fun _ _ _ H _ I h=>wpAny_tests_nil ⟨H,I,h⟩
theorem alY{c:Expr}{t:TT}(hc:PT X c t):PIfs X [c] t:=fun pins s Y H Q I h=>wpAny_tests_one (hc pins s Y H Q I h)
noncomputable def tComp (wi:TI) (k:Nat) (ixs:List Nat) (g:TG) (c:TT) (te:TE):TE:=fun Y H Q=>wi Y H fun J H1=>∀ D,H1 D=none->
 ∃ (n:Nat) (W:Nat->List V->St->Hp->Prop),W 0 [] (compStart k ixs Y) (A0 H1 D (.lst []))/\∀ i ys σ2 H2,W i ys σ2 H2->H2 D=some (.lst ys)->
  (J.stop i H2/\Q (.ref D) H2)\/
  (i<n/\J.go i H2/\∀ x H',J.yld i H2 x H'->g x σ2 H' fun σ3 H3=>c σ3 H3 fun b H4=>
   if b=true then te σ3 H4 fun y H5=>H5 D=some (.lst ys)/\ys.length<sizeLine/\W (i+1) (ys++[y]) σ3 (A0 H5 D (.lst (ys++[y])))
   else H4 D=some (.lst ys)/\W (i+1) ys σ3 H4)
section
variable {X:Cx} {sc:Scope} {N':List Str} {k:Nat} {ixs:List Nat}
theorem afv{pos:Pos}{J:It}(C:CompOk X.N X.env.scope.names sc N' k ixs)(L8:X.calm=true)(hg:∀ C zw zt fp pins,PG (N6 X sc N' C zw zt fp pins) target g)(hc:∀ C zw zt fp pins,PIfs (N6 X sc N' C zw zt fp pins) ifs c)(he:∀ C zw zt fp pins,PE (N6 X sc N' C zw zt fp pins) elt te){tn:Nat->Heap->Prop}(I:Inv X pins Y H s)(T:Turn X.prog X.w X.K target J fp it tn)(st:tn 0 s.heap)(hf:∀ b∈fp,FpOk X pins H b)(h:∀ D,H D=none->∃ (n:Nat) (W:Nat->List V->St->Hp->Prop),W 0 [] (compStart k ixs Y) (A0 H D (.lst []))/\∀ i ys σ2 H2,W i ys σ2 H2->H2 D=some (.lst ys)->
   (J.stop i H2/\Q (.ref D) H2)\/
   (i<n/\J.go i H2/\∀ x H',J.yld i H2 x H'->g x σ2 H' fun σ3 H3=>c σ3 H3 fun b H4=>
    if b=true then te σ3 H4 fun y H5=>H5 D=some (.lst ys)/\ys.length<sizeLine/\W (i+1) (ys++[y]) σ3 (A0 H5 D (.lst (ys++[y])))
    else H4 D=some (.lst ys)/\W (i+1) ys σ3 H4)){RR:Value->Addr->Result->Shared->Prop}(hRR:∀ D Cc (H':Hp) (s':Shared) (o:Obj) m,Inv X pins Y H' s'->Inv X (pins++[(Cc,o)]) Y H' s'->s'.heap.get? Cc=some o->s'.heap.Ns Cc m->H' Cc=none->Cc≠X.env.locals->X.s₀.heap.objs.size<=Cc->
   (∀ x c,X.env.cells.lookup x=some c->c≠Cc)->(∀ p∈X.pn++pins,p.1≠Cc)->Q (.ref D) H'->RR (.ref D) Cc (.ok .next) s') :
  wpAny 'b' X.A (newList []) (fun acc zw=>wpAny 'b' X.A (newFunctionEnv sc X.env.globals (cloOf X.env.cells sc.names []) [] X.env.qual none .none (some X.env)) (fun cenv zo=>
   codeAny 'b' X.A (.compStart (.ListComp elt [⟨target,iter,ifs,0⟩] sc pos) 0 (.ref it) acc { cenv with scope:=relabel sc X.env }) (RR acc cenv.locals) zo) E zw) E s:=by
 have fresh:=I.hok.fresh (B5 s.heap.objs.size);obtain ⟨n,W,w0,turn⟩:=h s.heap.objs.size fresh;have hfD:∀ b∈fp,b≠s.heap.objs.size:=fun b hb z=>by
  obtain ⟨o,e,_⟩:=T.obj _ _ st b hb;rw [z] at e;exact absurd (Heap.lt_size e) (g3 _)
 have hf3:∀ b∈fp,FpOk X pins (A0 H s.heap.objs.size (.lst [])) b:=fun b hb=>⟨by rw [B1 (hfD b hb)];exact (hf b hb).1,(hf b hb).2⟩
 have main:∀ (s3:Shared) (zr:Heap) (t1:Nat),Inv X pins Y (A0 H s.heap.objs.size (.lst [])) s3->(∀ b o,s.heap.get? b=some o->s3.heap.get? b=some o)->zr.Ns s3.heap.objs.size (fun x=>([]:List (Str×Value)).reverse.lookup x)->
   (∀ b o,s3.heap.get? b=some o->zr.get? b=some o)->
   tn 0 zr/\codeAny 'b' X.A (.compLoop (.ListComp elt [⟨target,iter,ifs,0⟩] sc pos) 0 (.ref it) (.ref s.heap.objs.size) (N6 X sc N' s3.heap.objs.size s3 (A0 H s.heap.objs.size (.lst [])) fp pins).env) (RR (.ref s.heap.objs.size) s3.heap.objs.size) { s3 with heap:=zr,toks:=t1 }:=by
  intro s3 zr t1 I3 k3 eW keep3;have eT:tn 0 s3.heap:=T.keep _ _ _ st fun b hb o e=>k3 b o e
  have ho3:∀ b∈fp,∃ o,s3.heap.get? b=some o:=fun b hb=>let ⟨o,e,_⟩:=T.obj _ _ eT b hb;⟨o,e⟩
  have vH:tn 0 zr:=T.keep _ _ _ eT fun b hb o e=>keep3 b o e
  have B0:Inv (N6 X sc N' s3.heap.objs.size s3 (A0 H s.heap.objs.size (.lst [])) fp pins) [] (compStart k ixs Y) (A0 H s.heap.objs.size (.lst [])) { s3 with heap:=zr,toks:=t1 }:=anT C I3 hf3 ho3 eW keep3;refine ⟨vH,?_⟩;have fpX:∀ {H':Hp},(∀ b∈fp,H' b=none)->∀ b∈fp,FpOk (N6 X sc N' s3.heap.objs.size s3 (A0 H s.heap.objs.size (.lst [])) fp pins) [] H' b:=fun {H'} hn b hb=>by
   obtain ⟨o,eo⟩:=ho3 b hb;refine ⟨hn b hb,O6 (Heap.lt_size eo),?_,.inl hb,?_,?_⟩
   .intro hm
    rcases E7.mp (I3.stkSub b hm) with z | z
    .exact (hf b hb).2.1 z
    .exact (hf b hb).2.2.1 z
   .intro x cc ec;exact (hf b hb).2.2.2.2.1 x cc (kC C I3 ec).1
   .intro p hp;exact (hf b hb).2.2.2.2.2 p (by simpa [N6] using hp)
  refine agz (fun m s'=>∃ i ys σ' H',m=n-i/\Inv (N6 X sc N' s3.heap.objs.size s3 (A0 H s.heap.objs.size (.lst [])) fp pins) [] σ' H' s'/\tn i s'.heap/\(∀ b∈fp,H' b=none)/\H' s.heap.objs.size=some (.lst ys)/\W i ys σ' H') ?_ n ⟨0,[],_,_,rfl,B0,vH,fun b hb=>(hf3 b hb).1,A5,w0⟩;rintro m s4 ⟨i,ys,σ4,H4,rfl,I4,st4,fr4,hD4,w4⟩;have again:∀ {i':Nat} {ys':List V} {σ7:St} {H7:Hp} {s6 s7:Shared},i<n->i'=i+1->tn i' s6.heap->Inv (N6 X sc N' s3.heap.objs.size s3 (A0 H s.heap.objs.size (.lst [])) fp pins) ([]++jU fp s6.heap) σ7 H7 s7->H7 s.heap.objs.size=some (.lst ys')->W i' ys' σ7 H7->
    ∃ m,m<n-i/\∃ i ys σ' H',m=n-i/\Inv (N6 X sc N' s3.heap.objs.size s3 (A0 H s.heap.objs.size (.lst [])) fp pins) [] σ' H' s7/\tn i s7.heap/\(∀ b∈fp,H' b=none)/\H' s.heap.objs.size=some (.lst ys)/\W i ys σ' H':=fun {i' ys' σ7 H7 s6 s7} C9 ei lQ I7 hD w=>by
   subst ei;refine ⟨n-(i+1),by lia,i+1,ys',σ7,H7,rfl,I7.unpinned,T.keep _ _ _ lQ fun b hb o e=>(I7.pin (b,o) (U7 _ (U7 _ (jV hb e)))).1,fun b hb=>?_,hD,w⟩;obtain ⟨o,e,_⟩:=T.obj _ _ lQ b hb;exact (I7.pin (b,o) (U7 _ (U7 _ (jV hb e)))).2.1
  rcases turn i ys σ4 H4 w4 hD4 with ⟨stop,q⟩ | ⟨C9,go,step⟩
  .refine B3 (T.done (N6 X sc N' s3.heap.objs.size s3 (A0 H s.heap.objs.size (.lst [])) fp pins) rfl rfl rfl L8 i [] s4 σ4 H4 _ I4 (fpX fr4) st4 stop) fun r s5 t6=>?_
   obtain ⟨hr,I5⟩:=t6;subst hr;have back:Inv X pins Y H4 s5:=I3.call' (ch:=fp) I5.os I5.base I5.hok I5.bare fun b hb=>⟨(hf b hb).2.2.2.1,(hf b hb).2.1,(hf b hb).2.2.2.2.1,(hf b hb).2.2.2.2.2⟩
   obtain ⟨mm,hn5,_⟩:=I5.loc;obtain ⟨o,es,ep,ho,hd,V4⟩:=id hn5;have hC:s3.heap.objs.size≠X.env.locals:=Nat.ne_of_gt I3.lt;refine hRR s.heap.objs.size s3.heap.objs.size H4 s5 o mm back ?_ ho hn5 I5.free hC I3.sz ?_ ?_ q
   .refine back.pins_of fun p hp=>?_
    rcases E1.mp hp with z | z
    .exact back.pin p (U7 _ z)
    .have e:p=(s3.heap.objs.size,o):=by simpa using z
     subst e;exact ⟨ho,I5.free,hC,I3.nofs (B5 _),fun v z=>by rw [hd] at z;cases z⟩
   .intro x c e z;obtain ⟨v,q⟩:=I3.cell x c e
    have:=q.lt
    rw [z] at this;exact g3 _ this
   .intro p hp z
    have:=Heap.lt_size (I3.pin p hp).1
    rw [z] at this;exact g3 _ this
  .refine B3 (T.item (N6 X sc N' s3.heap.objs.size s3 (A0 H s.heap.objs.size (.lst [])) fp pins) rfl rfl rfl L8 i [] s4 σ4 H4 _ I4 (fpX fr4) st4 go) fun r s5 t6=>?_
   obtain ⟨u,hr,h5⟩:=t6;subst hr;refine B3 h5 fun _ s6 h6=>?_
   obtain ⟨x,H6,I6,r6,y6,lQ,fr6⟩:=h6;have I6':=I6.pinned (fpX fr6) (T.obj _ _ lQ);refine wpAny_mono (hg _ _ _ _ _ _ s6 σ4 H6 x u _ I6' r6 (step x H6 y6)) (fun _ s7 h7=>?_) fun _ _ z=>False.elim z
   obtain ⟨σ7,H7,I7,q7⟩:=h7;refine wpAny_mono (hc _ _ _ _ _ _ s7 σ7 H7 _ I7 q7) (fun ok s8 h8=>?_) fun _ _ z=>False.elim z
   obtain ⟨H8,I8,q8⟩:=h8
   cases ok with
   | false=>
    rw [if_neg M4] at q8 ⊢
    exact again C9 rfl lQ I8 q8.1 q8.2
   | true=>
    rw [if_pos rfl] at q8 ⊢
    refine wpAny_mono (he _ _ _ _ _ _ s8 σ7 H8 _ I8 q8) (fun y s9 h9=>?_) fun _ _ z=>False.elim z
    obtain ⟨yv,H9,I9,r9,hD9,hz9,w9⟩:=h9;refine wpAny_mono (agu (X:=(N6 X sc N' s3.heap.objs.size s3 (A0 H s.heap.objs.size (.lst [])) fp pins)) _ s9 σ7 H9 (.ref s.heap.objs.size) [yv] (.ref s.heap.objs.size) [y] (fun _ H'=>H'=A0 H9 s.heap.objs.size (.lst (ys++[yv]))) I9 rfl (.cons r9 .nil) ⟨_,ys,yv,rfl,rfl,hD9,hz9,rfl⟩) (fun _ s10 h10=>?_) fun _ _ z=>False.elim z
    obtain ⟨_,Q4,I10,_,e10⟩:=h10;subst e10;exact again C9 rfl lQ I10 A5 w9
 have I3:=I.lnew (ys:=[]) (its:=[]) (t':=s.toks) .nil (F9 _);refine wpAny_newObj_type (wpAny_newFunctionEnv C.cell (by intro y hy;simp at hy) (fun zr zj zi=>?_) C.kind);obtain ⟨vH,loop⟩:=main _ zr (s.toks+([]:List (Str×Value)).length) I3 (fun b o e=>Heap.get?_push_of_some _ e) zj fun b o e=>zi.extBut b o (O6 (Heap.lt_size e)) (Heap.get?_push_of_some _ e)
 exact codeAny_compStart_list loop (T.self X.A 0 _ _ _ vH loop)
theorem anU{pos:Pos}{wi:TI}(C:CompOk X.N X.env.scope.names sc N' k ixs)(L8:X.calm=true)(hi:PI X target iter wi)(hg:∀ C zw zt fp pins,PG (N6 X sc N' C zw zt fp pins) target g)(hc:∀ C zw zt fp pins,PIfs (N6 X sc N' C zw zt fp pins) ifs c)(he:∀ C zw zt fp pins,PE (N6 X sc N' C zw zt fp pins) elt te)(hs:∀ x,foldedSetIterable iter X.env x=pure x:=by intro _;rfl):PE X (.ListComp elt [⟨target,iter,ifs,0⟩] sc pos) (tComp wi k ixs g c te):=by
 sleep 1;rw [eval_ListComp];refine wpAny_comprehension_free (use:=none) rfl hs (adA fun x hx hf=>I.ok.has x.1 (C.free x hx hf)) C.kind C.names (B3 (hi pins s Y H _ I h) fun v s1 h1=>B3 h1 fun itv s2 h2=>?_);obtain ⟨it,fp,tn,J,H2,e,I2,T,pR,f2,q2⟩:=h2;subst e;refine afv (RR:=fun acc C=>compPost 'b' X.A X.xe none (EP X pins Y Q) acc C) C L8 hg hc he I2 T pR f2 q2 ?_;intro D Cc H' s' o m I' _ ho hn hC hL V5 N8 iM q;exact ⟨m,hn,fun h'' hs''=>⟨.ref D,H',I'.turned (t':=s'.toks) (fun b o hb e=>hs''.extBut b o hb e) hC hL (.inr V5) N8 iM,rfl,q⟩⟩
theorem ajc{pos py:Pos}{wi:TI}{y:Str}(hN:X.N.Nodup)(hiN:X.N[i]?=some y)(hx:o7 X.env.scope y)(C:CompOk X.N X.env.scope.names sc N' k ixs)(L8:X.calm=true)(hi:PI X target iter wi)(hg:∀ C zw zt fp pins,PG (N6 X sc N' C zw zt fp pins) target g)(hc:∀ C zw zt fp pins,PIfs (N6 X sc N' C zw zt fp pins) ifs c)(he:∀ C zw zt fp pins,PE (N6 X sc N' C zw zt fp pins) elt te)(pZ:swapsWith (.ListComp elt [⟨target,iter,ifs,0⟩] sc pos) (some (.Name y py)) spos.line X.env=pure true:=by rfl)(hf:X.fn y=true\/X.env.scope.names.lookup y=some .local:=by first | exact .inl rfl | exact .inr rfl | assumption)(hs:∀ x,foldedSetIterable iter X.env x=pure x:=by intro _;rfl):PS X (.Assign [.Name y py] (.ListComp elt [⟨target,iter,ifs,0⟩] sc pos) spos) (tAsg (tComp wi k ixs g c te) (gName i)):=by
 intro pins s Y H D I h;rw [exec_Assign_Name_used _ _ _ _ pZ];refine wpAny_bind (wpAny_standAt (wpAny_bind ?_));show wpAny _ X.A (do let _ <- comprehension (.ListComp elt [⟨target,iter,ifs,0⟩] sc pos) sc X.env _ (newList []) false (eval iter X.env) (some (assign (.Name y py) X.env))) _ _ s;refine wpAny_bind (wpAny_mono (wpAny_comprehension_free (use:=some (assign (.Name y py) X.env)) (Q:=fun _ s'=>SP X pins D .next s') rfl hs (adA fun x hx hf=>I.ok.has x.1 (C.free x hx hf)) C.kind C.names
  (B3 (hi pins s Y H _ I h) fun v s1 h1=>B3 h1 fun itv s2 h2=>?_)) (fun _ s' hq=>wpAny_pure (wpAny_pure hq)) fun _ _ e=>e)
 obtain ⟨it,fp,tn,J,H2,e,I2,T,pR,f2,q2⟩:=h2;subst e;refine afv (Q:=fun x H1=>gName i x Y H1 D.nx) (RR:=fun acc C=>compPost 'b' X.A X.xe (some (assign (.Name y py) X.env)) (fun _ s'=>SP X pins D .next s') acc C) C L8 hg hc he I2 T pR f2 q2 ?_;intro Da Cc H' s' o m _ Ip ho hn hC hL V5 N8 iM q;show wpAny _ X.A (assign (.Name y py) X.env (.ref Da)) _ _ _;refine wpAny_assign_Name (sC (v:=.ref Da) Ip hN hiN hx rfl (fun s'' I''=>?_) hf);have hC2:=(I''.pin (Cc,o) (U7 _ (U7 _ (F6.mpr rfl)))).1;refine ⟨m,hn.at' fun o' e'=>?_,fun h'' hs''=>?_⟩
 .rw [ho] at e';cases e';exact hC2
 .have I3:Inv X pins (Y.set i (some (.ref Da))) H' s'':=I''.unpinned;exact ⟨_,H',I3.turned (t':=s''.toks) (fun b o hb e=>hs''.extBut b o hb e) hC hL (.inr V5) N8 iM,q⟩
end
end L2
end
namespace L2
open PySem PySem.Spec PyProof.Rows
section
variable {X:Cx} {a b:Expr} {ta tb:TE} {pos:Pos} {rest:List Expr}
noncomputable def tTru (K:PySem.W.Frag) (te:TE):TT:=fun Y H Q=>te Y H fun x H1=>∃ k,TruV K x H1 k/\Q k H1
theorem aqJ(ha:PE X a ta)(he:∀ whole,isTrue a X.env whole=(do let v <- whole;standAt a.pos;holding [v] (truthy v)):=by intro _;rfl):PT X a (tTru X.K ta):=alH ha he
noncomputable def tNotT (K:PySem.W.Frag) (te:TE):TE:=fun Y H Q=>te Y H fun x H1=>∃ k,TruV K x H1 k/\Q (.bl (!k)) H1
theorem anV(ha:PE X a ta):PE X (.UnaryOp .Not a pos) (tNotT X.K ta):=by
 sleep 1;refine UnaryOp_ (B3 (ha pins s Y H _ I h) fun v s1 ⟨x,H1,I1,r1,q1⟩=>?_);exact not_of (B3 (amY pins s1 Y H1 x v (fun k H2=>Q (.bl (!k)) H2) I1 r1 q1) fun c s2 ⟨H2,I2,q2⟩=>⟨.bl (!c),H2,I2,rfl,q2⟩)
end
mutual
inductive Dn (K:PySem.W.Frag) (H:Hp):V->PyData->Prop
 | non:Dn K H .non .none
 | bl (b):Dn K H (.bl b) (.bool b)
 | int (i):Dn K H (.int i) (.int i)
 | str (x):W0 x=true->Dn K H (.str x) (.str x)
 | lst {a xs ds} : D9 K H a xs->DnAll K H xs ds->Dn K H (.ref a) (.list ds)
 | tup {a xs ds} : C6 K H a xs->DnAll K H xs ds->Dn K H (.ref a) (.tuple ds)
inductive DnAll (K:PySem.W.Frag) (H:Hp):List V->List PyData->Prop
 | nil:DnAll K H [] []
 | cons {x xs d ds} : Dn K H x d->DnAll K H xs ds->DnAll K H (x::xs) (d::ds)
end
section
variable {X:Cx} {pins:List (Addr×Obj)} {Y:St} {H:Hp} {s:Shared}
mutual
theorem Dn.reads{K:PySem.W.Frag}{x:V}{d:PyData}(I:Inv X pins Y H s)(hK:X.K=K):Dn K H x d->∀ {u:Value},RelV x u->d.canLay0=true/\∃ as,Reads s.heap u d as
 | .non,u,r=>by cases r;exact ⟨rfl,_,.none⟩
 | .bl b,u,r=>by cases r;exact ⟨rfl,_,.bool b⟩
 | .int i,u,r=>by obtain ⟨t,rfl⟩:=r;exact ⟨rfl,_,.int i t⟩
 | .str x hx,u,r=>by obtain ⟨t,rfl⟩:=r;exact ⟨hx,_,.str x t⟩
 | .lst (a:=a) q hs,u,r=>by
  cases r
  subst hK;obtain ⟨its,rv,⟨o,n,e,c,_,dd⟩,_⟩:=I.list q;obtain ⟨h1,as,h2⟩:=DnAll.reads I rfl hs rv;exact ⟨h1,_,.list e c dd (by simpa using h2)⟩
 | .tup (a:=a) q hs,u,r=>by
  cases r
  subst hK;obtain ⟨its,rv,⟨o,e,c,n,dd⟩,_⟩:=I.tuple q;obtain ⟨h1,as,h2⟩:=DnAll.reads I rfl hs rv;exact ⟨h1,_,.tuple e c dd (by simpa using h2)⟩
theorem DnAll.reads{K:PySem.W.Frag}{xs:List V}{ds:List PyData}(I:Inv X pins Y H s)(hK:X.K=K):DnAll K H xs ds->∀ {us:List Value},Vals xs us->PyData.canLayAll0 ds=true/\∃ as,ReadsAll s.heap us ds as
 | .nil,us,r=>by cases r;exact ⟨rfl,_,.nil⟩
 | .cons h t,us,r=>by
  cases r with
  | cons r1 r2=>
   obtain ⟨c1,a1,q1⟩:=Dn.reads I hK h r1;obtain ⟨c2,a2,q2⟩:=DnAll.reads I hK t r2;exact ⟨by simp [PyData.canLayAll0,c1,c2],_,.cons q1 q2⟩
end
end
mutual
theorem Dn.same{K:PySem.W.Frag}{H H':Hp}(hs:Same H H'){x:V}{d:PyData} : Dn K H x d->Dn K H' x d
 | .non=>.non
 | .bl b=>.bl b
 | .int i=>.int i
 | .str x h=>.str x h
 | .lst q h=>.lst (hs.seq q) (DnAll.same hs h)
 | .tup (a:=a) (xs:=xs) q h=>.tup (by
   rcases q with (q | ⟨o,q⟩) | q
   .exact .inl (.inl (hs _ _ q))
   .exact .inl (.inr ⟨o,hs _ _ q⟩)
   .exact .inr q) (DnAll.same hs h)
theorem DnAll.same{K:PySem.W.Frag}{H H':Hp}(hs:Same H H'){xs:List V}{ds:List PyData} : DnAll K H xs ds->DnAll K H' xs ds
 | .nil=>.nil
 | .cons h t=>.cons (Dn.same hs h) (DnAll.same hs t)
end
theorem j8{K:PySem.W.Frag}{H:Hp} : ∀ {zs:List Str},(∀ z∈zs,W0 z=true)->DnAll K H (zs.map V.str) (zs.map PyData.str)
 | [],_=>.nil
 | z::zs,h=>.cons (.str z (h z O0)) (j8 fun y hy=>h y (N4 _ hy))
theorem g7{K:PySem.W.Frag}{H:Hp} : ∀ {zs:List Int},DnAll K H (zs.map V.int) (zs.map bV)
 | []=>.nil
 | z::zs=>.cons (.int z) g7
theorem xJ:∀ (xs ys:List Str),Y9 (xs.map PyData.str) (ys.map PyData.str)=decide (xs=ys)
 | [],[]=>by simp [Y9]
 | [],_::_=>by simp [Y9]
 | _::_,[]=>by simp [Y9]
 | x::xs,y::ys=>by
  rw [K5,K5,Y9,xJ xs ys];rw [show P7 (.str x) (.str y)=(x==y) by simp [P7]]
  by_cases h1:x=y
  .subst h1;simp
  .simp [h1]
theorem kD:∀ (xs ys:List Int),Y9 (xs.map bV) (ys.map bV)=decide (xs=ys)
 | [],[]=>by simp [Y9]
 | [],_::_=>by simp [Y9]
 | _::_,[]=>by simp [Y9]
 | x::xs,y::ys=>by
  rw [K5,K5,Y9,kD xs ys];rw [show P7 (.int x) (.int y)=(x==y) by simp [P7]]
  by_cases h1:x=y
  .subst h1;simp
  .simp [h1]
noncomputable def rAddR (K:PySem.W.Frag) (a b:Addr) (H:Hp) (Q:VK):Prop:=rCat (.ref a) (.ref b) H Q\/rCatT K (.ref a) (.ref b) H Q
theorem rAddR.l{K:PySem.W.Frag}{a b:Addr}{H:Hp}{Q:VK}{xs ys:List V}(h1:H a=some (.lst xs))(h2:H b=some (.lst ys))(h3:xs.length+ys.length<=sizeLine)(h:∀ p,H p=none->Q (.ref p) (A0 H p (.lst (xs++ys)))):rAddR K a b H Q:=.inl ⟨a,b,xs,ys,rfl,rfl,h1,h2,h3,h⟩
theorem rAddR.t{K:PySem.W.Frag}{a b:Addr}{H:Hp}{Q:VK}{xs ys:List V}(h1:C6 K H a xs)(h2:C6 K H b ys)(h0:xs≠[])(h3:xs.length+ys.length<=sizeLine)(he:ys=[]->Q (.ref a) H)(h:ys≠[]->∀ p,H p=none->Q (.ref p) (A0 H p (.tup (xs++ys)))):rAddR K a b H Q:=.inr ⟨a,b,xs,ys,rfl,rfl,h1,h2,h0,h3,he,h⟩
noncomputable def rAddU (K:PySem.W.Frag):V->V->Hp->VK->Prop
 | .int i,.int j,H,Q=>Q (.int (i+j)) H
 | .str i,.str j,H,Q=>i.length+j.length<=sizeLine/\Q (.str (i++j)) H
 | .ref a,.ref b,H,Q=>rAddR K a b H Q
 | _,_,_,_=>False
noncomputable def rMulU:V->V->Hp->VK->Prop
 | .int i,.int j,H,Q=>CMul i j/\Q (.int (i*j)) H
 | .ref a,.int j,H,Q=>rRep (.ref a) (.int j) H Q
 | _,_,_,_=>False
noncomputable def rEqU (K:PySem.W.Frag):V->V->Hp->VK->Prop
 | .int i,.int j,H,Q=>Q (.bl (decide (i=j))) H
 | .str i,.str j,H,Q=>Q (.bl (decide (i=j))) H
 | .bl i,.bl j,H,Q=>Q (.bl (decide (i=j))) H
 | x,y,H,Q=>∃ d e,Dn K H x d/\Dn K H y e/\min d.depth e.depth<=60/\Q (.bl (P7 d e)) H
noncomputable def rNeU (K:PySem.W.Frag):V->V->Hp->VK->Prop
 | .int i,.int j,H,Q=>Q (.bl (!decide (i=j))) H
 | .str i,.str j,H,Q=>Q (.bl (!decide (i=j))) H
 | .bl i,.bl j,H,Q=>Q (.bl (!decide (i=j))) H
 | x,y,H,Q=>∃ d e,Dn K H x d/\Dn K H y e/\min d.depth e.depth<=60/\Q (.bl (!PyData.eqv d e)) H
noncomputable def rLtU:V->V->Hp->VK->Prop
 | .int i,.int j,H,Q=>Q (.bl (decide (i<j))) H
 | .str i,.str j,H,Q=>Q (.bl (decide (i.cps.toList<j.cps.toList))) H
 | _,_,_,_=>False
noncomputable def rLeU:V->V->Hp->VK->Prop
 | .int i,.int j,H,Q=>Q (.bl (decide (i<=j))) H
 | .str i,.str j,H,Q=>Q (.bl (!decide (j.cps.toList<i.cps.toList))) H
 | _,_,_,_=>False
noncomputable def rGtU:V->V->Hp->VK->Prop
 | .int i,.int j,H,Q=>Q (.bl (decide (j<i))) H
 | .str i,.str j,H,Q=>Q (.bl (decide (j.cps.toList<i.cps.toList))) H
 | _,_,_,_=>False
noncomputable def rGeU:V->V->Hp->VK->Prop
 | .int i,.int j,H,Q=>Q (.bl (decide (j<=i))) H
 | .str i,.str j,H,Q=>Q (.bl (!decide (i.cps.toList<j.cps.toList))) H
 | _,_,_,_=>False
noncomputable def rInR (K:PySem.W.Frag) (neg:Bool) (x:V) (p:Addr) (H:Hp) (Q:VK):Prop:=wX K neg x (.ref p) H Q\/∃ o,DGet H p x o/\Q (.bl (neg.xor o.isSome)) H
theorem rInR.l{K:PySem.W.Frag}{neg:Bool}{x:V}{p:Addr}{H:Hp}{Q:VK}{xs:List V}(h1:D9 K H p xs\/C6 K H p xs)(h2:flatV x=true)(h3:xs.all flatV=true)(h:Q (.bl (neg.xor (dW x xs))) H):rInR K neg x p H Q:=.inl ⟨p,xs,rfl,h1,h2,h3,by cases neg <;> simpa using h⟩
theorem rInR.d{K:PySem.W.Frag}{neg:Bool}{x:V}{p:Addr}{H:Hp}{Q:VK}{o:Option V}(h1:DGet H p x o)(h:Q (.bl (neg.xor o.isSome)) H):rInR K neg x p H Q:=.inr ⟨o,h1,h⟩
noncomputable def rInU (K:PySem.W.Frag) (neg:Bool) (x:V):V->Hp->VK->Prop
 | .str j,H,Q=>∃ i,x=.str i/\Q (.bl (neg.xor (!(Builtin.Str.occurrences j i 0 j.length 1).isEmpty))) H
 | .ref p,H,Q=>rInR K neg x p H Q
 | _,_,_=>False
section
variable {X:Cx} {pins:List (Addr×Obj)} {Y:St} {H:Hp} {s:Shared}
theorem p_add:L0 X (binaryOp .Add) (rAddU X.K):=by
 sleep 0
 cases x <;> cases y <;> try exact h.elim
 .exact aql pins s Y H _ _ v u Q I rx ry ⟨_,_,rfl,rfl,h⟩
 .exact ai3 pins s Y H _ _ v u Q I rx ry ⟨_,_,rfl,rfl,h⟩
 .rcases h with h | h
  .exact aqE pins s Y H _ _ v u Q I rx ry h
  .exact aj5 pins s Y H _ _ v u Q I rx ry h
theorem p_sub:L0 X (binaryOp .Sub) (aP fun i j=>.int (i-j)):=aqm
theorem p_mul:L0 X (binaryOp .Mult) rMulU:=by
 sleep 0
 cases x <;> cases y <;> try exact h.elim
 .exact aqn pins s Y H _ _ v u Q I rx ry ⟨_,_,rfl,rfl,h⟩
 .exact aqF pins s Y H _ _ v u Q I rx ry h
theorem aqK:L0 X (binaryOp .FloorDiv) (rI CDiv fun i j=>.int (i / j)):=anA
theorem p_mod:L0 X (binaryOp .Mod) (rI (fun _ j=>0<j) fun i j=>.int (i % j)):=aqo
theorem sO(hu:X.A.units+64<cLine){x y:V}{v u:Value}{Q:VK}(I:Inv X pins Y H s)(rx:RelV x v)(ry:RelV y u)(h:∃ d e,Dn X.K H x d/\Dn X.K H y e/\min d.depth e.depth<=60/\Q (.bl (P7 d e)) H):wpAny 'b' X.A (compareOp .Eq v u) (EP X pins Y Q) X.xe s:=by
 obtain ⟨d,e,h1,h2,hd,q⟩:=h;obtain ⟨c1,as,r1⟩:=h1.reads I rfl rx;obtain ⟨c2,bs,r2⟩:=h2.reads I rfl ry;exact SeqAt.compareEq_reads r1 r2 c1 c2 'a' ⟨.bl _,H,I,rfl,q⟩
theorem sP(hu:X.A.units+64<cLine){x y:V}{v u:Value}{Q:VK}(I:Inv X pins Y H s)(rx:RelV x v)(ry:RelV y u)(h:∃ d e,Dn X.K H x d/\Dn X.K H y e/\min d.depth e.depth<=60/\Q (.bl (!PyData.eqv d e)) H):wpAny 'b' X.A (compareOp .NotEq v u) (EP X pins Y Q) X.xe s:=by
 obtain ⟨d,e,h1,h2,hd,q⟩:=h;obtain ⟨c1,as,r1⟩:=h1.reads I rfl rx;obtain ⟨c2,bs,r2⟩:=h2.reads I rfl ry;exact SeqAt.compareNe_reads r1 r2 c1 c2 'a' ⟨.bl _,H,I,rfl,q⟩
theorem p_eq(hu:X.A.units+64<cLine):L0 X (compareOp .Eq) (rEqU X.K):=by
 sleep 0;have sc:∀ {x y:V},rEq x y H Q->RelV x v->RelV y u->wpAny 'b' X.A (compareOp .Eq v u) (EP X pins Y Q) X.xe s:=fun {x y} h rx ry=>op_eq pins s Y H x y v u Q I rx ry h
 cases x with
 | int i=>cases y with
  | int j=>exact sc (x:=.int i) (y:=.int j) ⟨rfl,by simpa using (show Q (.bl (decide (i=j))) H from h)⟩ rx ry
  | _=>exact sO hu I rx ry h
 | str i=>cases y with
  | str j=>exact sc (x:=.str i) (y:=.str j) ⟨rfl,by simpa using (show Q (.bl (decide (i=j))) H from h)⟩ rx ry
  | _=>exact sO hu I rx ry h
 | bl i=>cases y with
  | bl j=>exact sc (x:=.bl i) (y:=.bl j) ⟨rfl,by simpa using (show Q (.bl (decide (i=j))) H from h)⟩ rx ry
  | _=>exact sO hu I rx ry h
 | _=>cases y <;> exact sO hu I rx ry h
theorem p_ne(hu:X.A.units+64<cLine):L0 X (compareOp .NotEq) (rNeU X.K):=by
 sleep 0;have sc:∀ {x y:V},rNe x y H Q->RelV x v->RelV y u->wpAny 'b' X.A (compareOp .NotEq v u) (EP X pins Y Q) X.xe s:=fun {x y} h rx ry=>op_ne pins s Y H x y v u Q I rx ry h
 cases x with
 | int i=>cases y with
  | int j=>exact sc (x:=.int i) (y:=.int j) ⟨rfl,by simpa using (show Q (.bl (!decide (i=j))) H from h)⟩ rx ry
  | _=>exact sP hu I rx ry h
 | str i=>cases y with
  | str j=>exact sc (x:=.str i) (y:=.str j) ⟨rfl,by simpa using (show Q (.bl (!decide (i=j))) H from h)⟩ rx ry
  | _=>exact sP hu I rx ry h
 | bl i=>cases y with
  | bl j=>exact sc (x:=.bl i) (y:=.bl j) ⟨rfl,by simpa using (show Q (.bl (!decide (i=j))) H from h)⟩ rx ry
  | _=>exact sP hu I rx ry h
 | _=>cases y <;> exact sP hu I rx ry h
theorem p_lt:L0 X (compareOp .Lt) rLtU:=by
 sleep 0
 cases x <;> cases y <;> try exact h.elim
 .exact op_lt pins s Y H _ _ v u Q I rx ry ⟨_,_,rfl,rfl,h⟩
 .exact agk pins s Y H _ _ v u Q I rx ry ⟨_,_,rfl,rfl,h⟩
theorem p_le:L0 X (compareOp .LtE) rLeU:=by
 sleep 0
 cases x <;> cases y <;> try exact h.elim
 .exact op_le pins s Y H _ _ v u Q I rx ry ⟨_,_,rfl,rfl,h⟩
 .obtain ⟨t,rfl⟩:=rx;obtain ⟨t',rfl⟩:=ry;exact PySem.P.le_str ⟨.bl _,H,I,by simp [RelV],h⟩
theorem p_gt:L0 X (compareOp .Gt) rGtU:=by
 sleep 0
 cases x <;> cases y <;> try exact h.elim
 .exact op_gt pins s Y H _ _ v u Q I rx ry ⟨_,_,rfl,rfl,h⟩
 .obtain ⟨t,rfl⟩:=rx;obtain ⟨t',rfl⟩:=ry;exact PySem.P.gt_str ⟨.bl _,H,I,rfl,h⟩
theorem p_in(hu:X.A.units+64<cLine):L0 X (compareOp .In) (rInU X.K false):=by
 sleep 0
 cases y with
 | str j=>
  obtain ⟨i,rfl,q⟩:=h;exact ajW pins s Y H _ _ v u Q I rx ry ⟨i,j,rfl,rfl,by simpa using q⟩
 | ref p=>
  rcases h with h | ⟨o,g,q⟩
  .exact aj8 pins s Y H _ _ v u Q I rx ry h
  .obtain rfl:u=Value.ref p:=ry;exact d_in 'a' I g rx fun s3 I3=>⟨.bl o.isSome,H,I3,rfl,by simpa using q⟩
 | _=>exact h.elim
theorem anW(hu:X.A.units+64<cLine):L0 X (compareOp .NotIn) (rInU X.K true):=by
 sleep 0
 cases y with
 | str j=>
  obtain ⟨i,rfl,q⟩:=h;exact agr pins s Y H _ _ v u Q I rx ry ⟨i,j,rfl,rfl,by simpa using q⟩
 | ref p=>
  rcases h with h | ⟨o,g,q⟩
  .exact agq pins s Y H _ _ v u Q I rx ry h
  .obtain rfl:u=Value.ref p:=ry;exact anP 'a' I g rx fun s3 I3=>⟨.bl (!o.isSome),H,I3,rfl,by simpa using q⟩
 | _=>exact h.elim
noncomputable def cutS (x:Str) (lo hi:Option Int):Str:=⟨((x.cps.toList.drop (HT.sIx x.length 0 lo)).take (HT.sIx x.length x.length hi-HT.sIx x.length 0 lo)).toArray⟩
noncomputable def rSlS:V->Option Int->Option Int->Hp->VK->Prop:=fun x lo hi H Q=>∃ z,x=.str z/\z.length<=sizeLine/\Q (.str (cutS z lo hi)) H
end
end L2
variable {C a b f fa it l1 l2 ll md ml r sl:PySem.Addr}{dvs vs xs ys:List L2.V}{Q:L2.VK}{cd ct oc pm u v vl vu:PySem.Value}{ck i j k m n t' x1:Nat}{items items2:Array PySem.Value}{fr ns:List Int}{its its' us:List PySem.Value}{pins:List (PySem.Addr×PySem.Obj)}{Y:L2.St}{H H' H0 H1 H2 H3 zt:L2.Hp}{s zw:PySem.Shared}{name p q qual z:PySem.Str}{A:PySem.Around}{v' x y:L2.V}{h h':PySem.Heap}{L M N N' S acc bad g' ks line loose ls ms ps qs ts zs:List PySem.Str}{K:PySem.W.Frag}{mg:PySem.Str->Option PySem.Value}{fd:PySem.FuncData}{sp:L2.Sp}{X:L2.Cx}{kvs:List (L2.C5×L2.V)}{prog:PySem.Program}{E:PySem.Value->PySem.Shared->Prop}{ixs pre:List Nat}{e elt iter target tg:PySem.Expr}{elts ifs:List PySem.Expr}{g:L2.TG}{c:L2.TT}{td te ti tl to tx ty:L2.TE}{fp l₁ rs:List PySem.Addr}{apos cpos kpos spos tpos:PySem.Pos}{bh calm fg neg:Bool}{st:PySem.Stmt}{an od:Option PySem.Addr}{tb:L2.TS}{D:L2.Ends}{lo:Int}{o:PySem.Obj}{ta:L2.TA}{ss:Array (Option PySem.Value)}
namespace L2
open PySem PySem.Spec PyProof.Rows
section
variable {X:Cx}
theorem akj(x:Str)(lo hi:Option Int):Txt.slice x lo hi=cutS x lo hi:=by
 have c1:∀ (o:Option Int) (d:Nat),(match o with | none=>(d:Int) | some i=>if (1:Int) > 0 then max 0 (min (if i<0 then i+(x.length:Int) else i) (x.length:Int)) else max (-1) (min (if i<0 then i+(x.length:Int) else i) ((x.length:Int)-1)))=((HT.sIx x.length d o:Nat):Int):=by
  intro o d
  cases o with
  | none=>rfl
  | some i=>
   rw [<- HT.clip_eq i x.length d];simp only [show ((1:Int) > 0)=True by simp,if_true]
   split <;> lia
 have h2:Builtin.Str.strSliceIndices lo hi 1 x.length=Builtin.Str.strSliceIndices (some ((HT.sIx x.length 0 lo:Nat):Int)) (some ((HT.sIx x.length x.length hi:Nat):Int)) 1 x.length:=by
  have e1:=c1 lo 0;have e2:=c1 hi x.length;have e3:=c1 (some ((HT.sIx x.length 0 lo:Nat):Int)) 0;have e4:=c1 (some ((HT.sIx x.length x.length hi:Nat):Int)) x.length;have l1:=HT.sIx_le x.length 0 (F9 _) lo;have l2:=HT.sIx_le x.length x.length (B5 _) hi;rw [HT.sIx_nat,bR l1] at e3;rw [HT.sIx_nat,bR l2] at e4;unfold Builtin.Str.strSliceIndices
  dsimp only at e3 e4 ⊢
  rw [e3,e4];clear e3 e4 l1 l2;refine congr (congr (congrArg sliceRange ?_) ?_) rfl
  .cases lo with
   | none=>exact e1
   | some i=>exact e1
  .cases hi with
   | none=>exact e2
   | some i=>exact e2
 have l1:=HT.sIx_le x.length 0 (F9 _) lo;have l2:=HT.sIx_le x.length x.length (B5 _) hi;unfold Txt.slice cutS;rw [h2];generalize HT.sIx x.length 0 lo=a at *;generalize HT.sIx x.length x.length hi=b at *;have len:x.length=x.cps.toList.length:=by simp [Str.length]
 by_cases V5:a<=b
 .rw [StrLaws.sliced_plain x V5 l2,StrLaws.strSliceIndices_plain V5 l2]
  split
  .rename_i hc
   have bD:b-a=x.length:=by simpa using hc
   have ha:a=0:=by lia
   subst ha;rw [List.drop_zero,aH 'a']
  .rfl
 .have e:Builtin.Str.strSliceIndices (some (a:Int)) (some (b:Int)) 1 x.length=[]:=by
   have h1:¬ ((a:Int)<0):=by lia
   have h2:¬ ((b:Int)<0):=by lia
   have e1:max (0:Int) (min (a:Int) (x.length:Int))=a:=by lia
   have e2:max (0:Int) (min (b:Int) (x.length:Int))=b:=by lia
   simp only [Builtin.Str.strSliceIndices,sliceRange,h1,h2,if_false,e1,e2,show ((1:Int) > 0)=True from by simp,if_true];rw [if_neg 'a'];rfl
  rw [e,show b-a=0 by lia,j4]
  split
  .rename_i hc
   have bD:0=x.length:=by simpa using hc
   have:x.cps.toList=[]:=List.eq_nil_of_length_eq_zero 'a'
   obtain ⟨⟨l⟩⟩:=x;simp at this;subst this;rfl
  .rfl
theorem aqL:jX X rSlS:=by
 intro pins s Y H x v vl vu lo hi sl Q I rx hs pl pu h;obtain ⟨z,rfl,hz,q⟩:=h;obtain ⟨t,rfl⟩:=rx;refine ⟨"str",_,F.slot_str_getitem.lookup,typeIs_str _ _ _,?_⟩;rw [<- akj] at q;have part:∀ {u:Value} {o:Option Int},IsPart u o->∃ l:Option (Int×Tok),u=partValue l/\l.map (·.1)=o:=fun {u o} p=>by
  cases p with
  | none=>exact ⟨none,rfl,rfl⟩
  | int i t=>exact ⟨some (i,t),rfl,rfl⟩
 obtain ⟨l,rfl,el⟩:=part pl;obtain ⟨u,rfl,eu⟩:=part pu;subst el eu;refine wpAny_getItem_str_slice (l:=l) (u:=u) (st:=none) hs rfl ?_;exact post_val_or_str ⟨K6 (Txt.slice_le z _ _) hz,fun t' k=>⟨.str _,H,I.tok _,⟨t',rfl⟩,q⟩⟩
theorem ad2{w:World}{t:Addr}{lo hi:Option Int}{Q:Value->Shared->Prop}(ht:IsTup s.heap t items)(hs:s.heap.IsSliceOf sl vl vu .none)(pl:IsPart vl lo)(pu:IsPart vu hi)(hw:HT.sIx items.size 0 lo=0/\HT.sIx items.size items.size hi=items.size)(h:Q (.ref t) s):wpAny (model prog w) A (getItem (.ref t) (.ref sl)) Q E s:=by
 obtain ⟨os,bE,vG,pT⟩:=id hs;have hTs:s.TypeIs (.ref sl) "slice":=⟨os,bE,vG⟩
 unfold getItem
 try with_reducible refine wpAny_holding ?_
 first | refine wpAny_bind (wpAny_pure ?_) | skip
 refine wpAny_bind (wpAny_sequenceKey ht.typeIs 'h' ?_);refine wpAny_bind (wpAny_callSpecial?_slot (name:=Str.ofString "__getitem__") ht.typeIs PyProof.Rows.slot_tuple_getitem
  (wpAny_call_entry PyProof.Rows.slot_tuple_getitem ht.typeIs PyProof.Rows.entry_tuple_getitem ?_ (PyProof.Rows.args_tuple_getitem _ _)))
 show wpAny _ _ (Builtin.Tuple.tupleItemsOf (.ref t) >>= _) _ _ s;refine wpAny_bind (PyProof.Rows.tupleItemsOf_ ht ?_);refine wpAny_bind (wpAny_typeOf hTs ?_);rw [if_pos 'h'];refine wpAny_bind (HT.sliceApplied_gen hs pl pu ?_);have hyes:((((HT.sIx items.size 0 lo:Nat):Int)==0&&(1:Int)==1&&(HT.sIx items.size items.size hi-HT.sIx items.size 0 lo)==items.size)=true):=by
  rw [hw.1,hw.2]
  simp
 show wpAny _ _ (if (((HT.sIx items.size 0 lo:Nat):Int)==0&&(1:Int)==1&&(HT.sIx items.size items.size hi-HT.sIx items.size 0 lo)==items.size)=true then _ else _) _ _ s;rw [if_pos hyes];refine wpAny_bind ?_;show wpAny _ _ (typeOf (.ref t) >>= fun v=>pure (v == .type "tuple")) _ _ s;refine wpAny_bind (wpAny_typeOf ht.typeIs (wpAny_pure ?_));rw [if_pos 'h'];refine wpAny_bind (wpAny_rule ?_);exact wpAny_pure ⟨_,rfl,wpAny_pure h⟩
noncomputable def rSlW (K:PySem.W.Frag):V->Option Int->Option Int->Hp->VK->Prop:=fun x lo hi H Q=>∃ a xs,x=.ref a/\C6 K H a xs/\(HT.sIx xs.length 0 lo=0/\HT.sIx xs.length xs.length hi=xs.length)/\Q (.ref a) H
theorem aqM:jX X (rSlW X.K):=by
 intro pins s Y H x v vl vu lo hi sl Q I rx hs pl pu h;obtain ⟨a,xs,rfl,hx,hw,q⟩:=h
 cases rx
 obtain ⟨its,r,ht,hz⟩:=I.tuple hx;have A9:its.toArray.size=xs.length:=by rw [M3];exact r.length.symm
 refine ⟨"tuple",_,PyProof.Rows.slot_tuple_getitem.lookup,ht.typeIs,?_⟩;exact ad2 ht hs pl pu (by rw [A9];exact hw) ⟨.ref a,H,I,rfl,q⟩
noncomputable def rSlR (K:PySem.W.Frag) (a:Addr) (lo hi:Option Int) (H:Hp) (Q:VK):Prop:=rSlL K (.ref a) lo hi H Q\/rSlT K (.ref a) lo hi H Q\/rSlW K (.ref a) lo hi H Q
theorem rSlR.l{lo hi:Option Int}(h1:D9 K H a xs)(h:∀ p,H p=none->Q (.ref p) (A0 H p (.lst (cutV xs lo hi)))):rSlR K a lo hi H Q:=.inl ⟨a,xs,rfl,h1,h⟩
theorem rSlR.t{lo hi:Option Int}(h1:C6 K H a xs)(h2:¬ (HT.sIx xs.length 0 lo=0/\HT.sIx xs.length xs.length hi=xs.length))(h:∀ p,H p=none->Q (.ref p) (A0 H p (.tup (cutV xs lo hi)))):rSlR K a lo hi H Q:=.inr (.inl ⟨a,xs,rfl,h1,h2,h⟩)
theorem rSlR.w{lo hi:Option Int}(h1:C6 K H a xs)(h2:HT.sIx xs.length 0 lo=0/\HT.sIx xs.length xs.length hi=xs.length)(h:Q (.ref a) H):rSlR K a lo hi H Q:=.inr (.inr ⟨a,xs,rfl,h1,h2,h⟩)
noncomputable def rSlU (K:PySem.W.Frag):V->Option Int->Option Int->Hp->VK->Prop
 | .str z,lo,hi,H,Q=>z.length<=sizeLine/\Q (.str (cutS z lo hi)) H
 | .ref a,lo,hi,H,Q=>rSlR K a lo hi H Q
 | _,_,_,_,_=>False
theorem p_sl:jX X (rSlU X.K):=by
 intro pins s Y H x v vl vu lo hi sl Q I rx hs pl pu h
 cases x with
 | str z=>exact aqL pins s Y H _ v vl vu lo hi sl Q I rx hs pl pu ⟨z,rfl,h⟩
 | ref a=>
  rcases h with h | h | h
  .exact anN pins s Y H _ v vl vu lo hi sl Q I rx hs pl pu h
  .exact aqz pins s Y H _ v vl vu lo hi sl Q I rx hs pl pu h
  .exact aqM pins s Y H _ v vl vu lo hi sl Q I rx hs pl pu h
 | _=>exact h.elim
noncomputable def LenR (K:PySem.W.Frag) (H:Hp) (p:Addr) (n:Nat):Prop:=(∃ xs,D9 K H p xs/\n=xs.length)\/(∃ xs,C6 K H p xs/\n=xs.length)\/∃ kvs,Rd H p (.dK kvs)/\n=kvs.length
noncomputable def rLenU (K:PySem.W.Frag):List V->Hp->VK->Prop
 | [.str z],H,Q=>z.length<=sizeLine/\Q (.int z.length) H
 | [.ref p],H,Q=>∃ n:Nat,LenR K H p n/\Q (.int n) H
 | _,_,_=>False
theorem p_len:CallR X (.builtin "len") (rLenU X.K):=by
 intro pins s Y H xs us Q I r h
 match xs,h with
 | [.str z],h=>exact wQ pins s Y H _ us Q I r ⟨.str z,z.length,rfl,⟨h.1,rfl⟩,h.2⟩
 | [.ref p],⟨n,l,q⟩=>
  rcases l with ⟨xs,l,rfl⟩ | ⟨xs,l,rfl⟩ | ⟨kvs,l,rfl⟩
  .exact wQ pins s Y H _ us Q I r ⟨.ref p,_,rfl,.inl ⟨xs,l,rfl⟩,q⟩
  .exact wQ pins s Y H _ us Q I r ⟨.ref p,_,rfl,.inr ⟨xs,l,rfl⟩,q⟩
  .obtain ⟨u,rfl,ru⟩:=vals1 r
   cases ru
   exact d_len I l fun t s' I'=>⟨.int kvs.length,H,I',⟨t,rfl⟩,q⟩
theorem afe(hc:X.calm=true):CallR X (.type "list") (fun xs H Q=>∃ d kvs,xs=[.ref d]/\Rd H d (.dK kvs)/\∀ l,H l=none->Q (.ref l) (A0 H l (.lst (kvs.map fun kv=>kV kv.1)))):=by
 intro pins s Y H xs us Q I r h;obtain ⟨d,kvs,rfl,e,q⟩:=h;obtain ⟨u,rfl,rx⟩:=vals1 r
 cases rx
 obtain ⟨z,hd,vs,rel,dd⟩:=dk_rd I.hok e;obtain ⟨ep,K1⟩:=dd.dictAt;have hl:=rel.length;refine PySem.W.kdl_call (PySem.W.kdl_dict (knd:=P9 X.prog X.w) (kvs:=vs) (ep:=ep) hd) (I.ok.hd hc) K1 'a' fun h' tk acc c' kp hD qA=>?_
 have hv:Vals (kvs.map fun kv=>kV kv.1) acc.toList:=by
  have hk:=rel.keys;have A9:acc.toList.length=kvs.length:=by rw [fY,qA.1,hl]
  have key:∀ (ks:List C5) (us:List Value),us.length=ks.length->(∀ (j:Nat) (v:Value),us[j]?=some v->∃ k,ks[j]?=some k/\keyIs k v=true)->Vals (ks.map kV) us:=by
   intro ks
   induction ks with
   | nil=>intro us h1 _;cases us with
    | nil=>exact .nil
    | cons _ _=>simp at h1
   | cons k ks ih=>
    intro us h1 h2
    cases us with
    | nil=>simp at h1
    | cons u us=>
     obtain ⟨k',e1,e2⟩:=h2 0 u rfl;simp at e1;subst e1;refine .cons ?_ (ih us (by simpa using h1) fun j v hj=>by simpa using h2 (j+1) v (by simpa using hj))
     rcases v6 e2 with ⟨i,t,rfl,rfl⟩ | ⟨x,t,rfl,rfl⟩
     .exact ⟨t,rfl⟩
     .exact ⟨t,rfl⟩
  rw [show (kvs.map fun kv=>kV kv.1)=(kvs.map (·.1)).map kV by rw [b0];rfl];refine key _ _ (by rw [A9,A6]) fun j v hj=>?_
  obtain ⟨k,x,hx,hk'⟩:=qA.2 j v (by rw [<- Array.getElem?_toList];exact hj);refine ⟨k,?_,hk'⟩;rw [hk,T8,hx];rfl
 refine ⟨.ref s.heap.objs.size,_,I.laid (t':=tk) kp (B5 _) (show ObjOk X.prog X.w _ h' _ (.lst (kvs.map fun kv=>kV kv.1)) from ⟨by rw [A6];exact z,acc.toList,c',hv,by simpa using hD⟩),rfl,q _ (I.hok.fresh (B5 _))⟩
noncomputable def rListR (K:PySem.W.Frag) (calm:Bool) (p:Addr) (H:Hp) (Q:VK):Prop:=(∃ ys,(D9 K H p ys\/C6 K H p ys)/\∀ l,H l=none->Q (.ref l) (A0 H l (.lst ys)))\/(calm=true/\∃ kvs,Rd H p (.dK kvs)/\∀ l,H l=none->Q (.ref l) (A0 H l (.lst (kvs.map fun kv=>kV kv.1))))
theorem rListR.l{p:Addr}(h1:D9 K H p ys\/C6 K H p ys)(h:∀ l,H l=none->Q (.ref l) (A0 H l (.lst ys))):rListR K calm p H Q:=.inl ⟨ys,h1,h⟩
theorem rListR.d{p:Addr}(h1:Rd H p (.dK kvs))(h:∀ l,H l=none->Q (.ref l) (A0 H l (.lst (kvs.map fun kv=>kV kv.1)))):rListR K true p H Q:=.inr ⟨rfl,kvs,h1,h⟩
noncomputable def xK (K:PySem.W.Frag) (calm:Bool):List V->Hp->VK->Prop
 | [.ref p],H,Q=>rListR K calm p H Q
 | _,_,_=>False
theorem aqN:CallR X (.type "list") (xK X.K X.calm):=by
 intro pins s Y H xs us Q I r h
 match xs,h with
 | [.ref p],h=>
  rcases h with ⟨ys,h1,h2⟩ | ⟨hc,kvs,h1,h2⟩
  .exact ags pins s Y H _ us Q I r ⟨p,ys,rfl,h1,h2⟩
  .exact afe hc pins s Y H _ us Q I r ⟨p,kvs,rfl,h1,h2⟩
noncomputable def rAllB (calm:Bool):List V->Hp->VK->Prop
 | [.ref p],H,Q=>∃ bs:List Bool,calm=true/\H p=some (.lst (bs.map V.bl))/\Q (.bl (bs.all id)) H
 | _,_,_=>False
noncomputable def sQ (H:Hp):V->Option String
 | .non=>some "NoneType"
 | .bl _=>some "bool"
 | .int _=>some "int"
 | .str _=>some "str"
 | .ref a=>match H a with
  | some (.lst _)=>some "list"
  | some (.frz _ (.lst _))=>some "list"
  | some (.tup _)=>some "tuple"
  | some (.dK _)=>some "dict"
  | _=>none
 | _=>none
noncomputable def xL (T n:String):Bool:=T==n || (T == "bool" && n == "int")
noncomputable def isTys:List String:=["str", "int", "bool", "list", "tuple", "dict"]
noncomputable def rIsi:List V->Hp->VK->Prop
 | [x,.ty n],H,Q=>∃ T,sQ H x=some T/\isTys.contains n=true/\Q (.bl (xL T n)) H
 | _,_,_=>False
theorem aqO{T:String}(h:sQ H x=some T):TyOf K H x (.type T)/\["NoneType", "bool", "int", "str", "list", "tuple", "dict"].contains T=true:=by
 cases x with
 | non=>cases h;exact ⟨.non,by decide⟩
 | bl b=>cases h;exact ⟨.bl b,by decide⟩
 | int i=>cases h;exact ⟨.int i,by decide⟩
 | str z=>cases h;exact ⟨.str z,by decide⟩
 | ref a=>
  unfold sQ at h
  dsimp only at h
  cases e:H a with
  | none=>rw [e] at h;cases h
  | some o=>
   rw [e] at h
   cases o with
   | lst xs=>cases h;exact ⟨.lst e,by decide⟩
   | tup xs=>cases h;exact ⟨.tup e,by decide⟩
   | dK kvs=>cases h;exact ⟨.dK e,by decide⟩
   | frz ob u=>
    cases u with
    | lst xs=>cases h;exact ⟨.frz e,by decide⟩
    | _=>cases h
   | _=>cases h
 | _=>cases h
theorem anX(K:PySem.W.Frag):∀ T∈["NoneType", "bool", "int", "str", "list", "tuple", "dict"],∀ n∈isTys,PySem.W.kitOne K (.type T) (.type n)=some (xL T n):=by
 intro T hT n hn;simp only [E7,jO,or_false,isTys] at hT hn
 rcases hT with rfl | rfl | rfl | rfl | rfl | rfl | rfl <;> rcases hn with rfl | rfl | rfl | rfl | rfl | rfl <;> rfl
theorem alZ:CallR X (.builtin "isinstance") rIsi:=by
 intro pins s Y H xs us Q I r h
 match xs,h with
 | [x,.ty n],⟨T,h1,h2,q⟩=>
  obtain ⟨u,c,rfl,ru,rc⟩:=vals2 r;obtain rfl:c=Value.type n:=rc;obtain ⟨h3,h4⟩:=aqO (K:=X.K) h1;exact aj1 I ru h3 (anX X.K T (by simpa using h4) n (by simpa using h2)) fun tk=>⟨.bl _,H,I.tok tk,rfl,q⟩
noncomputable def rOrd:List V->Hp->VK->Prop
 | [.str z],H,Q=>z.length=1/\Q (.int (z.cps.getD 0 0:Nat)) H
 | _,_,_=>False
noncomputable def kE (x:Str):It:=⟨fun i _=>i<x.cps.size,fun i H v H'=>H'=H/\∃ c,x.cps.toList[i]?=some c/\v=.str ⟨#[c]⟩,fun i _=>x.cps.size<=i⟩
theorem al0{P:Program}{w:World}{ty:String}(X6:ty="str_ascii_iterator"\/ty="str_iterator")(it:Addr)(x:Str)(t:Tok):Turn P w K tg (kE x) [it] it (fun i h=>h.IsStrIter it ty x t i) where
 mem:=by simp
 obj:=fun i h st b hb=>by
  have e:b=it:=by simpa using hb
  subst e;obtain ⟨o,e,c,d⟩:=st;exact ⟨o,e,fun v z=>by rw [d] at z;cases z⟩
 keep:=fun i h h' st k=>let ⟨o,e,r⟩:=st;⟨o,k it 'c' o e,r⟩
 item:=by
  intro X hP hw hK hc i pins s Y H E I hf st hg;subst hP hw hK;obtain ⟨f0,f1,f2,f3,f4,f5⟩:=hf it 'c';have lR:i<x.cps.size:=hg;have go:∀ h',h'.IsStrIter it ty x t (i+1)->Heap.SameBut it s.heap h'->∃ u,some (Value.str ⟨#[x.cps[i]]⟩ s.toks)=some u/\
    wpAny 'b' X.A (letOwnedTupleGo tg (.ref it) u) (fun _ s2=>∃ y H',Inv X pins Y H' s2/\RelV y u/\(kE x).yld i H y H'/\s2.heap.IsStrIter it ty x t (i+1)/\∀ b∈[it],H' b=none) E { s with heap:=h',toks:=s.toks+1 }:=by
   intro h' st' sb;have I1:Inv X pins Y H { s with heap:=h',toks:=s.toks+1 }:=I.turned (t':=s.toks+1) (fun b o hb e=>(sb.2 b hb).trans e) f0 f1 f3 f4 f5;obtain ⟨o,e,c,d⟩:=id st';refine ⟨_,rfl,go_of (s:={ s with heap:=h',toks:=s.toks+1 }) e c d (by rcases X6 with rfl | rfl <;> decide) ⟨.str ⟨#[x.cps[i]]⟩,H,I1,⟨_,rfl⟩,⟨rfl,x.cps[i],?_,rfl⟩,st',fun b hb=>(hf b hb).1⟩⟩;simp [lR]
  rcases X6 with rfl | rfl
  .exact wpAny_pyNext_ascii_item st (c:=x.cps[i]) (by simp [lR]) go
  .exact wpAny_pyNext_wide_item st (c:=x.cps[i]) (by simp [lR]) go
 done:=by
  intro X hP hw hK hc i pins s Y H E I hf st hg;subst hP hw hK;obtain ⟨f0,f1,f2,f3,f4,f5⟩:=hf it 'c';have lR:x.cps.size<=i:=hg;have fin:∀ h',Heap.ExtBut it s.heap h'->(none:Option Value)=none/\Inv X pins Y H { s with heap:=h' }:=fun h' eb=>⟨rfl,I.turned (t':=s.toks) (fun b o hb e=>eb b o hb e) f0 f1 f3 f4 f5⟩
  rcases X6 with rfl | rfl
  .exact wpAny_pyNext_ascii_end (I.ok.hd hc) st (by simp [lR]) fin
  .exact wpAny_pyNext_wide_end (I.ok.hd hc) st (by simp [lR]) fin
 self:=fun A i s Q E st h=>by
  rcases X6 with rfl | rfl
  .exact wpAny_pyIter_striter_ascii st h
  .exact wpAny_pyIter_striter_wide st h
noncomputable def iStr (tl:TE):TI:=fun Y H R=>tl Y H fun x H1=>∃ z,x=.str z/\R (kE z) H1
variable {tg:Expr}
theorem aqP{l:Expr}(hl:PE X l tl):PI X tg l (iStr tl):=by
 intro pins s Y H R I h;refine B3 (hl pins s Y H _ I h) fun v s1 ⟨x,H1,I1,r1,q1⟩=>?_
 obtain ⟨z,rfl,q⟩:=q1;obtain ⟨t,rfl⟩:=r1;have fin:∀ (ty:String) (X6:ty="str_ascii_iterator"\/ty="str_iterator"),wN X pins Y tg R (.ref s1.heap.objs.size) { s1 with heap:=s1.heap.push { cls:=.type ty,data:=.fields #[.str z t,.int 0 0] } }:=fun ty X6=>by
  refine ⟨s1.heap.objs.size,[s1.heap.objs.size],_,_,H1,rfl,I1.kept (t':=s1.toks) fun b o e=>Heap.get?_push_of_some _ e,al0 X6 s1.heap.objs.size z t,⟨_,Heap.get?_push_size _ rfl,rfl,rfl⟩,fun b hb=>?_,q⟩;have e:b=s1.heap.objs.size:=by simpa using hb
  subst e;exact I1.fpOk (B5 _) (I1.hok.fresh (B5 _))
 cases ha:z.cps.all (· < 128)
 .exact wpAny_pyIter_wide ha (fin _ (.inr rfl))
 .exact wpAny_pyIter_ascii ha (fin _ 'g')
end
noncomputable def M6:Expr->Bool
 | .Starred _ _=>true
 | _=>false
noncomputable def Z1 (es:List Expr):Bool:=es.all fun e=>!M6 e
theorem O7{es:List Expr}{env:Env}(h:M6 e=false):starEach (e::es) env=(false,eval e env)::starEach es env:=by
 cases e <;> first | rfl | cases h
theorem gF{pos:Pos}{env:Env} : ∀ {es:List Expr},Z1 es=true->(backTo pos (starEach es env)).any (·.1)=false
 | [],_=>rfl
 | e::es,h=>by
  have h':(!M6 e&&Z1 es)=true:=h;rw [T5] at h';rw [O7 (by simpa using h'.1)];have ih:=gF (pos:=pos) (env:=env) h'.2;unfold backTo at ih ⊢
  rw [K5,bP,ih];rfl
theorem aio{pos:Pos}{env:Env} : ∀ {es:List Expr},Z1 es=true->(backTo pos (starEach es env)).all (fun x=>!x.1)=true
 | [],_=>rfl
 | e::es,h=>by
  have h':(!M6 e&&Z1 es)=true:=h;rw [T5] at h';rw [O7 (by simpa using h'.1)];have ih:=aio (pos:=pos) (env:=env) h'.2;unfold backTo at ih ⊢
  rw [K5,List.all_cons,ih];rfl
section
variable {X:Cx} {e:Expr} {es:List Expr} {te:TE} {t:TA} {x:Str} {p pos:Pos} {id T:String} {r:List V->Hp->VK->Prop}
theorem pa_c(ha:PE X e te)(hr:PA X es t)(h:M6 e=false:=by rfl):PA X (e::es) (tCons te t):=anG ha hr (O7 h)
theorem pe_cB(hc:CallR X (.builtin id) r)(hg:Gl X x)(hm:X.mg x=none)(hv:bootBuiltins x=some (.builtin id))(ha:PA X (e::es) t)(h1:M6 e=false:=by rfl)(h2:Z1 es=true:=by rfl)(hn:x≠"__name__":=by decide)(U3:(x==("__debug__" : Str))=false:=by decide) :
  PE X (.Call (.Name x p) (e::es) [] pos) (gC r t):=alM hc hg hm hv ha hn U3 (O7 h1) (gF h2)
theorem pe_cT(hc:CallR X (.type T) r)(hg:Gl X x)(hm:X.mg x=none)(hv:bootBuiltins x=some (.type T))(ha:PA X (e::es) t)(h1:M6 e=false:=by rfl)(h2:Z1 es=true:=by rfl)(hn:x≠"__name__":=by decide)(U3:(x==("__debug__" : Str))=false:=by decide) :
  PE X (.Call (.Name x p) (e::es) [] pos) (gC r t):=aj4 hc hg hm hv ha hn U3 (O7 h1) (gF h2)
variable {o:Expr} {to:TE} {name:Str} {apos cpos:Pos} {rm:V->List V->Hp->VK->Prop}
theorem pe_mB(pa:PlainAttrs T)(slot:Slot T name id)(X6:typeOf (.builtin id)=pure (.type "method_descriptor"))(hm:sJ X id rm)(ho:PE X o to)(ha:PA X (e::es) t)(h1:M6 e=false:=by rfl)(h2:Z1 es=true:=by rfl)(h3:decide ((e::es).length<30)=true:=by rfl)(G7:attributeBase o name X.env (eval o X.env)=eval o X.env:=by rfl)(G8:(apos.endLine==cpos.line)=true:=by rfl):PE X (.Call (.Attribute o name apos) (e::es) [] cpos) (sK X.K T rm to t):=
 pe_bm pa slot X6 hm ho ha G7 (by
  rw [aio (show Z1 (e::es)=true by show (!M6 e&&Z1 es)=true;rw [h1,h2];rfl)];have h3':(e::es).length<30:=of_decide_eq_true h3;simp only [List.isEmpty_nil,if_true,Y6,Nat.add_zero,Bool.true_and];rw [decide_eq_true h3'];rfl) G8 (O7 h1) (gF h2)
variable {tg a b:Expr} {ta:TA}
theorem pi_r1(hg:Gl X "range")(hm:X.mg "range"=none)(ha:PA X [a] ta)(h1:M6 a=false:=by rfl):PI X tg (.Call (.Name "range" p) [a] [] pos) (iRng1 ta):=ajP hg hm ha (by rw [O7 h1];rfl)
theorem pi_r2(hg:Gl X "range")(hm:X.mg "range"=none)(ha:PA X [a,b] ta)(h1:M6 a=false:=by rfl)(h2:M6 b=false:=by rfl):PI X tg (.Call (.Name "range" p) [a,b] [] pos) (iRng2 ta):=ajQ hg hm ha (by rw [O7 h1,O7 h2];rfl) (by rw [O7 h2];rfl)
end
noncomputable def FO (P:Program) (w:World) (K:PySem.W.Frag) (mg:Str->Option Value) (base:Heap) (k:Nat) (x:Str) (ps:List Str) (dvs:List V) (sp:Sp):Prop:=
 ∃ f fd,FnOk P w K mg base E6 k f fd ps sp/\mg x=some (.ref f)/\X3 K (.ref f)=true/\∃ ds,Binds K fd ps ds/\Vals dvs ds
structure FunD(K:PySem.W.Frag)(x qual:Str)(st:Stmt)(f:Addr)(fd:FuncData):Prop where
 ex:∃ (oc:Value) (od:Option Addr) (dV kV doc pm:Value) (an:Option Addr) (cdv ct:Value) (osl:Array (Option Value)),
  fd=V9 x qual (X4 st) (W6 st) (C3 st) dV kV doc pm an cdv ct/\K.lookup f=some ⟨oc,od,.func fd,osl⟩/\b8 K cdv qual=true
section
variable {P:Program} {w:World} {K:PySem.W.Frag} {mg:Str->Option Value} {base:Heap}
theorem FunD.ok{x:Str}(F:FunD K x qual st f fd)(S:FnScope N ps (C3 st))(len:∀ vs H Q E,sp vs H Q E->vs.length=ps.length)(x8:∀ (cdv:Value) (A:Around) (outer:List Env) (s:Shared) (H:Hp) (vs:List V) (Q:VK) (E:XK),Room k (A.deeper (envOfC qual (C3 st) s.heap.objs.size f cdv))->sp vs H Q E->
   ∃ t,b9 (cxOf E6 P w K mg base N qual (C3 st) f cdv A outer s H E).nox (W6 st) t/\t { nx:=fun _ H'=>Q .non H',rt:=Q } (start N vs) H):FnOk P w K mg base E6 (k+1) f fd ps sp:=by
 obtain ⟨oc,od,dV,kV,doc,pm,an,cdv,ct,osl,rfl,lk,U1⟩:=F.ex;refine fn_of lk U1 S len fun A outer s H vs Q E hr eV=>?_
 obtain ⟨t,h,q⟩:=x8 cdv A outer s H vs Q E hr eV;exact ⟨t,h.nox,q⟩
theorem aR{x:Str}{osl:Array (Option Value)}{dV kV doc cdv:Value}(l:K.lookup f=some ⟨oc,od,.func (V9 x qual (X4 st) (W6 st) (C3 st) dV kV doc pm an cdv ct),osl⟩)(c:b8 K cdv qual=true):FunD K x qual st f (V9 x qual (X4 st) (W6 st) (C3 st) dV kV doc pm an cdv ct):=⟨oc,od,dV,kV,doc,pm,an,cdv,ct,osl,rfl,l,c⟩
end
section
variable {X:Cx} {k:Nat} {ps:List Str} {sp:Sp} {dvs:List V} {x:Str} {p pos:Pos} {e:Expr} {es:List Expr} {t:TA}
theorem al1(G:FO X.prog X.w X.K X.mg X.base k x ps dvs sp)(hr:Room k X.A)(ha:PA X (e::es) t)(hg:Gl X x:=by rfl)(h1:M6 e=false:=by rfl)(h2:Z1 es=true:=by rfl)(U3:(x==("__debug__" : Str))=false:=by decide):PE X (.Call (.Name x p) (e::es) [] pos) (tCall sp dvs E0 t):=by
 obtain ⟨f,fd,F,hm,hk,ds,hb,hd⟩:=G;exact anH F hr hg hm hk hb hd pass0 ha U3 (O7 h1) (gF h2)
theorem al2{i:Int}(h:∃ t,X.mg x=some (.int i t))(hg:Gl X x:=by rfl)(hd:(x==("__debug__" : Str))=false:=by decide):PE X (.Name x p) (tC (.int i)):=by
 obtain ⟨t,h⟩:=h;exact ajM hg h ⟨t,rfl⟩ hd
theorem al3(h:X.mg x=some (.ref a))(hg:Gl X x:=by rfl)(hd:(x==("__debug__" : Str))=false:=by decide):PE X (.Name x p) (tC (.ref a)):=ajM hg h rfl hd
end
section
variable {Y:St} {H:Hp} {Q:VK} {B:Bool->Hp->Prop} {ta tb tc te:TE} {t u:TS} {tt uu:TT} {D:Ends} {i:Nat} {v:V} {r r':R2} {K:PySem.W.Frag} {taa:TA} {R:List V->Hp->Prop} {g:TG}
theorem am1:tVar i Y H Q=∃ v,(Y[i]?).join=some v/\Q v H:=by
 unfold tVar;refine propext ⟨fun ⟨v,h,q⟩=>⟨v,by rw [h];rfl,q⟩,fun ⟨v,h,q⟩=>⟨v,?_,q⟩⟩;cases e:Y[i]? with
 | none=>rw [e] at h;cases h
 | some o=>rw [e] at h;exact congrArg some h
theorem ap_c:tC v Y H Q=Q v H:=rfl
theorem ap_op:bZ r ta tb Y H Q=ta Y H fun x H1=>tb Y H1 fun y H2=>r x y H2 Q:=rfl
theorem ap_un{ru:V->Hp->VK->Prop} : wO ru ta Y H Q=ta Y H fun x H1=>ru x H1 Q:=rfl
theorem ap_rU{f:Int->V} : rU f x H Q=∃ i,x=.int i/\Q (f i) H:=rfl
theorem anY:tTest ta Y H B=ta Y H fun x H'=>∃ k,x=.bl k/\B k H':=rfl
theorem ap_tB:tB ta Y H B=ta Y H fun x H'=>∃ k,x=.bl k/\B k H':=rfl
theorem anZ:tTru K ta Y H B=ta Y H fun x H'=>∃ k,TruV K x H' k/\B k H':=rfl
theorem an0:tNotT K ta Y H Q=ta Y H fun x H'=>∃ k,TruV K x H' k/\Q (.bl (!k)) H':=rfl
theorem al4:wP r r' ta tb tc Y H Q=ta Y H fun x H1=>tb Y H1 fun y H2=>r x y H2 fun z H3=>∃ k,z=.bl k/\(if k=true then tc Y H3 fun w' H4=>r' y w' H4 Q else Q (.bl false) H3):=rfl
theorem aqQ:tAnd tt uu Y H B=tt Y H fun c H1=>if c=true then uu Y H1 B else B false H1:=rfl
theorem ap_or:wI tt uu Y H B=tt Y H fun c H1=>if c=true then B true H1 else uu Y H1 B:=rfl
theorem aqR:tNot tt Y H B=tt Y H fun c H1=>B (!c) H1:=rfl
theorem an1:tAndV ta tb Y H Q=ta Y H fun x H1=>∃ c,x=.bl c/\if c=true then tb Y H1 Q else Q (.bl false) H1:=rfl
theorem aqS:tOrV ta tb Y H Q=ta Y H fun x H1=>∃ c,x=.bl c/\if c=true then Q (.bl true) H1 else tb Y H1 Q:=rfl
theorem an2:tNotV ta Y H Q=ta Y H fun x H1=>∃ c,x=.bl c/\Q (.bl (!c)) H1:=rfl
theorem ap_if:wJ tt ta tb Y H Q=tt Y H fun c H1=>if c=true then ta Y H1 Q else tb Y H1 Q:=rfl
theorem an3:tNext D Y H=D.nx Y H:=rfl
theorem aqT:tSeq t u D Y H=t { D with nx:=u D } Y H:=rfl
theorem al5:aqb D Y H=D.bk Y H:=rfl
theorem an4:tCont D Y H=D.ct Y H:=rfl
theorem an5:tDrop te D Y H=te Y H fun _ H1=>D.nx Y H1:=rfl
theorem aqU:tRet te D Y H=te Y H D.rt:=rfl
theorem an6:tRetN D Y H=D.rt .non H:=rfl
theorem aqV:tIfS tt t u D Y H=tt Y H fun b H1=>if b=true then t D Y H1 else u D Y H1:=rfl
theorem al6:wK D Y H=False:=rfl
theorem an7{Z:St->Hp->Prop} : gName i v Y H Z=Z (Y.set i (some v)) H:=rfl
theorem an8{Z:St->Hp->Prop} : gNil vs Y H Z=(vs=[]/\Z Y H):=rfl
theorem al7{us:o8}{Z:St->Hp->Prop} : gCons g us vs Y H Z=∃ v r,vs=v::r/\g v Y H fun σ' H'=>us r σ' H' Z:=rfl
theorem an9{us:o8}{Z:St->Hp->Prop} : gTup K n us v Y H Z=∃ a xs,v=.ref a/\C6 K H a xs/\xs.length=n/\us xs Y H Z:=rfl
theorem aoa{ts:TSet}{Z:St->Hp->Prop} : gSub ta tb ts v Y H Z=ta Y H fun o H1=>tb Y H1 fun i H2=>ts o i v H2 fun H3=>Z Y H3:=rfl
theorem aqW:tAsg te g D Y H=te Y H fun x H1=>g x Y H1 D.nx:=rfl
theorem aqX{ti:fZ} : tAug i te ti D Y H=∃ x,(Y[i]?).join=some x/\te Y H fun y H1=>ti x y H1 fun z H2=>D.nx (Y.set i (some z)) H2:=am1 (Q:=fun x H=>te Y H fun y H1=>ti x y H1 fun z H2=>D.nx (Y.set i (some z)) H2)
theorem aqY{f:Int->Int->Int} : wM f x y H Q=∃ i j,x=.int i/\y=.int j/\Q (.int (f i j)) H:=rfl
theorem aob:tCons te taa Y H R=te Y H fun x H1=>taa Y H1 fun xs H2=>R (x::xs) H2:=rfl
theorem aqZ:tNil Y H R=R [] H:=rfl
theorem aoc{E:XK} : tCall sp dvs E taa Y H Q=taa Y H fun vs H1=>sp (vs++dvs) H1 Q E:=rfl
theorem ap_cb{rc:List V->Hp->VK->Prop} : gC rc taa Y H Q=taa Y H fun vs H1=>rc vs H1 Q:=rfl
theorem aq0:tTup taa Y H Q=taa Y H fun xs H1=>xs.length<=sizeLine/\∀ p,H1 p=none->Q (.ref p) (A0 H1 p (.tup xs)):=rfl
theorem aq1:tLst taa Y H Q=taa Y H fun xs H1=>xs.length<=sizeLine/\∀ p,H1 p=none->Q (.ref p) (A0 H1 p (.lst xs)):=rfl
theorem ap_sl{rs:V->Option Int->Option Int->Hp->VK->Prop}{tl th:TO} : wV rs te tl th Y H Q=te Y H fun x H1=>tl Y H1 fun l H2=>th Y H2 fun u H3=>rs x l u H3 Q:=rfl
theorem akl{O:Option Int->Hp->Prop} : wU Y H O=O none H:=rfl
theorem aod{O:Option Int->Hp->Prop} : tPart te Y H O=te Y H fun x H1=>∃ i,x=.int i/\O (some i) H1:=rfl
theorem ap_bm{T:String}{rm:V->List V->Hp->VK->Prop} : sK K T rm te taa Y H Q=te Y H fun x H1=>cC K T x H1/\taa Y H1 fun xs H2=>rm x xs H2 Q:=rfl
theorem aq2{T:String}{rm:V->List V->Hp->VK->Prop} : tBM0 K T rm te Y H Q=te Y H fun x H1=>cC K T x H1/\rm x [] H1 Q:=rfl
theorem aq3:tYes Y H B=B true H:=rfl
theorem aoe:xD Y H Q=∀ p,H p=none->Q (.ref p) (A0 H p (.dK [])):=rfl
theorem aof:tDGet ta tb Y H Q=ta Y H fun x H1=>tb Y H1 fun y H2=>∃ a v,x=.ref a/\DGet H2 a y (some v)/\Q v H2:=rfl
theorem aog:sDPut ta tb tc D Y H=tc Y H fun v H1=>ta Y H1 fun x H2=>tb Y H2 fun y H3=>∃ a H4,x=.ref a/\DPut H3 a y v H4/\D.nx Y H4:=rfl
theorem aoh{rd:V->V->Hp->VK->Prop} : sDAug ta tb tc rd D Y H=ta Y H fun x H1=>tb Y H1 fun y H2=>∃ a v,x=.ref a/\DGet H2 a y (some v)/\tc Y H2 fun y2 H3=>rd v y2 H3 fun z H4=>∃ H5,DPut H4 a y z H5/\D.nx Y H5:=rfl
theorem aoi : aP (fun i j=>V.int (i-j)) x y H Q=∃ i j,x=.int i/\y=.int j/\Q (.int (i-j)) H:=rfl
theorem al8 : rI CDiv (fun i j=>V.int (i / j)) x y H Q=∃ i j,x=.int i/\y=.int j/\(0<j/\j<1073741824)/\Q (.int (i / j)) H:=rfl
theorem aoj : rI (fun _ j=>0<j) (fun i j=>V.int (i % j)) x y H Q=∃ i j,x=.int i/\y=.int j/\0<j/\Q (.int (i % j)) H:=rfl
theorem aok : cC K "str" (.str z) H=True:=by simp [cC]
noncomputable def ForIt (J:It) (g:TG) (tb:TS) (D:Ends) (Y:St) (H1:Hp):Prop:=∃ W:Nat->Nat->St->Hp->Prop,(∃ m,W 0 m Y H1)/\∀ i m Y H,W i m Y H->
 (J.stop i H/\D.nx Y H)\/(J.go i H/\∃ N:St->Hp->Prop,(∀ σ' H',N σ' H'->∃ m',m'<m/\W (i+1) m' σ' H')/\∀ x H',J.yld i H x H'->g x Y H' fun σ2 H2=>tb { D with nx:=N,ct:=N,bk:=D.nx } σ2 H2)
theorem aq4{wi:TI}{tbs:TS} : tFor wi g tbs D Y H=wi Y H fun J H1=>ForIt J g tbs D Y H1:=rfl
theorem al9{Z:It->Hp->Prop} : iList K te Y H Z=te Y H fun x H1=>∃ a,x=.ref a/\(∃ xs,D9 K H1 a xs)/\Z (aO K a) H1:=rfl
theorem aol{Z:It->Hp->Prop} : iTup K te Y H Z=te Y H fun x H1=>∃ a,x=.ref a/\(∃ xs,C6 K H1 a xs)/\Z (dS K a) H1:=rfl
theorem aom{Z:It->Hp->Prop} : iStr te Y H Z=te Y H fun x H1=>∃ z,x=.str z/\Z (kE z) H1:=rfl
theorem ama{Z:It->Hp->Prop} : iRng1 taa Y H Z=taa Y H fun vs H1=>∃ j:Int,vs=[.int j]/\-(2 ^ 62)<=j/\j<2 ^ 62/\Z (o9 0 j.toNat) H1:=rfl
theorem amb{Z:It->Hp->Prop} : iRng2 taa Y H Z=taa Y H fun vs H1=>∃ i j:Int,vs=[.int i,.int j]/\(-(2 ^ 62)<=i/\i<2 ^ 62/\-(2 ^ 62)<=j/\j<2 ^ 62)/\Z (o9 i (j-i).toNat) H1:=rfl
noncomputable def cF (J:It) (k:Nat) (ixs:List Nat) (g:TG) (c:TT) (te:TE) (Y:St) (Q:VK) (H1:Hp):Prop:=∀ D,H1 D=none->
 ∃ (n:Nat) (W:Nat->List V->St->Hp->Prop),W 0 [] (compStart k ixs Y) (A0 H1 D (.lst []))/\∀ i ys σ2 H2,W i ys σ2 H2->H2 D=some (.lst ys)->
  (J.stop i H2/\Q (.ref D) H2)\/
  (i<n/\J.go i H2/\∀ x H',J.yld i H2 x H'->g x σ2 H' fun σ3 H3=>c σ3 H3 fun b H4=>
   if b=true then te σ3 H4 fun y H5=>H5 D=some (.lst ys)/\ys.length<sizeLine/\W (i+1) (ys++[y]) σ3 (A0 H5 D (.lst (ys++[y])))
   else H4 D=some (.lst ys)/\W (i+1) ys σ3 H4)
theorem aon{wi:TI} : tComp wi k ixs g tt te Y H Q=wi Y H fun J H1=>cF J k ixs g tt te Y Q H1:=rfl
end
theorem aoo{b k:Bool} : TruV K (.bl b) H k=(k=b):=rfl
theorem amc{i:Int}{k:Bool} : TruV K (.int i) H k=(k=(i != 0)):=rfl
theorem amd{k:Bool} : TruV K (.str z) H k=(z.length<=sizeLine/\k=((z.length:Int) != 0)):=rfl
theorem ame{k:Bool} : TruV K .non H k=(k=false):=rfl
theorem amf : start N vs=vs.map some++Y7 (N.length-vs.length) none:=rfl
theorem agA : compStart k ixs Y=Y7 k none++ixs.map fun i=>(Y[i]?).join:=rfl
theorem aop{i:Int} : jY K (.str z) (.int i) H Q=∃ c,z.length<=sizeLine/\G4 z.cps.toList i=some c/\Q (.str ⟨#[c]⟩) H:=by
 simp only [jY,rIxL,rIxT,rIxS];refine propext ⟨fun h=>?_,fun ⟨c,h⟩=>.inr (.inr ⟨z,i,c,rfl,rfl,h⟩)⟩
 rcases h with ⟨p,xs,j,v,e,_⟩ | ⟨p,xs,j,v,e,_⟩ | ⟨z',i',c,e1,e2,h⟩
 .cases e
 .cases e
 .cases e1;cases e2;exact ⟨c,h⟩
theorem aoq{p:Addr}{i:Int} : jY K (.ref p) (.int i) H Q=∃ xs v,(D9 K H p xs\/C6 K H p xs)/\G4 xs i=some v/\Q v H:=by
 simp only [jY,rIxL,rIxT,rIxS];refine propext ⟨fun h=>?_,fun ⟨xs,v,h,r⟩=>?_⟩
 .rcases h with ⟨p',xs,j,v,e1,e2,h1,h2⟩ | ⟨p',xs,j,v,e1,e2,h1,h2⟩ | ⟨z',i',c,e1,e2,h⟩
  .cases e1;cases e2;exact ⟨xs,v,.inl h1,h2⟩
  .cases e1;cases e2;exact ⟨xs,v,.inr h1,h2⟩
  .cases e1
 .rcases h with h | h
  .exact .inl ⟨p,xs,i,v,rfl,rfl,h,r⟩
  .exact .inr (.inl ⟨p,xs,i,v,rfl,rfl,h,r⟩)
theorem kF{α:Type}{xs:List α}{i:Int}(h0:0<=i)(h1:i<xs.length):∃ v,G4 xs i=some v/\v∈xs:=by
 have C9:i.toNat<xs.length:=by lia
 refine ⟨xs[i.toNat],?_,List.getElem_mem C9⟩;unfold G4 g6;rw [if_pos h0,if_pos h1];simp [C9]
theorem P3:bootBuiltins "len"=some (.builtin "len"):=by decide +kernel
theorem adP:bootBuiltins "isinstance"=some (.builtin "isinstance"):=by decide +kernel
theorem am2:bootBuiltins "any"=some (.builtin "any"):=by decide +kernel
theorem aq5:bootBuiltins "min"=some (.builtin "min"):=by decide +kernel
theorem j9:bootBuiltins "list"=some (.type "list"):=by decide +kernel
theorem nM:bootBuiltins "tuple"=some (.type "tuple"):=by decide +kernel
theorem akm:bootBuiltins "dict"=some (.type "dict"):=by decide +kernel
theorem aq6:bootBuiltins "str"=some (.type "str"):=by decide +kernel
theorem nN:bootBuiltins "int"=some (.type "int"):=by decide +kernel
theorem aor:bootBuiltins "bool"=some (.type "bool"):=by decide +kernel
section
variable {K:PySem.W.Frag} {H:Hp} {Q:VK} {i j:Int} {x y:Str} {u v:V} {b c:Bool} {p q:Addr} {lo hi:Option Int} {cm:Bool}
theorem ad_ii:rAddU K (.int i) (.int j) H Q=Q (.int (i+j)) H:=rfl
theorem ad_ss:rAddU K (.str x) (.str y) H Q=(x.length+y.length<=sizeLine/\Q (.str (x++y)) H):=rfl
theorem ad_rr:rAddU K (.ref p) (.ref q) H Q=rAddR K p q H Q:=rfl
theorem mu_ii:rMulU (.int i) (.int j) H Q=(CMul i j/\Q (.int (i*j)) H):=rfl
theorem mu_ri:rMulU (.ref p) (.int j) H Q=rRep (.ref p) (.int j) H Q:=rfl
theorem eq_ii:rEqU K (.int i) (.int j) H Q=Q (.bl (decide (i=j))) H:=rfl
theorem eq_ss:rEqU K (.str x) (.str y) H Q=Q (.bl (decide (x=y))) H:=rfl
theorem eq_bb:rEqU K (.bl b) (.bl c) H Q=Q (.bl (decide (b=c))) H:=rfl
theorem eq_rx:rEqU K (.ref p) v H Q=∃ d e,Dn K H (.ref p) d/\Dn K H v e/\min d.depth e.depth<=60/\Q (.bl (P7 d e)) H:=by cases v <;> rfl
theorem eq_xr:rEqU K v (.ref p) H Q=∃ d e,Dn K H v d/\Dn K H (.ref p) e/\min d.depth e.depth<=60/\Q (.bl (P7 d e)) H:=by cases v <;> rfl
theorem ne_ii:rNeU K (.int i) (.int j) H Q=Q (.bl (!decide (i=j))) H:=rfl
theorem ne_ss:rNeU K (.str x) (.str y) H Q=Q (.bl (!decide (x=y))) H:=rfl
theorem ne_bb:rNeU K (.bl b) (.bl c) H Q=Q (.bl (!decide (b=c))) H:=rfl
theorem ne_rx:rNeU K (.ref p) v H Q=∃ d e,Dn K H (.ref p) d/\Dn K H v e/\min d.depth e.depth<=60/\Q (.bl (!PyData.eqv d e)) H:=by cases v <;> rfl
theorem ne_xr:rNeU K v (.ref p) H Q=∃ d e,Dn K H v d/\Dn K H (.ref p) e/\min d.depth e.depth<=60/\Q (.bl (!PyData.eqv d e)) H:=by cases v <;> rfl
theorem lt_ii:rLtU (.int i) (.int j) H Q=Q (.bl (decide (i<j))) H:=rfl
theorem lt_ss:rLtU (.str x) (.str y) H Q=Q (.bl (decide (x.cps.toList<y.cps.toList))) H:=rfl
theorem le_ii:rLeU (.int i) (.int j) H Q=Q (.bl (decide (i<=j))) H:=rfl
theorem le_ss:rLeU (.str x) (.str y) H Q=Q (.bl (!decide (y.cps.toList<x.cps.toList))) H:=rfl
theorem gt_ii:rGtU (.int i) (.int j) H Q=Q (.bl (decide (j<i))) H:=rfl
theorem gt_ss:rGtU (.str x) (.str y) H Q=Q (.bl (decide (y.cps.toList<x.cps.toList))) H:=rfl
theorem ge_ii:rGeU (.int i) (.int j) H Q=Q (.bl (decide (j<=i))) H:=rfl
theorem ge_ss:rGeU (.str x) (.str y) H Q=Q (.bl (!decide (x.cps.toList<y.cps.toList))) H:=rfl
theorem in_xs:rInU K b u (.str x) H Q=∃ i,u=.str i/\Q (.bl (b.xor (!(Builtin.Str.occurrences x i 0 x.length 1).isEmpty))) H:=rfl
theorem in_xr:rInU K b u (.ref p) H Q=rInR K b u p H Q:=rfl
theorem sl_s:rSlU K (.str x) lo hi H Q=(x.length<=sizeLine/\Q (.str (cutS x lo hi)) H):=rfl
theorem sl_r:rSlU K (.ref p) lo hi H Q=rSlR K p lo hi H Q:=rfl
theorem len_s:rLenU K [.str x] H Q=(x.length<=sizeLine/\Q (.int x.length) H):=rfl
theorem len_r:rLenU K [.ref p] H Q=∃ n:Nat,LenR K H p n/\Q (.int n) H:=rfl
theorem aq7:xK K cm [.ref p] H Q=rListR K cm p H Q:=rfl
theorem all_r:rAllB cm [.ref p] H Q=∃ bs:List Bool,cm=true/\H p=some (.lst (bs.map V.bl))/\Q (.bl (bs.all id)) H:=rfl
theorem isi_t{n:String} : rIsi [u,.ty n] H Q=∃ T,sQ H u=some T/\isTys.contains n=true/\Q (.bl (xL T n)) H:=rfl
theorem ord_s:rOrd [.str x] H Q=(x.length=1/\Q (.int (x.cps.getD 0 0:Nat)) H):=rfl
end
theorem forL(Pv:Nat->St->Hp->Prop)(h0:Pv 0 Y H)(hl:∀ i Y H,i<=xs.length->Pv i Y H->D9 K H a xs)(hs:∀ i x Y H,xs[i]?=some x->Pv i Y H->g x Y H fun σ2 H2=>tb { D with nx:=Pv (i+1),ct:=Pv (i+1),bk:=D.nx } σ2 H2)(hd:∀ Y H,Pv xs.length Y H->D.nx Y H):ForIt (aO K a) g tb D Y H:=alF Pv h0 hl hs hd
theorem forT(Pv:Nat->St->Hp->Prop)(h0:Pv 0 Y H)(hl:∀ i Y H,i<=xs.length->Pv i Y H->C6 K H a xs)(hs:∀ i x Y H,xs[i]?=some x->Pv i Y H->g x Y H fun σ2 H2=>tb { D with nx:=Pv (i+1),ct:=Pv (i+1),bk:=D.nx } σ2 H2)(hd:∀ Y H,Pv xs.length Y H->D.nx Y H):ForIt (dS K a) g tb D Y H:=anz Pv h0 hl hs hd
theorem forR(Pv:Nat->St->Hp->Prop)(h0:Pv 0 Y H)(hs:∀ i Y H,i<n->Pv i Y H->g (.int (lo+i)) Y H fun σ2 H2=>tb { D with nx:=Pv (i+1),ct:=Pv (i+1),bk:=D.nx } σ2 H2)(hd:∀ Y H,Pv n Y H->D.nx Y H):ForIt (o9 lo n) g tb D Y H:=ajS Pv h0 hs hd
noncomputable def CW (n:Nat) (fr:St) (Pv:Nat->List V->Hp->Prop) (i:Nat) (ys:List V) (σ2:St) (H2:Hp):Prop:=i<=n/\ys.length<=i/\(∃ v,σ2=v::fr)/\Pv i ys H2
theorem CW.put{fr:St}{Pv:Nat->List V->Hp->Prop}{o:Option V}(hi:i<n)(hy:ys.length<=i)(p:Pv (i+1) (ys++[y]) H):CW n fr Pv (i+1) (ys++[y]) (o::fr) H:=
 ⟨hi,by rw [C4,N3];lia,⟨_,rfl⟩,p⟩
theorem nO{fr:St}{Pv:Nat->List V->Hp->Prop}{o:Option V}(hi:i<n)(hy:ys.length<=i)(p:Pv (i+1) ys H):CW n fr Pv (i+1) ys (o::fr) H:=⟨hi,Nat.le_succ_of_le hy,⟨_,rfl⟩,p⟩
theorem compL(fr:St)(X7:compStart 1 ixs Y=none::fr)(Pv:Addr->Nat->List V->Hp->Prop)(h0:∀ D,H1 D=none->Pv D 0 [] (A0 H1 D (.lst [])))(hl:∀ D i ys H,H1 D=none->i<=xs.length->Pv D i ys H->D9 K H a xs)(hs:∀ D i x ys H,H1 D=none->i<xs.length->xs[i]?=some x->Pv D i ys H->H D=some (.lst ys)->ys.length<=i->c (some x::fr) H fun b H4=>
   if b=true then te (some x::fr) H4 fun y H5=>H5 D=some (.lst ys)/\ys.length<sizeLine/\CW xs.length fr (Pv D) (i+1) (ys++[y]) (some x::fr) (A0 H5 D (.lst (ys++[y])))
   else H4 D=some (.lst ys)/\CW xs.length fr (Pv D) (i+1) ys (some x::fr) H4)(hd:∀ D ys H,H1 D=none->Pv D xs.length ys H->H D=some (.lst ys)->ys.length<=xs.length->Q (.ref D) H):cF (aO K a) 1 ixs (gName 0) c te Y Q H1:=by
 intro D hD;refine ⟨xs.length,CW xs.length fr (Pv D),⟨F9 _,F9 _,⟨none,X7⟩,h0 D hD⟩,?_⟩;rintro i ys σ2 H2 ⟨hi,hy,⟨v,rfl⟩,p⟩ hDy;have q:=hl D i ys H2 hD hi p
 by_cases C9:i<xs.length
 .refine .inr ⟨C9,⟨xs,xs[i],q,by simp [C9]⟩,fun x H' y=>?_⟩;obtain ⟨e,y⟩:=y;subst e;exact hs D i x ys _ hD C9 (y xs q) p hDy hy
 .have e:i=xs.length:=by lia
  subst e;exact .inl ⟨⟨xs,q,B5 _⟩,hd D ys H2 hD p hDy hy⟩
theorem compT(fr:St)(X7:compStart 1 ixs Y=none::fr)(Pv:Addr->Nat->List V->Hp->Prop)(h0:∀ D,H1 D=none->Pv D 0 [] (A0 H1 D (.lst [])))(hl:∀ D i ys H,H1 D=none->i<=xs.length->Pv D i ys H->C6 K H a xs)(hs:∀ D i x ys H,H1 D=none->i<xs.length->xs[i]?=some x->Pv D i ys H->H D=some (.lst ys)->ys.length<=i->c (some x::fr) H fun b H4=>
   if b=true then te (some x::fr) H4 fun y H5=>H5 D=some (.lst ys)/\ys.length<sizeLine/\CW xs.length fr (Pv D) (i+1) (ys++[y]) (some x::fr) (A0 H5 D (.lst (ys++[y])))
   else H4 D=some (.lst ys)/\CW xs.length fr (Pv D) (i+1) ys (some x::fr) H4)(hd:∀ D ys H,H1 D=none->Pv D xs.length ys H->H D=some (.lst ys)->ys.length<=xs.length->Q (.ref D) H):cF (dS K a) 1 ixs (gName 0) c te Y Q H1:=by
 intro D hD;refine ⟨xs.length,CW xs.length fr (Pv D),⟨F9 _,F9 _,⟨none,X7⟩,h0 D hD⟩,?_⟩;rintro i ys σ2 H2 ⟨hi,hy,⟨v,rfl⟩,p⟩ hDy;have q:=hl D i ys H2 hD hi p
 by_cases C9:i<xs.length
 .refine .inr ⟨C9,⟨xs,xs[i],q,by simp [C9]⟩,fun x H' y=>?_⟩;obtain ⟨e,y⟩:=y;subst e;exact hs D i x ys _ hD C9 (y xs q) p hDy hy
 .have e:i=xs.length:=by lia
  subst e;exact .inl ⟨⟨xs,q,B5 _⟩,hd D ys H2 hD p hDy hy⟩
theorem compS(fr:St)(X7:compStart 1 ixs Y=none::fr)(Pv:Addr->Nat->List V->Hp->Prop)(h0:∀ D,H1 D=none->Pv D 0 [] (A0 H1 D (.lst [])))(hs:∀ D i x ys H,H1 D=none->i<z.cps.size->z.cps.toList[i]?=some x->Pv D i ys H->H D=some (.lst ys)->ys.length<=i->c (some (.str ⟨#[x]⟩)::fr) H fun b H4=>
   if b=true then te (some (.str ⟨#[x]⟩)::fr) H4 fun y H5=>H5 D=some (.lst ys)/\ys.length<sizeLine/\CW z.cps.size fr (Pv D) (i+1) (ys++[y]) (some (.str ⟨#[x]⟩)::fr) (A0 H5 D (.lst (ys++[y])))
   else H4 D=some (.lst ys)/\CW z.cps.size fr (Pv D) (i+1) ys (some (.str ⟨#[x]⟩)::fr) H4)(hd:∀ D ys H,H1 D=none->Pv D z.cps.size ys H->H D=some (.lst ys)->ys.length<=z.cps.size->Q (.ref D) H):cF (kE z) 1 ixs (gName 0) c te Y Q H1:=by
 intro D hD;refine ⟨z.cps.size,CW z.cps.size fr (Pv D),⟨F9 _,F9 _,⟨none,X7⟩,h0 D hD⟩,?_⟩;rintro i ys σ2 H2 ⟨hi,hy,⟨v,rfl⟩,p⟩ hDy
 by_cases C9:i<z.cps.size
 .refine .inr ⟨C9,C9,fun x H' y=>?_⟩;obtain ⟨e,c,hc,rfl⟩:=y;subst e;exact hs D i c ys _ hD C9 hc p hDy hy
 .have e:i=z.cps.size:=by lia
  subst e;exact .inl ⟨B5 _,hd D ys H2 hD p hDy hy⟩
theorem compR(fr:St)(X7:compStart 1 ixs Y=none::fr)(Pv:Addr->Nat->List V->Hp->Prop)(h0:∀ D,H1 D=none->Pv D 0 [] (A0 H1 D (.lst [])))(hs:∀ D i ys H,H1 D=none->i<n->Pv D i ys H->H D=some (.lst ys)->ys.length<=i->c (some (.int (lo+i))::fr) H fun b H4=>
   if b=true then te (some (.int (lo+i))::fr) H4 fun y H5=>H5 D=some (.lst ys)/\ys.length<sizeLine/\CW n fr (Pv D) (i+1) (ys++[y]) (some (.int (lo+i))::fr) (A0 H5 D (.lst (ys++[y])))
   else H4 D=some (.lst ys)/\CW n fr (Pv D) (i+1) ys (some (.int (lo+i))::fr) H4)(hd:∀ D ys H,H1 D=none->Pv D n ys H->H D=some (.lst ys)->ys.length<=n->Q (.ref D) H):cF (o9 lo n) 1 ixs (gName 0) c te Y Q H1:=by
 intro D hD;refine ⟨n,CW n fr (Pv D),⟨F9 _,F9 _,⟨none,X7⟩,h0 D hD⟩,?_⟩;rintro i ys σ2 H2 ⟨hi,hy,⟨v,rfl⟩,p⟩ hDy
 by_cases C9:i<n
 .refine .inr ⟨C9,C9,fun x H' y=>?_⟩;obtain ⟨e,y⟩:=y;subst e y;exact hs D i ys _ hD C9 p hDy hy
 .have e:i=n:=by lia
  subst e;exact .inl ⟨B5 _,hd D ys H2 hD p hDy hy⟩
theorem D1{p q:Addr}{o u:HO}(h:H p=some o)(n:H q=none):A0 H q u p=some o:=by rw [B1 (bY h n)];exact h
theorem Same.new{q:Addr}{u:HO}(n:H q=none):Same H (A0 H q u):=fun _ _ h=>D1 h n
theorem Same.put{q:Addr}{u:HO}(s:Same H0 H)(n:H0 q=none):Same H0 (A0 H q u):=fun b o h=>by rw [B1 (bY h n)];exact s b o h
theorem cxK{CX:j7}{P:Program}{w:World}{base:Heap}{sc:Scope}{o:List Env}{E:XK} : (cxOf CX P w K mg base N q sc f cd A o s H E).K=K:=rfl
theorem cxKn : X.nox.K=X.K:=rfl
theorem cxKb{sc:Scope} : (N6 X sc N' C zw zt fp pins).K=X.K:=rfl
theorem cxC{CX:j7}{P:Program}{w:World}{base:Heap}{sc:Scope}{o:List Env}{E:XK} : (cxOf CX P w K mg base N q sc f cd A o s H E).calm=true:=rfl
theorem cxCn : X.nox.calm=X.calm:=rfl
theorem cxCb{sc:Scope} : (N6 X sc N' C zw zt fp pins).calm=X.calm:=rfl
theorem iteD{c A B:Prop}[Decidable c](h1:c->A)(h2:¬ c->B):if decide c=true then A else B:=by
 by_cases h:c
 .rw [decide_eq_true h,if_pos rfl];exact h1 h
 .rw [decide_eq_false h,if_neg M4];exact h2 h
theorem iteN{c A B:Prop}[Decidable c](h1:¬ c->A)(h2:c->B):if (!decide c)=true then A else B:=by
 by_cases h:c
 .rw [decide_eq_true h];exact iteF (h2 h)
 .rw [decide_eq_false h];exact iteT (h1 h)
theorem Q7{p:Addr}(h:H p=some (.lst xs)):cC K "list" (.ref p) H:=.inl ⟨rfl,_,D9.of h⟩
theorem appOk{l:Addr}(h:H l=some (.lst xs))(hz:xs.length<sizeLine)(q:Q .non (A0 H l (.lst (xs++[y])))):nK (.ref l) [y] H Q:=⟨l,xs,y,rfl,rfl,h,hz,q⟩
theorem clrOk{l:Addr}(h:H l=some (.lst xs))(q:Q .non (A0 H l (.lst []))):wY (.ref l) [] H Q:=⟨l,xs,rfl,rfl,h,q⟩
theorem L3(h:n<=1000000):n<sizeLine:=jQ h 'h'
theorem O8(h:n<=1000000):n<=sizeLine:=Nat.le_of_lt (L3 h)
noncomputable def signB (c:Nat):Bool:=decide (33<=c)&&decide (c<=126)&&decide (c≠37)
noncomputable def nP (z:Str):Bool:=decide (1<=z.length)&&decide (z.length<=2)&&z.cps.toList.all signB
theorem gG(h:nP z=true):W0 z=true/\1<=z.length/\z.length<=2:=by
 unfold nP at h;simp only [T5,decide_eq_true_eq] at h;refine ⟨?_,h.1.1,h.1.2⟩;unfold W0;rw [Array.all_eq_true_iff_forall_mem];intro c hc
 have:=List.all_eq_true.mp h.2 c (Array.mem_toList_iff.mpr hc)
 unfold signB at this;simp only [T5,decide_eq_true_eq] at this;simp only [decide_eq_true_eq];lia
noncomputable def SG:List Nat:=[33,34,35,36]++(List.range 89).map (· + 38)
structure IsRows(H:Hp)(a:Addr)(rs:List Addr)(zss:List (List Str)):Prop where
 top:H a=some (.lst (rs.map V.ref))
 row:Paired (fun r (zs:List Str)=>H r=some (.lst (zs.map V.str))) rs zss
theorem IsRows.same{zss:List (List Str)}(R:IsRows H a rs zss)(s:Same H H'):IsRows H' a rs zss:=⟨s _ _ R.top,M5 R.row fun _ _ h=>s _ _ h⟩
theorem Paired.at{α β:Type}{F:α->β->Prop} : ∀ {l₁:List α} {l₂:List β} {i:Nat} {a:α},Paired F l₁ l₂->l₁[i]?=some a->∃ b,l₂[i]?=some b/\F a b
 | _,_,_,_,.nil,h=>by simp at h
 | _,_,0,_,.cons h t,e=>by simp at e;subst e;exact ⟨_,rfl,h⟩
 | _,_,i+1,_,.cons h t,e=>by
  obtain ⟨b,h1,h2⟩:=Paired.at (i:=i) t (by simpa using e);exact ⟨b,by simpa using h1,h2⟩
theorem nQ:∀ zs:List Str,aM (zs.map PyData.str)=0
 | []=>rfl
 | z::zs=>by rw [K5,aM,nQ zs,g4];rfl
theorem dX:∀ zs:List Int,aM (zs.map bV)=0
 | []=>rfl
 | z::zs=>by rw [K5,aM,dX zs,g4];rfl
theorem aip(xs ys:List Str):P7 (.list (xs.map .str)) (.list (ys.map .str))=decide (xs=ys):=by rw [P7,xJ]
noncomputable def dd (acc:List Str) (z:Str):List Str:=if z∈acc then acc else acc++[z]
noncomputable def G3 (acc zs:List Str):List Str:=zs.foldl dd acc
noncomputable def toldL (zss:List (List Str)):List Str:=zss.foldl G3 []
theorem dY(zs:List Str):∀ acc:List Str,(G3 acc zs).length<=acc.length+zs.length:=by
 induction zs with
 | nil=>intro acc;exact B5 _
 | cons z zs ih=>
  intro acc;have h1:=ih (dd acc z);have h2:(dd acc z).length<=acc.length+1:=by
   unfold dd
   split
   .lia
   .simp
  show (G3 (dd acc z) zs).length<=_;rw [K4];lia
theorem amg(h:zs[j]?=some z):G3 acc (zs.take (j+1))=dd (G3 acc (zs.take j)) z:=by
 rw [t9,h];simp [G3,aJ]
theorem akn{zss:List (List Str)}(h:zss[i]?=some zs):toldL (zss.take (i+1))=G3 (toldL (zss.take i)) zs:=by
 rw [t9,h];simp [toldL,aJ]
theorem sR(zss:List (List Str)):∀ acc,zss.foldl G3 acc=G3 acc zss.flatten:=by
 induction zss with
 | nil=>intro acc;rfl
 | cons zs zss ih=>
  intro acc;rw [List.foldl_cons,ih,fU];unfold G3;rw [aJ]
theorem nR(zss:List (List Str)):(toldL zss).length<=zss.flatten.length:=by
 unfold toldL;rw [sR]
 have:=dY zss.flatten []
 simpa using this
noncomputable def kvOf (zs:List Str):List (C5×V):=zs.map fun z=>(Sum.inr z,V.bl true)
theorem xM(z:Str):∀ acc:List Str,((kvOf acc).any fun kv=>decide (kv.1=(Sum.inr z:C5)))=decide (z∈acc)
 | []=>by simp [kvOf]
 | y::acc=>by
  have ih:=xM z acc;unfold kvOf at ih ⊢
  rw [K5,bP,ih]
  by_cases e:y=z
  .subst e
   simp
  .have e1:decide ((Sum.inr y:C5)=Sum.inr z)=false:=decide_eq_false fun q=>e (Sum.inr.inj q)
   have e2:decide (z∈y::acc)=decide (z∈acc):=by
    by_cases h:z∈acc
    .rw [decide_eq_true h,decide_eq_true (N4 _ h)]
    .rw [decide_eq_false h,decide_eq_false];intro q
     rcases E7.mp q with q | q
     .exact e q.symm
     .exact h q
   rw [e2];simp only [e1,Bool.false_or]
theorem agD(acc:List Str)(z:Str):putK (kvOf acc) (Sum.inr z:C5) (.bl true)=kvOf (dd acc z):=by
 unfold putK dd;rw [xM]
 by_cases h:z∈acc
 .rw [decide_eq_true h,if_pos rfl,if_pos h];unfold kvOf;rw [b0];refine fR fun y _=>?_
  show (if (Sum.inr y:C5)=Sum.inr z then ((Sum.inr y:C5),V.bl true) else (Sum.inr y,V.bl true))=_
  split <;> rfl
 .rw [decide_eq_false h,if_neg M4,if_neg h];unfold kvOf;rw [E2];rfl
theorem ako(acc:List Str):((kvOf acc).map fun kv=>kV kv.1)=acc.map V.str:=by
 unfold kvOf;rw [b0];rfl
theorem xN(z:Str):∀ acc:List Str,dW (.str z) (acc.map V.str)=decide (z∈acc)
 | []=>by simp [dW]
 | y::acc=>by
  have ih:=xN z acc;unfold dW at ih ⊢
  rw [K5,bP,ih];show ((y==z) || decide (z∈acc))=_
  by_cases e:y=z
  .subst e
   simp
  .have e1:(y==z)=false:=by simpa using e
   rw [e1,Bool.false_or]
   by_cases h:z∈acc
   .rw [decide_eq_true h,decide_eq_true (N4 _ h)]
   .rw [decide_eq_false h,decide_eq_false];intro q
    rcases E7.mp q with q | q
    .exact e q.symm
    .exact h q
theorem agE:∀ acc:List Str,(acc.map V.str).all flatV=true
 | []=>rfl
 | _::acc=>by rw [K5,List.all_cons,agE acc];rfl
theorem G0{α β:Type}{f:α->β}{l:List α}{y:β}(h:(l.map f)[i]?=some y):∃ x,l[i]?=some x/\y=f x:=by
 rw [T8] at h;cases e:l[i]? with
 | none=>rw [e] at h;cases h
 | some x=>rw [e] at h;exact ⟨x,rfl,(Option.some.inj h).symm⟩
noncomputable def SS:Str:=Str.ofString "!\"#$&'()*+,-./0123456789:;<=>?@ABCDEFGHIJKLMNOPQRSTUVWXYZ[\\]^_`"++Str.ofString "abcdefghijklmnopqrstuvwxyz{|}~"
theorem drawn{i:Int}(hx:∀ x∈xs,∃ n,x=V.int n)(h0:0<=i)(h1:i<xs.length):∃ n,G4 xs i=some (V.int n):=by
 obtain ⟨v,h2,h3⟩:=kF h0 h1;obtain ⟨n,rfl⟩:=hx v h3;exact ⟨n,h2⟩
theorem nS{α β:Type}{F:α->β->Prop}{a:α}{b:β} : ∀ {l₁:List α} {l₂:List β},Paired F (l₁++[a]) (l₂++[b])->Paired F l₁ l₂/\F a b
 | [],[],.cons h _=>⟨.nil,h⟩
 | [],y::l₂,h=>by
  have:=Paired.length h
  simp at this
 | x::l₁,[],h=>by
  have:=Paired.length h
  simp at this
 | x::l₁,y::l₂,.cons h t=>by
  obtain ⟨h1,h2⟩:=nS (l₁:=l₁) (l₂:=l₂) t;exact ⟨.cons h h1,h2⟩
theorem nU{α β:Type}{F G:α->β->Prop} : ∀ {l₁:List α} {l₂:List β},Paired F l₁ l₂->(∀ a∈l₁,∀ b,F a b->G a b)->Paired G l₁ l₂
 | _,_,.nil,_=>.nil
 | _,_,.cons h t,k=>.cons (k _ O0 _ h) (nU t fun a ha b hb=>k a (N4 _ ha) b hb)
structure RowsAt(H0 H:Hp)(a:Addr)(rs:List Addr)(zss:List (List Str)):Prop where
 rows:IsRows H a rs zss
 nd:(a::rs).Nodup
 new:∀ r∈a::rs,H0 r=none
 same:Same H0 H
theorem RowsAt.live{zss:List (List Str)}(R:RowsAt H0 H a rs zss)(h:r∈a::rs):∃ o,H r=some o:=by
 rcases E7.mp h with h | h
 .subst h;exact ⟨_,R.rows.top⟩
 .obtain ⟨i,hi,rfl⟩:=a0.mp h;obtain ⟨zs,_,h2⟩:=Paired.at R.rows.row (i:=i) (a:=rs[i]) (by simp [hi]);exact ⟨_,h2⟩
theorem agF(x:Str)(lo hi:Option Int):(cutS x lo hi).cps.toList=(x.cps.toList.drop (HT.sIx x.length 0 lo)).take (HT.sIx x.length x.length hi-HT.sIx x.length 0 lo):=by
 unfold cutS
 simp
structure QE(X:Cx)(e:Expr)(t:TE):Prop where
 out:PE X e t
structure QT(X:Cx)(e:Expr)(t:TT):Prop where
 out:PT X e t
structure QW(X:Cx)(e:Expr)(t:TT):Prop where
 out:PW X e t
structure QA(X:Cx)(es:List Expr)(t:TA):Prop where
 out:PA X es t
structure QS(X:Cx)(st:Stmt)(t:TS):Prop where
 out:PS X st t
structure QSs(X:Cx)(st:List Stmt)(t:TS):Prop where
 out:b9 X st t
structure QG(X:Cx)(tg:Expr)(t:TG):Prop where
 out:PG X tg t
structure QGs(X:Cx)(tg:List Expr)(t:o8):Prop where
 out:nG X tg t
structure QI(X:Cx)(tg iter:Expr)(wi:TI):Prop where
 out:PI X tg iter wi
structure QO(X:Cx)(e:Option Expr)(t:TO):Prop where
 out:PO X e t
structure QIfs(X:Cx)(ifs:List Expr)(t:TT):Prop where
 out:PIfs X ifs t
structure QOp(X:Cx)(f:Value->Value->Sem Value)(r:R2):Prop where
 out:L0 X f r
structure QUn(X:Cx)(f:Value->Sem Value)(r:V->Hp->VK->Prop):Prop where
 out:sE X f r
structure QCall(X:Cx)(f:Value)(r:List V->Hp->VK->Prop):Prop where
 out:CallR X f r
structure QMt(X:Cx)(id:String)(r:V->List V->Hp->VK->Prop):Prop where
 out:sJ X id r
structure QIp(X:Cx)(op:Operator)(t:fZ):Prop where
 out:wL X op t
structure QIn(X:Cx)(op:Operator)(t:V->V->Hp->VK->Prop):Prop where
 out:InOp X op t
section
variable {X:Cx} {a b c e o i value:Expr} {es:List Expr} {ta tb tc te to ti tv:TE} {tA tB':TT} {t u:TS} {tl:TA} {pos p pos' tpos:Pos} {rest:List Expr} {r r':R2} {x:Str}
theorem A4{i j} : QE X (.Constant (.int i) j pos) (tC (.int i)):=⟨amV⟩
theorem qe_bl{b j} : QE X (.Constant (.bool b) j pos) (tC (.bl b)):=⟨pe_bl⟩
theorem G5{x j} : QE X (.Constant (.str x) j pos) (tC (.str x)):=⟨ao5⟩
theorem qe_v(hN:X.N[n]?=some x)(hv:nF X.env.scope x)(hd:(x==("__debug__" : Str))=false)(U1:(x==("__classdict__" : Str))=false):QE X (.Name x pos) (tVar n):=⟨amU hN hv hd U1⟩
theorem qv(n:Nat)(hN:X.N[n]?=some x:=by rfl)(hv:nF X.env.scope x:=by first | exact Or.inl rfl | exact Or.inr (Or.inl rfl) | exact Or.inr (Or.inr rfl))(hd:(x==("__debug__" : Str))=false:=by decide)(U1:(x==("__classdict__" : Str))=false:=by decide):QE X (.Name x pos) (tVar n):=⟨amU hN hv hd U1⟩
theorem kG{i:Int}(h:∃ t,X.mg x=some (.int i t))(hg:Gl X x:=by rfl)(hd:(x==("__debug__" : Str))=false:=by decide):QE X (.Name x p) (tC (.int i)):=⟨al2 h hg hd⟩
theorem sS{a:Addr}(h:X.mg x=some (.ref a))(hg:Gl X x:=by rfl)(hd:(x==("__debug__" : Str))=false:=by decide):QE X (.Name x p) (tC (.ref a)):=⟨al3 h hg hd⟩
theorem qe_ty{n:String}(hm:X.mg x=none)(hv:bootBuiltins x=some (.type n))(hg:Gl X x:=by rfl)(hn:x≠"__name__":=by decide)(hd:(x==("__debug__" : Str))=false:=by decide):QE X (.Name x p) (tC (.ty n)):=⟨anq hg hm hv rfl hn hd⟩
theorem qe_op{op:Operator}(ho:QOp X (binaryOp op) r)(ha:QE X a ta)(hb:QE X b tb):QE X (.BinOp a op b pos) (bZ r ta tb):=⟨pe_op ho.out ha.out hb.out⟩
theorem qe_un{op:UnaryOp}{r:V->Hp->VK->Prop}(ho:QUn X (unaryOp op) r)(ha:QE X a ta):QE X (.UnaryOp op a pos) (wO r ta):=⟨pe_un ho.out ha.out⟩
theorem aos(ha:QE X a ta)(hK:X.K=K:=by rfl):QE X (.UnaryOp .Not a pos) (tNotT K ta):=by subst hK;exact ⟨anV ha.out⟩
theorem am3{op}(ha:QE X a ta):QE X (.BoolOp op [a] pos) ta:=⟨ao9 ha.out⟩
theorem xO(ha:QE X a ta)(hb:QE X (.BoolOp .And (b::rest) pos) tb):QE X (.BoolOp .And (a::b::rest) pos) (tAndV ta tb):=⟨aqa ha.out hb.out⟩
theorem gH{op:CmpOp}(ho:QOp X (compareOp op) r)(ha:QE X a ta)(hb:QE X b tb)(hm:behindInMarks op b=false:=by first | exact amX _ | rfl):QE X (.Compare a [op] [b] pos) (bZ r ta tb):=⟨anB ho.out ha.out hb.out hm⟩
theorem amh{op op':CmpOp}(ho:QOp X (compareOp op) r)(x5:QOp X (compareOp op') r')(ha:QE X a ta)(hb:QE X b tb)(hc:QE X c tc)(hm:lastMarks [op,op'] [b,c]=false:=by with_unfolding_all rfl):QE X (.Compare a [op,op'] [b,c] pos) (wP r r' ta tb tc):=⟨alG ho.out x5.out ha.out hb.out hc.out hm⟩
theorem aiq(hc:QT X c tA)(ha:QE X a ta)(hb:QE X b tb):QE X (.IfExp c a b pos) (wJ tA ta tb):=⟨alA hc.out ha.out hb.out⟩
theorem A3:QA X [] tNil:=⟨aqv⟩
theorem qa_c(ha:QE X e te)(hr:QA X es tl)(h:M6 e=false:=by rfl):QA X (e::es) (tCons te tl):=⟨pa_c ha.out hr.out h⟩
theorem M7(h:QA X es tl):QE X (.List es pos) (tLst tl):=⟨aqx h.out⟩
theorem K7{x1}(h:QA X es tl):QE X (.Tuple es x1 pos) (tTup tl):=⟨aqw h.out⟩
theorem gI:QE X (.Dict [] [] pos) xD:=⟨alU⟩
theorem O4:QO X none wU:=⟨anL⟩
theorem I0(h:QE X e te):QO X (some e) (tPart te):=⟨anM h.out⟩
theorem L9{lo hi:Option Expr}{tlo thi:TO}{p2:Pos}(he:QE X e te)(hl:QO X lo tlo)(hu:QO X hi thi)(hK:X.K=K:=by rfl):QE X (.Subscript e (.Slice lo hi none p2) pos) (wV (rSlU K) te tlo thi):=by subst hK;exact ⟨alO p_sl he.out hl.out hu.out⟩
theorem e8(hu:X.A.units+1<cLine)(ho:QE X o to)(hi:QE X i ti)(hs:NoSl i:=by exact fun _ _=>rfl):QE X (.Subscript o i pos) (tDGet to ti):=⟨anQ hu ho.out hi.out hs⟩
theorem qe_ix(ha:QE X a ta)(hb:QE X b tb)(hs:aj7 b:=by exact fun _ _=>rfl)(hK:X.K=K:=by rfl):QE X (.Subscript a b pos) (bZ (jY K) ta tb):=by subst hK;exact ⟨pe_ix aqB ha.out hb.out hs⟩
theorem qe_cB{id:String}{rc:List V->Hp->VK->Prop}(hc:QCall X (.builtin id) rc)(hm:X.mg x=none)(hv:bootBuiltins x=some (.builtin id))(ha:QA X (e::es) tl)(hg:Gl X x:=by rfl)(h1:M6 e=false:=by rfl)(h2:Z1 es=true:=by rfl)(hn:x≠"__name__":=by decide)(U3:(x==("__debug__" : Str))=false:=by decide) :
  QE X (.Call (.Name x p) (e::es) [] pos) (gC rc tl):=⟨pe_cB hc.out hg hm hv ha.out h1 h2 hn U3⟩
theorem qe_cT{T:String}{rc:List V->Hp->VK->Prop}(hc:QCall X (.type T) rc)(hm:X.mg x=none)(hv:bootBuiltins x=some (.type T))(ha:QA X (e::es) tl)(hg:Gl X x:=by rfl)(h1:M6 e=false:=by rfl)(h2:Z1 es=true:=by rfl)(hn:x≠"__name__":=by decide)(U3:(x==("__debug__" : Str))=false:=by decide) :
  QE X (.Call (.Name x p) (e::es) [] pos) (gC rc tl):=⟨pe_cT hc.out hg hm hv ha.out h1 h2 hn U3⟩
theorem qe_mB{T id:String}{rm:V->List V->Hp->VK->Prop}(pa:PlainAttrs T)(slot:Slot T name id)(X6:typeOf (.builtin id)=pure (.type "method_descriptor"))(hm:QMt X id rm)(ho:QE X o to)(ha:QA X (e::es) tl)(h1:M6 e=false:=by rfl)(h2:Z1 es=true:=by rfl)(h3:decide ((e::es).length<30)=true:=by rfl)(G7:attributeBase o name X.env (eval o X.env)=eval o X.env:=by rfl)(G8:(apos.endLine==cpos.line)=true:=by rfl)(hK:X.K=K:=by rfl):QE X (.Call (.Attribute o name apos) (e::es) [] cpos) (sK K T rm to tl):=by subst hK;exact ⟨pe_mB pa slot X6 hm.out ho.out ha.out h1 h2 h3 G7 G8⟩
theorem qe_m0{T id:String}{rm:V->List V->Hp->VK->Prop}(pa:PlainAttrs T)(slot:Slot T name id)(X6:typeOf (.builtin id)=pure (.type "method_descriptor"))(hm:QMt X id rm)(ho:QE X o to)(G7:attributeBase o name X.env (eval o X.env)=eval o X.env:=by rfl)(G8:(apos.endLine==cpos.line)=true:=by rfl)(hK:X.K=K:=by rfl):QE X (.Call (.Attribute o name apos) [] [] cpos) (tBM0 K T rm to):=by subst hK;exact ⟨aqD pa slot X6 hm.out ho.out G7 G8⟩
theorem C8(G:FO X.prog X.w X.K X.mg X.base k x ps dvs sp)(hr:Room k X.A)(ha:QA X (e::es) tl)(hg:Gl X x:=by rfl)(h1:M6 e=false:=by rfl)(h2:Z1 es=true:=by rfl)(U3:(x==("__debug__" : Str))=false:=by decide) :
  QE X (.Call (.Name x p) (e::es) [] pos) (tCall sp dvs E0 tl):=⟨al1 G hr ha.out hg h1 h2 U3⟩
theorem D6{op:CmpOp}(ho:QOp X (compareOp op) r)(ha:QE X a ta)(hb:QE X b tb)(hm:behindInMarks op b=false:=by first | exact amX _ | rfl):QT X (.Compare a [op] [b] pos) (tTest (bZ r ta tb)):=⟨anC ho.out ha.out hb.out hm⟩
theorem sT(ha:QT X a tA):QT X (.UnaryOp .Not a pos) (tNot tA):=⟨ao8 ha.out⟩
theorem v8(ha:QT X a tA):QW X (.BoolOp .And [a] pos) tA:=⟨anr ha.out⟩
theorem kH(ha:QT X a tA):QW X (.BoolOp .Or [a] pos) tA:=⟨ao6 ha.out⟩
theorem p0(ha:QT X a tA)(hb:QW X (.BoolOp .And (b::rest) pos) tB'):QW X (.BoolOp .And (a::b::rest) pos) (tAnd tA tB'):=⟨ao7 ha.out hb.out⟩
theorem qw_or(ha:QT X a tA)(hb:QW X (.BoolOp .Or (b::rest) pos) tB'):QW X (.BoolOp .Or (a::b::rest) pos) (wI tA tB'):=⟨pw_or ha.out hb.out⟩
theorem QW.pt(h:QW X a tA):QT X a tA:=⟨h.out.pt⟩
theorem W7(ha:QE X a ta)(he:∀ whole,isTrue a X.env whole=(do let v <- whole;standAt a.pos;holding [v] (truthy v)):=by intro _;rfl)(hK:X.K=K:=by rfl):QT X a (tTru K ta):=by subst hK;exact ⟨aqJ ha.out he⟩
variable {st:Stmt} {sts:List Stmt}
theorem F7:QSs X [] tNext:=⟨ans⟩
theorem A7(h:QS X st t):QSs X [st] t:=⟨ant h.out⟩
theorem A8(h:QS X st t)(h2:QSs X sts u):QSs X (st::sts) (tSeq t u):=⟨alB h.out h2.out⟩
theorem E4(he:QE X e te):QS X (.Return (some e) pos) (tRet te):=⟨aqc he.out⟩
theorem sU:QS X st wK:=⟨alC⟩
theorem C7(hN:X.N.Nodup)(hi:X.N[n]?=some x)(hx:o7 X.env.scope x)(he:QE X e te)(hs:swapsWith e (some (.Name x pos')) pos.line X.env=pure false:=by rfl)(hf:X.fn x=true:=by rfl):QS X (.Assign [.Name x pos'] e pos) (tAsg te (gName n)):=⟨aqg hN hi hx he.out hs (.inl hf)⟩
theorem kI{f:Str}(ho:QE X o to)(hv:QE X value tv)(hs:swapsWith value (some (.Attribute o f pos')) pos.line X.env=pure false:=by rfl)(hK:X.K=K:=by rfl):QS X (.Assign [.Attribute o f pos'] value pos) (sFld K to tv f):=by subst hK;exact ⟨aqs ho.out hv.out hs⟩
theorem v9{f:Str}(ho:QE X o to)(hb:attributeBase o f X.env (eval o X.env)=eval o X.env:=by rfl)(hK:X.K=K:=by rfl):QE X (.Attribute o f pos) (tFld K to f):=by subst hK;exact ⟨aqr ho.out hb⟩
theorem e9(hu:X.A.units+1<cLine)(ho:QE X o to)(hi:QE X i ti)(hv:QE X value tv)(hs:swapsWith value (some (.Subscript o i pos')) pos.line X.env=pure false:=by rfl):QS X (.Assign [.Subscript o i pos'] value pos) (sDPut to ti tv):=⟨anR hu ho.out hi.out hv.out hs⟩
theorem akq{op:Operator}{rd:V->V->Hp->VK->Prop}(hu:X.A.units+1<cLine)(ho:QE X o to)(hi:QE X i ti)(hv:QE X value tv)(hop:QIn X op rd)(ha:∀ ov iv new,augStore i ov iv new=(do holding [new,ov,iv] (setItem ov iv new);release [new,ov,iv] [];pure .next):=by exact fun _ _ _=>rfl) :
  QS X (.AugAssign (.Subscript o i tpos) op value pos) (sDAug to ti tv rd):=⟨anS hu ho.out hi.out hv.out hop.out ha⟩
theorem aq8(he:QE X e te)(hg:QG X tg g)(hs:swapsWithSole [tg] e pos.line X.env=pure false:=by rfl)(hw:swappedStores [tg] e X.env=pure none:=by rfl)(h1:(assignEach [tg] X.env).map (·.2)=[assign tg X.env]:=by rfl):QS X (.Assign [tg] e pos) (tAsg te g):=⟨aqf he.out hg.out hs hw h1⟩
theorem am4{op:Operator}{tip:fZ}(hN:X.N.Nodup)(hi:X.N[n]?=some x)(hx:o7 X.env.scope x)(he:QE X e te)(ho:QIp X op tip)(hf:X.fn x=true:=by rfl):QS X (.AugAssign (.Name x pos') op e pos) (tAug n te tip):=⟨aqh hN hi hx he.out ho.out (.inl hf)⟩
theorem O9(he:QE X e te)(hs:swapsWith e none pos.line X.env=pure false:=by rfl):QS X (.Expr e pos) (tDrop te):=⟨anu he.out hs⟩
theorem qs_if{sa sb:List Stmt}(hc:QT X c tA)(ha:QSs X sa t)(hb:QSs X sb u):QS X (.If c sa sb pos) (tIfS tA t u):=⟨ps_if hc.out ha.out hb.out⟩
theorem nV{body:List Stmt}(hp:PassesOwn 'b' X.A X.env X.xe)(hc:QT X c tA)(hb:QSs X body t):QS X (.While c body [] pos) (sD tA t):=⟨alE hp hc.out hb.out⟩
theorem L6{body:List Stmt}{wi:TI}(hp:PassesOwn 'b' X.A X.env X.xe)(hi:QI X tg iter wi)(hg:QG X tg g)(hb:QSs X body t)(hc:X.calm=true:=by rfl)(hs:∀ x,foldedSetIterable iter X.env x=pure x:=by intro _;rfl):QS X (.For tg iter body [] pos) (tFor wi g t):=⟨aqk hp hc hi.out hg.out hb.out hs⟩
theorem D3(hN:X.N.Nodup)(hi:X.N[n]?=some x)(hx:o7 X.env.scope x)(hf:X.fn x=true\/X.env.scope.names.lookup x=some .local:=by first | exact .inl rfl | exact .inr rfl | assumption):QG X (.Name x pos) (gName n):=⟨anv hN hi hx hf⟩
theorem k4:QGs X [] gNil:=⟨anw⟩
theorem O2{gs:o8}(h1:QG X e g)(h2:QGs X es gs)(hs:(assignEach (e::es) X.env).map (·.2)=assign e X.env::(assignEach es X.env).map (·.2):=by rfl):QGs X (e::es) (gCons g gs):=⟨alD h1.out h2.out hs⟩
theorem k5{gs:o8}(h:QGs X es gs)(hc:X.calm=true:=by rfl)(hn:(assignEach es X.env).length=n:=by rfl)(Q8:(assignEach es X.env).findIdx? (·.1)=none:=by rfl)(hK:X.K=K:=by rfl):QG X (.Tuple es k pos) (gTup K n gs):=by subst hK;exact ⟨aqd hc h.out hn Q8⟩
variable {tg:Expr}
theorem P5(h:QE X e te)(hK:X.K=K:=by rfl):QI X tg e (iList K te):=by subst hK;exact ⟨anx h.out⟩
theorem gJ(h:QE X e te)(hK:X.K=K:=by rfl):QI X tg e (iTup K te):=by subst hK;exact ⟨aqj h.out⟩
theorem aq9(h:QE X e te):QI X tg e (iStr te):=⟨aqP h.out⟩
theorem qi_r1(hm:X.mg "range"=none)(ha:QA X [a] tl)(hg:Gl X "range":=by rfl)(h1:M6 a=false:=by rfl):QI X tg (.Call (.Name "range" p) [a] [] pos) (iRng1 tl):=⟨pi_r1 hg hm ha.out h1⟩
theorem qi_r2(hm:X.mg "range"=none)(ha:QA X [a,b] tl)(hg:Gl X "range":=by rfl)(h1:M6 a=false:=by rfl)(h2:M6 b=false:=by rfl):QI X tg (.Call (.Name "range" p) [a,b] [] pos) (iRng2 tl):=⟨pi_r2 hg hm ha.out h1 h2⟩
theorem k6:QIfs X [] tYes:=⟨alX⟩
theorem dZ(h:QT X c tA):QIfs X [c] tA:=⟨alY h.out⟩
variable {sc:Scope} {N':List Str} {k:Nat} {ixs:List Nat} {ifs:List Expr} {wi:TI} {g:TG} {elt:Expr}
theorem k7(C:CompOk X.N X.env.scope.names sc N' k ixs)(hi:QI X tg e wi)(hg:∀ C zw zt fp pins,QG (N6 X sc N' C zw zt fp pins) tg g)(hc:∀ C zw zt fp pins,QIfs (N6 X sc N' C zw zt fp pins) ifs tA)(he:∀ C zw zt fp pins,QE (N6 X sc N' C zw zt fp pins) elt te)(L8:X.calm=true:=by rfl)(hs:∀ x,foldedSetIterable e X.env x=pure x:=by intro _;rfl):QE X (.ListComp elt [⟨tg,e,ifs,0⟩] sc pos) (tComp wi k ixs g tA te):=
 ⟨anU C L8 hi.out (fun _ _ _ _ _=>(hg _ _ _ _ _).out) (fun _ _ _ _ _=>(hc _ _ _ _ _).out) (fun _ _ _ _ _=>(he _ _ _ _ _).out) hs⟩
theorem gK(hN:X.N.Nodup)(hiN:X.N[n]?=some x)(hx:o7 X.env.scope x)(C:CompOk X.N X.env.scope.names sc N' k ixs)(hi:QI X tg e wi)(hg:∀ C zw zt fp pins,QG (N6 X sc N' C zw zt fp pins) tg g)(hc:∀ C zw zt fp pins,QIfs (N6 X sc N' C zw zt fp pins) ifs tA)(he:∀ C zw zt fp pins,QE (N6 X sc N' C zw zt fp pins) elt te)(pZ:swapsWith (.ListComp elt [⟨tg,e,ifs,0⟩] sc pos) (some (.Name x pos')) spos.line X.env=pure true:=by rfl)(L8:X.calm=true:=by rfl)(hf:X.fn x=true:=by rfl)(hs:∀ x,foldedSetIterable e X.env x=pure x:=by intro _;rfl) :
  QS X (.Assign [.Name x pos'] (.ListComp elt [⟨tg,e,ifs,0⟩] sc pos) spos) (tAsg (tComp wi k ixs g tA te) (gName n)):=
 ⟨ajc hN hiN hx C L8 hi.out (fun _ _ _ _ _=>(hg _ _ _ _ _).out) (fun _ _ _ _ _=>(hc _ _ _ _ _).out) (fun _ _ _ _ _=>(he _ _ _ _ _).out) pZ (.inl hf) hs⟩
theorem q_add(hK:X.K=K:=by rfl):QOp X (binaryOp .Add) (rAddU K):=by subst hK;exact ⟨p_add⟩
theorem q_sub:QOp X (binaryOp .Sub) (aP fun i j=>.int (i-j)):=⟨p_sub⟩
theorem q_mul:QOp X (binaryOp .Mult) rMulU:=⟨p_mul⟩
theorem L7:QOp X (binaryOp .FloorDiv) (rI CDiv fun i j=>.int (i / j)):=⟨aqK⟩
theorem q_mod:QOp X (binaryOp .Mod) (rI (fun _ j=>0<j) fun i j=>.int (i % j)):=⟨p_mod⟩
theorem q_eq(hu:X.A.units+64<cLine)(hK:X.K=K:=by rfl):QOp X (compareOp .Eq) (rEqU K):=by subst hK;exact ⟨p_eq hu⟩
theorem q_ne(hu:X.A.units+64<cLine)(hK:X.K=K:=by rfl):QOp X (compareOp .NotEq) (rNeU K):=by subst hK;exact ⟨p_ne hu⟩
theorem q_lt:QOp X (compareOp .Lt) rLtU:=⟨p_lt⟩
theorem q_le:QOp X (compareOp .LtE) rLeU:=⟨p_le⟩
theorem q_gt:QOp X (compareOp .Gt) rGtU:=⟨p_gt⟩
theorem q_in(hu:X.A.units+64<cLine)(hK:X.K=K:=by rfl):QOp X (compareOp .In) (rInU K false):=by subst hK;exact ⟨p_in hu⟩
theorem sV(hu:X.A.units+64<cLine)(hK:X.K=K:=by rfl):QOp X (compareOp .NotIn) (rInU K true):=by subst hK;exact ⟨anW hu⟩
theorem q_neg:QUn X (unaryOp .USub) (rU fun i=>.int (-i)):=⟨aqq⟩
theorem q_len(hK:X.K=K:=by rfl):QCall X (.builtin "len") (rLenU K):=by subst hK;exact ⟨p_len⟩
theorem q_isi:QCall X (.builtin "isinstance") rIsi:=⟨alZ⟩
theorem k8(hK:X.K=K:=by rfl)(qB:X.calm=calm:=by rfl):QCall X (.type "list") (xK K calm):=by subst hK;subst qB;exact ⟨aqN⟩
theorem V0:QMt X "list.append" nK:=⟨fun pins s Y H x xs v us Q I rx rv h=>agu pins s Y H x xs v us Q I rx rv h⟩
theorem aot:QMt X "list.clear" wY:=⟨fun pins s Y H x xs v us Q I rx rv h=>alQ pins s Y H x xs v us Q I rx rv h⟩
theorem akr:QMt X "list.reverse" ail:=⟨fun pins s Y H x xs v us Q I rx rv h=>ajb pins s Y H x xs v us Q I rx rv h⟩
theorem am5:QIp X .Add (wM fun i j=>i+j):=⟨aqi⟩
theorem ara:QIn X .Add rAdd:=⟨aqt⟩
theorem arb:QIn X .Sub rSub:=⟨aqu⟩
end
noncomputable def ModD (P:Program) (w:World) (K:PySem.W.Frag) (a:Addr) (kvs:List (C5×V)):Prop:=(a==sysModules)=false/\∀ h:Heap,K.In h->∃ vs,KV kvs vs/\h.DictOf (P9 P w) a vs
noncomputable abbrev ModE (w:World):List DictEntry->List (C5×V)->Prop:=Paired fun e kv=>keyIs kv.1 e.key=true/\e.hash=keyH w kv.1/\RelV kv.2 e.val
theorem ModE.pairs{P:Program}{w:World} : ∀ {es:List DictEntry} {kvs:List (C5×V)},ModE w es kvs->∃ vs:List (C5×Value),KV kvs vs/\Pairs (P9 P w) es vs/\(∀ e∈es,∃ k,(P9 P w).is k e.key=true/\e.hash=(P9 P w).hash k)/\vs.map (·.1)=kvs.map (·.1)
 | _,_,.nil=>⟨[],.nil,.nil,fun e h=>(nomatch h),rfl⟩
 | e::es,kv::kvs,.cons ⟨h1,h2,h3⟩ t=>by
  obtain ⟨vs,a1,a2,a3,a4⟩:=ModE.pairs (P:=P) t;refine ⟨(kv.1,e.val)::vs,.cons ⟨rfl,h3⟩ a1,.cons h1 rfl a2,fun e' he=>?_,by rw [K5,K5,a4]⟩
  rcases E7.mp he with z | z
  .rw [z];exact ⟨kv.1,h1,h2⟩
  .exact a3 e' z
theorem aou{P:Program}{w:World}{es:Array DictEntry}{ep:Nat}(l:K.lookup a=some { cls:=.type "dict",dict:=none,data:=.dict es ep,slots:=#[] })(hs:(a==sysModules)=false)(he:ModE w es.toList kvs)(hn:(kvs.map (·.1)).Nodup):ModD P w K a kvs:=by
 refine ⟨hs,fun h X=>?_⟩;obtain ⟨vs,a1,a2,a3,a4⟩:=he.pairs (P:=P);exact ⟨vs,a1,_,es,ep,X a _ l,⟨rfl,rfl,rfl⟩,rfl,fun e h=>a3 e (Array.mem_toList_iff.mpr h),a2,by rw [a4];exact hn⟩
noncomputable def rInM (neg:Bool) (a:Addr) (kvs:List (C5×V)):R2:=fun x y H Q=>y=.ref a/\∃ k,x=kV k/\Q (.bl (neg.xor (valV kvs k).isSome)) H
noncomputable def am6 (a:Addr) (kvs:List (C5×V)) (to ti:TE):TE:=fun Y H Q=>to Y H fun x H1=>ti Y H1 fun y H2=>x=.ref a/\∃ k v,y=kV k/\valV kvs k=some v/\Q v H2
section
variable {X:Cx} {a:Addr} {kvs:List (C5×V)} {o i:Expr} {to ti:TE} {pos:Pos}
theorem q_inM(M:ModD X.prog X.w X.K a kvs):QOp X (compareOp .In) (rInM false a kvs):=⟨by
 sleep 0;obtain ⟨rfl,k,rfl,q⟩:=h;obtain rfl:u=Value.ref a:=ry;obtain ⟨hd,M⟩:=M;obtain ⟨vs,rel,dd⟩:=M s.heap I.kIn;refine wpAny_in_of (kV_is rx) hd dd.mapOf ?_;rw [<- (rel.val k).isSome_eq];exact ⟨.bl _,H,I.tok _,rfl,by simpa using q⟩⟩
theorem ais(M:ModD X.prog X.w X.K a kvs)(ho:QE X o to)(hi:QE X i ti)(hs:NoSl i:=by exact fun _ _=>rfl):QE X (.Subscript o i pos) (am6 a kvs to ti):=⟨by
 sleep 1;refine akd PySem.F.slot_dict_getitem.lookup hs (B3 (ho.out pins s Y H _ I h) fun u s1 ⟨x,H1,I1,rx,q1⟩=>B3 (hi.out pins s1 Y H1 _ I1 q1) fun iv s2 ⟨y,H2,I2,ry,ex,k,v,ey,l,q2⟩=>?_);subst ex ey;obtain rfl:u=Value.ref a:=rx;obtain ⟨hd,M⟩:=M;obtain ⟨vs,rel,dd⟩:=M s2.heap I2.kIn;obtain ⟨w',hw,rw'⟩:=sG (v:=v) (o:=valueAt vs k) (by rw [<- l];exact rel.val k);exact ⟨dd.typeIs,wpAny_getItem_of (kV_is ry) dd.mapOf hw ⟨v,H2,I2.tok _,rw',q2⟩⟩⟩
end
theorem am7{k:C5} : (V.str z=kV k)=(k=Sum.inr z):=by
 cases k with
 | inl i=>exact propext ⟨fun h=>(by cases h),fun h=>(by cases h)⟩
 | inr x=>exact propext ⟨fun h=>(by cases h;rfl),fun h=>(by cases h;rfl)⟩
theorem arc : rInM neg a kvs (.str z) (.ref b) H Q=(V.ref b=V.ref a/\Q (.bl (neg.xor (valV kvs (Sum.inr z)).isSome)) H):=by
 unfold rInM;simp only [am7,exists_eq_left]
theorem ami : am6 a kvs to ti Y H Q=to Y H fun x H1=>ti Y H1 fun y H2=>x=.ref a/\∃ k v,y=kV k/\valV kvs k=some v/\Q v H2:=rfl
noncomputable def aks (c:TT) (tb:TS) (D:Ends) (Y:St) (H:Hp):Prop:=sD c tb D Y H
theorem amj : sD c tb D Y H=aks c tb D Y H:=rfl
theorem nW(Pv:Nat->St->Hp->Prop)(m:Nat)(h0:Pv m Y H)(hs:∀ m Y H,Pv m Y H->c Y H fun b H1=>if b=true then ∃ N:St->Hp->Prop,(∀ σ' H',N σ' H'->∃ m',m'<m/\Pv m' σ' H')/\tb { D with nx:=N,ct:=N,bk:=D.nx } Y H1 else D.nx Y H1):aks c tb D Y H:=⟨Pv,⟨m,h0⟩,hs⟩
noncomputable def rTupR (K:PySem.W.Frag) (p:Addr) (H:Hp) (Q:VK):Prop:=∃ ys,(D9 K H p ys/\∀ l,H l=none->Q (.ref l) (A0 H l (.tup ys)))\/(C6 K H p ys/\Q (.ref p) H)
theorem rTupR.l{p:Addr}(h1:D9 K H p ys)(h:∀ l,H l=none->Q (.ref l) (A0 H l (.tup ys))):rTupR K p H Q:=⟨ys,.inl ⟨h1,h⟩⟩
noncomputable def rTupU (K:PySem.W.Frag):List V->Hp->VK->Prop
 | [.ref p],H,Q=>rTupR K p H Q
 | _,_,_=>False
theorem tup_r{p:Addr} : rTupU K [.ref p] H Q=rTupR K p H Q:=rfl
theorem nX(hK:X.K=K:=by rfl):QCall X (.type "tuple") (rTupU K):=by
 subst hK;refine ⟨fun pins s Y H xs us Q I r h=>?_⟩
 match xs,h with
 | [.ref p],⟨ys,h⟩=>exact afT pins s Y H _ us Q I r ⟨p,ys,rfl,h⟩
noncomputable def rMin:List V->Hp->VK->Prop:=fun xs H Q=>∃ i j,xs=[.int i,.int j]/\Q (.int (if j<i then j else i)) H
noncomputable def rMax:List V->Hp->VK->Prop:=fun xs H Q=>∃ i j,xs=[.int i,.int j]/\Q (.int (if j > i then j else i)) H
theorem ard{i j:Int} : rMin [.int i,.int j] H Q=Q (.int (if j<i then j else i)) H:=propext ⟨fun ⟨_,_,e,q⟩=>(by cases e;exact q),fun q=>⟨_,_,rfl,q⟩⟩
theorem are{i j:Int} : rMax [.int i,.int j] H Q=Q (.int (if j > i then j else i)) H:=propext ⟨fun ⟨_,_,e,q⟩=>(by cases e;exact q),fun q=>⟨_,_,rfl,q⟩⟩
noncomputable def rCalm (calm:Bool) (r:List V->Hp->VK->Prop):List V->Hp->VK->Prop:=fun xs H Q=>calm=true/\r xs H Q
theorem aov{r:List V->Hp->VK->Prop} : rCalm true r xs H Q=r xs H Q:=propext ⟨fun h=>h.2,fun h=>⟨rfl,h⟩⟩
end L2
namespace L2
open PySem PySem.Spec PyProof.Rows
open PySem.Builtin PySem.Builtin.Str PySem.StrLaws
noncomputable def tSeqM (t u:TS):TS:=fun D Y H=>∃ M:St->Hp->Prop,t { D with nx:=M } Y H/\∀ σ' H',M σ' H'->u D σ' H'
theorem V1{rest:List Stmt}{t u:TS}(h1:QS X st t)(h2:QSs X rest u):QSs X (st::rest) (tSeqM t u):=⟨by
 intro pins s Y H D I h;obtain ⟨M,h,hm⟩:=h;refine wpAny_execs_cons (B3 (h1.out pins s Y H { D with nx:=M } I h) fun f s1 q=>?_)
 cases f with
 | next=>
  obtain ⟨σ',H',I',q⟩:=q;exact h2.out pins s1 σ' H' D I' (hm _ _ q)
 | ret v=>exact q
 | brk=>exact q
 | cont=>exact q⟩
theorem g8{t u:TS}(M:St->Hp->Prop)(h:t { D with nx:=M } Y H)(h2:∀ σ' H',M σ' H'->u D σ' H'):tSeqM t u D Y H:=⟨M,h,h2⟩
theorem xP{p:Addr}(h:H p=some (.lst xs)):TruV K (.ref p) H (!xs.isEmpty):=.inl ⟨xs,.of h,rfl⟩
theorem p5(xs:List V)(k:Nat):cutV xs (some (k:Int)) none=xs.drop k:=by
 unfold cutV;have e1:HT.sIx xs.length 0 (some (k:Int))=min k xs.length:=by unfold HT.sIx;simp;lia
 have e2:HT.sIx xs.length xs.length none=xs.length:=rfl;rw [e1,e2,aH (by rw [X1];exact B5 _)]
 by_cases h:k<=xs.length
 .rw [bR h]
 .rw [Nat.min_eq_right 'a',mL (B5 _),mL 'a']
theorem aS(xs:List V)(k:Nat):cutV xs none (some (k:Int))=xs.take k:=by
 unfold cutV;have e1:HT.sIx xs.length xs.length (some (k:Int))=min k xs.length:=by unfold HT.sIx;simp;lia
 have e2:HT.sIx xs.length 0 none=0:=rfl;rw [e1,e2,List.drop_zero,Nat.sub_zero]
 by_cases h:k<=xs.length
 .rw [bR h]
 .rw [Nat.min_eq_right 'a',aH (B5 _),aH 'a']
theorem xQ(x:V)(xs:List V):cutV (x::xs) (some 1) none=xs:=p5 (x::xs) 1
theorem T6{α:Type}(x:α)(xs:List α):G4 (x::xs) 0=some x:=by
 have e:g6 (x::xs).length 0=some 0:=by unfold g6;rw [if_pos (Int.le_refl 0),if_pos (by rw [K4];lia)];rfl
 unfold G4;rw [e];rfl
theorem amk{o f:Expr}(hu:X.A.units+1<cLine)(ho:QE X o td)(he:QE X e ty)(hf:QE X f tx)(h1:M6 e=false:=by rfl)(h2:M6 f=false:=by rfl)(G7:attributeBase o "get" X.env (eval o X.env)=eval o X.env:=by rfl)(G8:(apos.endLine==cpos.line)=true:=by rfl):QE X (.Call (.Attribute o "get" apos) [e,f] [] cpos) (xG td ty tx):=
 ⟨alW hu ho.out he.out hf.out ⟨G7,by rw [O7 h1,O7 h2];rfl,G8,by rw [O7 h1,O7 h2];rfl⟩⟩
theorem aow{trs:List (TE×TE)} : tDisp trs Y H Q=∀ p,H p=none->kA trs Y (A0 H p (.dK [])) fun ps H2=>H2 p=some (.dK [])/\∃ kvs:List (C5×V),ps=kvs.map (fun kv=>(kV kv.1,kv.2))/\kvs.length<=15/\Q (.ref p) (A0 H2 p (.dK (Z0 [] kvs))):=rfl
theorem aox{Q:List (V×V)->Hp->Prop} : kA [] Y H Q=Q [] H:=rfl
theorem aml{tk tv:TE}{r:List (TE×TE)}{Q:List (V×V)->Hp->Prop} : kA ((tk,tv)::r) Y H Q=tk Y H fun x H1=>tv Y H1 fun y H2=>kA r Y H2 fun ps H3=>Q ((x,y)::ps) H3:=rfl
theorem amm : xG td ty tx Y H Q=td Y H fun x H1=>∃ a,x=.ref a/\gE H1 a/\ty Y H1 fun y H2=>tx Y H2 fun z H3=>∃ o,DGet H3 a y o/\Q (o.getD z) H3:=rfl
theorem xR:∀ {zs:List Str} {us:List Value},Vals (zs.map V.str) us->StrsAre us zs
 | [],_,.nil=>.nil
 | z::zs,_::_,.cons ⟨t,h⟩ r=>by subst h;exact .cons _ _ (xR r)
noncomputable def rJoin (K:PySem.W.Frag):V->List V->Hp->VK->Prop:=fun x vs H Q=>∃ (z:Str) (b:Addr) (zs:List Str),x=.str z/\vs=[.ref b]/\(D9 K H b (zs.map V.str)\/C6 K H b (zs.map V.str))/\z.length<=16/\(zs.map (·.length)).sum+zs.length<=1048576/\Q (.str (Str.join z zs)) H
theorem am8(hK:X.K=K:=by rfl):QMt X "str.join" (rJoin K):=⟨by
 subst hK;intro pins s Y H x vs v us Q I rx rv h;obtain ⟨z,b,zs,rfl,rfl,hb,h1,h2,q⟩:=h;obtain ⟨t,rfl⟩:=rx;obtain ⟨u,rfl,ru⟩:=vals1 rv
 cases ru
 have e:Txt.join z zs=Str.join z zs:=glued_eq_join z zs
 rcases hb with hb | hb
 .obtain ⟨its,r',pl,hz⟩:=I.list hb;exact join_listW pl.isList (by simpa using xR r') h1 h2 fun t' k=>⟨.str (Str.join z zs),H,I.tok k,⟨t',by rw [e]⟩,q⟩
 .obtain ⟨its,r',pl,hz⟩:=I.tuple hb;exact join_tupleW pl (by simpa using xR r') h1 h2 fun t' k=>⟨.str (Str.join z zs),H,I.tok k,⟨t',by rw [e]⟩,q⟩⟩
theorem akt{x:Str}{c:Nat} : subAt x ⟨#[c]⟩ i=(x.cps.toList[i]? == some c):=by
 rw [subAt_eq];show ((x.cps.toList.drop i).take 1==[c])=_;rw [aL,take1_drop,beq_iff_eq]
end L2
namespace L2
open PySem PySem.Spec PyProof.Rows
theorem ac6:entryFor table "dict.update.loop"=some Builtin.«dict.update.loop»:=entryFor_of_tree (by kernel_rfl)
theorem sW:plainId "dict.update.loop"=true:=by decide +kernel
section
variable {prog:Program} {w:World} {A:Around} {R:Result->Shared->Prop} {I:Addr} {fp wr:List Addr} {G:Array GenState->Array GenState->Prop} {n:Nat} {P:Nat->Value->Prop} {St:Nat->Shared->Prop}
variable {K:Type} [DecidableEq K] {knd:KeyKind prog w K}
noncomputable def w5 (ks:Nat->K) (vl:Nat->Value):Nat->List (K×Value)
 | 0=>[]
 | i+1=>stored (w5 ks vl i) (ks i) (vl i)
theorem aeK(ks:Nat->K)(vl:Nat->Value):∀ i,(w5 ks vl i).length<=i
 | 0=>B5 _
 | i+1=>by
  have h1:=aeK ks vl i;have h2:(stored (w5 ks vl i) (ks i) (vl i)).length<=(w5 ks vl i).length+1:=by
   unfold stored
   split
   .rw [A6];lia
   .rw [C4];exact B5 _
  show (stored (w5 ks vl i) (ks i) (vl i)).length<=i+1;lia
theorem aku(W:WalksS prog w A.in1 I fp wr G n P St)(d:Addr)(bF:d∉fp)(tp:Nat->Addr)(ky vl:Nat->Value)(ks:Nat->K)(hP:∀ i v,P i v->v=.ref (tp i))(hk:∀ i,i<n->knd.is (ks i) (ky i)=true)(ht:∀ i,i<n->tp i≠d/\tp i∉wr)(hn:n<=sizeLine) :
  ∀ (k i:Nat) (s:Shared) (j:Int) (t:Tok),n-i=k->i<=n->St i s->(∀ i,i<n->IsTup s.heap (tp i) #[ky i,vl i])->s.heap.DictOf knd d (w5 ks vl i)->
   (∀ s',Moved (d::wr) G s s'->s'.heap.DictOf knd d (w5 ks vl n)->R (.ok (.ret .none)) s')->
   codeAny (model prog w) A (.builtin "dict.update.loop" ⟨[.ref d,.ref I,.int j t,.none],[]⟩) R s:=by
 have hdw:d∉wr:=fun h=>bF (W.sub _ h)
 have X8:∀ b∈wr,b∈d::wr:=fun b hb=>N4 _ hb
 intro k
 induction k with
 | zero=>
  intro i s j t hk' hi Q8 hT hD hR;have L1:i=n:=by lia
  subst L1;refine codeAny_builtin ac6 ?_;rw [Around.under_plainId sW _];show wpAny _ A.in1 (pyNext (.ref I) >>= _) _ _ s;refine wpAny_bind (W.done s _ _ Q8 fun s' hm=>?_);have e0:Builtin.Dict.addKeywords d []=pure ():=rfl;show wpAny _ A.in1 (Builtin.Dict.addKeywords d [] >>= fun _=>ret Value.none) _ _ s';rw [e0];refine wpAny_bind (wpAny_pure (wpAny_pure (hR s' (hm.mono X8) ?_)));obtain ⟨o,es,ep,ho,rest⟩:=hD;exact ⟨o,es,ep,hm.heap d _ hdw ho,rest⟩
 | succ k ih=>
  intro i s j t hk' hi Q8 hT hD hR;have C9:i<n:=by lia
  refine codeAny_builtin ac6 ?_;rw [Around.under_plainId sW _];show wpAny _ A.in1 (pyNext (.ref I) >>= _) _ _ s;refine wpAny_bind (W.item i s _ _ C9 Q8 fun v s' hv hst' hm=>?_);obtain rfl:=hP i v hv;have hD':s'.heap.DictOf knd d (w5 ks vl i):=by
   obtain ⟨o,es,ep,ho,rest⟩:=hD;exact ⟨o,es,ep,hm.heap d _ hdw ho,rest⟩
  have hT':∀ i,i<n->IsTup s'.heap (tp i) #[ky i,vl i]:=fun i hi=>by
   obtain ⟨o,ho,rest⟩:=hT i hi;exact ⟨o,hm.heap _ _ (ht i hi).2 ho,rest⟩
  have hTi:=hT' i C9;obtain ⟨o,ho,hoc,n0,vI⟩:=id hTi;refine wpAny_bind (wpAny_holding (wpAny_bind (wpAny_tryCatch ?_)));unfold Builtin.Dict.pairItems;refine wpAny_bind (wpAny_typeOf hTi.typeIs ?_);rw [if_pos 'h'];refine wpAny_bind (wpAny_seqItems ho vI ?_);refine wpAny_pure ?_;show wpAny _ _ (holding [ky i,vl i] (dictSet d (ky i) (vl i))) _ _ s';have hl:=aeK ks vl i;refine wpAny_holding (wpAny_dictSet_pairs (hk i C9) hD' (fun h' hD2 hsb=>?_) 'a');refine wpAny_pure ⟨plainId_quiet sW _,ih (i+1) _ (j+1) 0 'a' C9 (W.frame _ s' _ _ hst' (Nat.le_succ _) fun b hb o e=>?_) (fun i hi=>?_) hD2 fun s'' hm'' hD''=>?_⟩
  .rw [hsb.2 b (fun h:b=d=>bF (by rw [<- h];exact hb))];exact e
  .obtain ⟨o,ho,rest⟩:=hT' i hi;exact ⟨o,(hsb.2 _ (ht i hi).1).trans ho,rest⟩
  .refine hR s'' (Moved.trans W.gtrans ((hm.mono X8).then_heap (Nat.le_succ _) fun b o hb e=>?_) hm'') hD'';rw [hsb.2 b (fun h:b=d=>hb (by rw [h];exact O0))];exact e
end
theorem ajd:typeLookup (.type "list") "__getattribute__"=pure (some (.builtin "list.__getattribute__")):=by rw [typeLookup_type,builtinLookup_eq_fast];kernel_rfl
theorem agH:typeLookup (.type "list") "keys"=pure none:=by rw [typeLookup_type,builtinLookup_eq_fast];kernel_rfl
theorem agI:typeLookup (.type "list") "__getattr__"=pure none:=by rw [typeLookup_type,builtinLookup_eq_fast];kernel_rfl
theorem agJ{w:World}{l:Addr}{xs:Array Value}{Q:Option Value->Shared->Prop}(hx:s.heap.get? l=some o)(hc:o.cls=.type "list")(qC:o.data=.seq xs k)(hd:o.dict=none)(hA:A.handled=none)(h:∀ h' tk,(∀ b o,s.heap.get? b=some o->h'.get? b=some o)->Q none { s with heap:=h',toks:=tk }):wpAny (model prog w) A (getAttr? (.ref l) "keys") Q E s:=by
 obtain ⟨c,dct,dat,sl⟩:=o;simp only at hc qC hd;subst hc qC hd;obtain ⟨hp,g,d,tk,os⟩:=s;have hT:∀ tk',(⟨hp,g,d,tk',os⟩:Shared).TypeIs (.ref l) "list":=fun _=>⟨_,hx,rfl⟩
 have f4:=F.slot_list_getattribute.bind (.ref l);unfold getAttr? getAttrBy? getAttrBy;refine wpAny_bind (wpAny_mkText (wpAny_bind (wpAny_attempt (wpAny_holding (wpAny_bind (wpAny_typeOf (hT _) ?_))))));rw [ajd];refine wpAny_bind (wpAny_pure ?_);show wpAny _ _ (getAttrByItsOwn _ _ _ _ _ _) _ _ _;unfold getAttrByItsOwn;refine wpAny_bind (wpAny_pure ?_);refine wpAny_bind (wpAny_attempt (wpAny_holding ?_));show wpAny _ _ (boundAndCalled _ _ _) _ _ _;unfold boundAndCalled;rw [f4];refine wpAny_bind (wpAny_pure ?_);refine call_meets F.slot_list_getattribute (hT _) am_entry_list_getattribute (F.args_list_getattribute_2 _ _) (meets_getattribute_miss_list l xs k sl "keys" _ agH 'd' 'd') ⟨hx,hA,fun h' tk' e new=>?_⟩;obtain ⟨t',u',he⟩:=new.there;have hTe:∀ tk',(⟨h',g,d,tk',os⟩:Shared).TypeIs (.ref e) "AttributeError":=fun _=>⟨_,he,rfl⟩
 show wpAny _ _ (getattributeRaised _ _ _ _ _ _ _) _ _ _;unfold getattributeRaised;refine wpAny_bind (wpAny_isInstance (hTe _) sub_AttributeError ?_);rw [if_pos rfl];show wpAny _ _ (hookBehind _ _ >>= _) _ _ _;unfold hookBehind;rw [if_neg 'h',agI];refine wpAny_bind (wpAny_pure ?_);unfold hookOrError attributeErrorLeaves;show wpAny _ _ (if (!false)=true then _ else _) _ _ _;rw [if_pos 'h'];refine wpAny_bind (wpAny_throw ?_);show wpAny _ _ (isInstance _ _ >>= _) _ _ _;refine wpAny_bind (wpAny_isInstance (hTe _) sub_AttributeError ?_);rw [if_pos rfl];exact wpAny_pure (h h' tk' new.keeps)
section
variable {prog:Program} {w:World} {A:Around} {E:Value->Shared->Prop} {s:Shared} {K:Type} [DecidableEq K] {knd:KeyKind prog w K}
theorem aeL{l:Addr}{Q:Value->Shared->Prop}(hl:PlainL s.heap l items)(hA:A.handled=none)(tp:Nat->Addr)(ky vl:Nat->Value)(ks:Nat->K)(hP:∀ (i:Nat) (v:Value),items[i]?=some v->v=Value.ref (tp i))(hk:∀ i,i<items.size->knd.is (ks i) (ky i)=true)(hT:∀ i,i<items.size->IsTup s.heap (tp i) #[ky i,vl i])(hn:items.size<=sizeLine)(h:∀ h' tk,(∀ b o,s.heap.get? b=some o->h'.get? b=some o)->h'.DictOf knd s.heap.objs.size (w5 ks vl items.size)->Q (.ref s.heap.objs.size) { s with heap:=h',toks:=tk }) :
  wpAny (model prog w) A (call (.type "dict") [.ref l]) Q E s:=by
 refine callType_codes (Q₁:=fun obj zu=>obj=.ref s.heap.objs.size/\zu={ s with heap:=s.heap.push { cls:=.type "dict",data:=.dict #[] } }) F.kt_called_dict (F.kt_typeCall_dict_1 _) F.entry_dict_init (kt_code_dict_new _ ⟨rfl,rfl⟩) ?_;rintro obj zu ⟨rfl,rfl⟩;have Q3:(s.heap.push { cls:=.type "dict",data:=.dict #[] }).DictOf knd s.heap.objs.size []:=Heap.DictOf.new s.heap;obtain ⟨ol,nl,hol,hlc,hld,eX⟩:=hl;have iN:(s.heap.push { cls:=.type "dict",data:=.dict #[] }).get? l=some ol:=Heap.get?_push_of_some _ hol;have C9:l<s.heap.objs.size:=Heap.lt_size hol;refine ⟨Q3.typeIs,F.args_dict_init_2 _ _,?_⟩;unfold Builtin.«dict.__init__»;refine wpAny_bind ?_;unfold Builtin.Dict.selfAndRest;refine wpAny_bind (wpAny_notOrdered_dict Q3.typeIs ?_);show wpAny _ _ (pure (s.heap.objs.size,[Value.ref l])) _ _ _;refine wpAny_pure ?_;show wpAny _ _ (Builtin.Dict.updateFrom "dict.__init__" s.heap.objs.size (.ref l) [] .none) _ _ _;unfold Builtin.Dict.updateFrom;refine wpAny_bind (wpAny_typeOf (T:="list") ⟨_,iN,hlc⟩ ?_);rw [if_pos 'h'];refine wpAny_bind (agJ iN hlc eX hld (by simp [hA]) fun h2 tk2 keep2=>?_);rw [if_pos (show (none:Option Value).isNone=true from rfl)];refine wpAny_bind (wpAny_rule ?_);have R0:h2.IsList l items:=⟨ol,keep2 _ _ iN,hlc,nl,eX⟩
 refine wpAny_bind (wpAny_pyIter_list R0 ?_);obtain ⟨od,es,ep,vI,restd⟩:=Q3;have cT:s.heap.objs.size<h2.objs.size:=Heap.lt_size (keep2 _ _ vI);have G9:l≠h2.objs.size:=O6 (Nat.lt_trans C9 cT);have hh:A.in1.in1.handled=none:=by simp [hA]
 have bF:s.heap.objs.size∉[h2.objs.size,l]:=by
  simp only [E7,jO,or_false,not_or];exact ⟨O6 cT,Nat.ne_of_gt C9⟩
 have lS:∀ i,i<items.size->tp i<s.heap.objs.size:=fun i hi=>by
  obtain ⟨o,ho,_⟩:=hT i hi;exact Heap.lt_size ho
 refine wpAny_pure ⟨plainId_quiet sW _,aku ((Walks.list hh _ l G9 items).toS) s.heap.objs.size bF tp ky vl ks hP hk (fun i hi=>⟨O6 (lS i hi),?_⟩) hn (items.size-0) 0 _ 0 0 'a' (F9 _) ⟨⟨_,Heap.get?_push_size _ rfl,rfl,rfl⟩,R0.push _⟩ (fun i hi=>?_) ?_ fun s' hm hD'=>?_⟩
 .simp only [E7,jO,or_false];exact O6 (Nat.lt_trans (lS i hi) cT)
 .obtain ⟨o,ho,rest⟩:=hT i hi;exact ⟨o,Heap.get?_push_of_some _ (keep2 _ _ (Heap.get?_push_of_some _ ho)),rest⟩
 .exact ⟨od,es,ep,Heap.get?_push_of_some _ (keep2 _ _ vI),restd⟩
 .obtain ⟨h',g',d',tk',os'⟩:=s';have eg:g'=s.gens:=hm.gens;have ed:d'=s.drawn:=hm.drawn;have eo:os'=s.os:=hm.os;subst eg ed eo;refine ⟨rfl,h h' tk' (fun b o hb=>hm.heap b o ?_ (Heap.get?_push_of_some _ (keep2 _ _ (Heap.get?_push_of_some _ hb)))) hD'⟩;have qD:b<s.heap.objs.size:=Heap.lt_size hb;simp only [E7,jO,or_false,not_or];exact ⟨O6 qD,O6 (Nat.lt_trans qD cT)⟩
end
noncomputable def arf (K:PySem.W.Frag) (calm:Bool):List V->Hp->VK->Prop:=fun xs H Q=>calm=true/\∃ (p:Addr) (ts:List Addr) (kxs:List (C5×V)),xs=[.ref p]/\D9 K H p (ts.map V.ref)/\Paired (fun t kx=>C6 K H t [kV kx.1,kx.2]) ts kxs/\∀ d,H d=none->Q (.ref d) (A0 H d (.dK (Z0 [] kxs)))
theorem ait(I:Inv X pins Y H s):∀ {ts:List Addr} {kxs:List (C5×V)},Paired (fun t kx=>C6 X.K H t [kV kx.1,kx.2]) ts kxs->
  ∃ ws:List (Value×Value),Paired (fun t w=>IsTup s.heap t #[w.1,w.2]) ts ws/\Paired (fun (kx:C5×V) (w:Value×Value)=>keyIs kx.1 w.1=true/\RelV kx.2 w.2) kxs ws
 | _,_,.nil=>⟨[],.nil,.nil⟩
 | _,_,.cons h t=>by
  obtain ⟨ws,h1,h2⟩:=ait I t;obtain ⟨its,r,ht,_⟩:=I.tuple h;obtain ⟨u1,u2,rfl,r1,r2⟩:=vals2 r;exact ⟨(u1,u2)::ws,.cons ht h1,.cons ⟨kV_is (P:=X.prog) (w:=X.w) r1,r2⟩ h2⟩
theorem akv:∀ {ts:List Addr} {us:List Value},Vals (ts.map V.ref) us->us=ts.map Value.ref
 | [],_,.nil=>rfl
 | t::ts,_::_,.cons h r=>by
  rw [K5,<- akv r];cases h;rfl
theorem akw(hK:X.K=K:=by rfl)(hc:X.calm=calm:=by rfl):QCall X (.type "dict") (arf K calm):=⟨by
 subst hK;intro pins s Y H xs us Q I r h;obtain ⟨qB,p,ts,kxs,rfl,hp,hP,q⟩:=h;obtain ⟨u,rfl,rx⟩:=vals1 r
 cases rx
 obtain ⟨its,r',pl,hz⟩:=I.list hp;have qE:=akv r';obtain ⟨ws,h1,h2⟩:=ait I hP;have qF:ts.length=ws.length:=Paired.length h1;have R0:kxs.length=ws.length:=Paired.length h2;rw [A6] at hz;have hsz:its.toArray.size=ts.length:=by rw [M3,qE,A6]
 have hrel:∀ i,i<=ts.length->KV (Z0 [] (kxs.take i)) (w5 (fun i=>(kxs.getD i (Sum.inl 0,.non)).1) (fun i=>(ws.getD i (.none,.none)).2) i):=by
  intro i
  induction i with
  | zero=>intro _;exact .nil
  | succ i ih=>
   intro hi;have cU:i<kxs.length:=by lia
   obtain ⟨w',hw,hr⟩:=Paired.at h2 (K8 cU);have e1:Z0 [] (kxs.take (i+1))=putK (Z0 [] (kxs.take i)) kxs[i].1 kxs[i].2:=by
    unfold Z0;rw [t9,K8 cU,Option.toList_some,aJ];rfl
   rw [e1];show KV _ (stored _ (kxs.getD i (Sum.inl 0,.non)).1 (ws.getD i (.none,.none)).2);have e2:(kxs.getD i (Sum.inl 0,.non))=kxs[i]:=by rw [dM,K8 cU];rfl
   have e3:(ws.getD i (.none,.none))=w':=by rw [dM,hw];rfl
   rw [e2,e3];exact (ih 'a').put _ hr.2
 refine aeL (knd:=P9 X.prog X.w) pl (I.ok.hd (hc.trans qB)) (fun i=>ts.getD i 0) (fun i=>(ws.getD i (.none,.none)).1) (fun i=>(ws.getD i (.none,.none)).2) (fun i=>(kxs.getD i (Sum.inl 0,.non)).1) (fun i v hv=>?_) (fun i hi=>?_) (fun i hi=>?_) 'a' fun h' tk keep hD=>?_
 .rw [<- Array.getElem?_toList,qE,T8] at hv;rw [dM];cases e:ts[i]? with
  | none=>rw [e] at hv;cases hv
  | some t=>rw [e] at hv;cases hv;rfl
 .obtain ⟨w',hw,hr⟩:=Paired.at h2 (K8 (show i<kxs.length by lia));have e2:(kxs.getD i (Sum.inl 0,.non))=kxs[i]'(by lia):=by rw [dM,K8 (show i<kxs.length by lia)];rfl
  have e3:(ws.getD i (.none,.none))=w':=by rw [dM,hw];rfl
  rw [e2,e3];exact hr.1
 .have hi':i<ts.length:=by lia
  obtain ⟨w',hw,hr⟩:=Paired.at h1 (K8 hi');have e3:(ws.getD i (.none,.none))=w':=by rw [dM,hw];rfl
  have e4:ts.getD i 0=ts[i]:=by rw [dM,K8 hi'];rfl
  rw [e3,e4];exact hr
 .have hD2:KV (Z0 [] kxs) (w5 (fun i=>(kxs.getD i (Sum.inl 0,.non)).1) (fun i=>(ws.getD i (.none,.none)).2) its.toArray.size):=by
   have:=hrel ts.length (B5 _)
   rw [aH 'a'] at this;rw [hsz];exact this
  have A9:=adN kxs [];rw [Y6] at A9;exact ⟨.ref s.heap.objs.size,_,I.laid (t':=tk) keep (B5 _) (xC 'a' (beq_eq_false_iff_ne.mpr (Ne.symm (O6 I.big))) hD2 hD),rfl,q _ (I.hok.fresh (B5 _))⟩⟩
section
variable {X:Cx} {pins:List (Addr×Obj)} {Y:St} {H:Hp} {s:Shared} {h':Heap}
theorem Inv.turnNew{ch:List Addr}{T:Addr}{o:HO}(I:Inv X pins Y H s)(hf:∀ b∈ch,FpOk X pins H b)(k:∀ b u,b∉ch->s.heap.get? b=some u->h'.get? b=some u)(hT:s.heap.objs.size<=T)(new:ObjOk X.prog X.w (A0 H T o) h' T o):Inv X pins Y (A0 H T o) { s with heap:=h',toks:=t' }:=by
 have hn:H T=none:=I.hok.fresh hT;have nch:∀ b u,H b=some u->b∉ch:=fun b u e z=>by rw [(hf b z).1] at e;cases e
 have neT:∀ b u,s.heap.get? b=some u->b≠T:=fun b u e=>O6 (T4 (Heap.lt_size e) hT)
 refine I.step (g':=s.gens) (d':=s.drawn) (ch:=ch) (fun b hb=>?_) (fun b u _ _ hc e _=>k b u hc e) (fun b u _ _ hc e _=>⟨u.slots,k b u hc e⟩) (fun b u _ e n=>by rw [B1 (neT b u e)];exact n)
  (fun b u hc e=>⟨u,k b u hc e⟩) (fun b xs e=>D1 e hn) (fun b ob u e=>D1 e hn) (fun b ps e=>⟨#[],by rw [D1 e hn];simp⟩) (fun m hm=>?_) (fun b u e=>?_) I.bare
 .obtain ⟨f0,f1,f2,f3,f4,f5⟩:=hf b hb;exact ⟨f3,f1,f4,f5⟩
 .obtain ⟨ob,es,ep,ho,r⟩:=hm;exact ⟨ob,es,ep,k _ ob (fun z=>(hf _ z).2.1 rfl) ho,r⟩
 .by_cases hb:b=T
  .subst hb;rw [A5] at e;cases e;exact new
  .rw [B1 hb] at e;refine (I.hok b u e).stay (fun c v hc q=>k c v ?_ q) (fun c q=>D1 q hn) fun c xs q=>D1 q hn
   rcases hc with z | z
   .rw [z];exact nch b u e
   .exact nch c _ z
end
theorem p6{a b:Nat}(h:a<b\/b<a):(show Addr from a)≠(show Addr from b):=fun e=>by
 have e:a=b:=e;lia
noncomputable def nY (l1 l2 : Addr) : It :=
  ⟨fun i H => ∃ xs ys x y, H l1 = some (.lst xs) /\ H l2 = some (.lst ys) /\ xs[i]? = some x /\ ys[i]? = some y,
   fun i H v H' => ∃ t xs ys x y, H l1 = some (.lst xs) /\ H l2 = some (.lst ys) /\ xs[i]? = some x /\ ys[i]? = some y /\ H t = none /\ v = .ref t /\ H' = A0 H t (.tup [x, y]),
   fun i H => ∃ xs ys, H l1 = some (.lst xs) /\ H l2 = some (.lst ys) /\ (xs.length <= i \/ ys.length <= i)⟩
theorem amn{P:Program}{w:World}{pos:Pos}(z TI TO i1 i2 l1 l2:Addr)(a1:TI≠z)(a2:TO≠z)(a3:i1≠z)(a4:i2≠z)(a5:TI≠TO)(a6:TI≠i1)(a7:TI≠i2)(a8:TO≠i1)(a9:TO≠i2)(a10:i1≠i2) :
  Turn P w K (.Tuple elts x1 pos) (nY l1 l2) [z,TO,i1,i2,TI] z (fun i h=>IsZip h z TI TO .none/\IsPair h TI (.ref i1) (.ref i2)/\(∃ a b,IsPair h TO a b)/\h.IsListIter i1 l1 i/\h.IsListIter i2 l2 i) where
 mem:=by simp
 obj:=fun i h ⟨hz,hTI,⟨a,b,hTO⟩,h1,h2⟩ c hc=>by
  have e:c=z\/c=TO\/c=i1\/c=i2\/c=TI:=by simpa using hc
  rcases e with rfl | rfl | rfl | rfl | rfl
  .exact ⟨_,hz,fun v q=>by cases q⟩
  .exact ⟨_,hTO,fun v q=>by cases q⟩
  .obtain ⟨o,e,c,d⟩:=h1;exact ⟨o,e,fun v z=>by rw [d] at z;cases z⟩
  .obtain ⟨o,e,c,d⟩:=h2;exact ⟨o,e,fun v z=>by rw [d] at z;cases z⟩
  .exact ⟨_,hTI,fun v q=>by cases q⟩
 keep:=fun i h h' ⟨hz,hTI,⟨a,b,hTO⟩,h1,h2⟩ k=>⟨k z 'c' _ hz,k TI 'c' _ hTI,⟨a,b,k TO 'c' _ hTO⟩,h1.at fun o e=>k i1 'c' o e,h2.at fun o e=>k i2 'c' o e⟩
 item:=by
  intro X hP hw hK hc i pins s Y H E I hf ⟨hz,hTI,⟨a,b,hTO⟩,h1,h2⟩ hg;subst hP hw hK;obtain ⟨xs,ys,x,y,e1,e2,hx,hy⟩:=hg;obtain ⟨its1,i6,p1,_⟩:=I.list (D9.of (K:=X.K) e1);obtain ⟨its2,vJ,p2,_⟩:=I.list (D9.of (K:=X.K) e2);obtain ⟨u1,C2,r1⟩:=i6.get hx;obtain ⟨u2,t7,r2⟩:=vJ.get hy;have nl:∀ c∈[z,TO,i1,i2,TI],l1≠c/\l2≠c:=fun c hc=>⟨fun q=>(by rw [q,(hf c hc).1] at e1;cases e1),fun q=>(by rw [q,(hf c hc).1] at e2;cases e2)⟩
  have D:ZipApart z TI TO i1 i2 l1 l2:=⟨a1,a2,a3,a4,a5,a6,a7,a8,a9,a10,(nl z 'c').1,(nl TO 'c').1,(nl i1 'c').1,(nl i2 'c').1,(nl z 'c').2,(nl TO 'c').2,(nl i1 'c').2,(nl i2 'c').2⟩
  refine wpAny_pyNext_zip_item D hz hTI hTO h1 h2 p1.isList p2.isList (x:=u1) (y:=u2) (by simpa using C2) (by simpa using t7) fun h' b1 b2 b3 b4 b5 b6 b7=>⟨_,rfl,wpAny_letOwnedTupleGo_zip b1 fun h2' c1 c2=>?_⟩
  have N0:z<s.heap.objs.size:=Heap.lt_size hz;have up:∀ c o,c≠z->h'.get? c=some o->h2'.get? c=some o:=fun c o hc e=>(c2.2 c hc).trans e
  have nT:∀ c∈[z,TO,i1,i2,TI],c≠s.heap.objs.size:=fun c hc=>by
   have e:c=z\/c=TO\/c=i1\/c=i2\/c=TI:=by simpa using hc
   refine O6 ?_
   rcases e with rfl | rfl | rfl | rfl | rfl
   .exact Heap.lt_size hz
   .exact Heap.lt_size hTO
   .obtain ⟨o,e,_⟩:=h1;exact Heap.lt_size e
   .obtain ⟨o,e,_⟩:=h2;exact Heap.lt_size e
   .exact Heap.lt_size hTI
  have hT:=up _ _ (Nat.ne_of_gt N0) b5;refine ⟨.ref s.heap.objs.size,A0 H s.heap.objs.size (.tup [x,y]),I.turnNew (t':=s.toks) (ch:=[z,TO,i1,i2,TI]) hf (fun c u hc e=>?_) (B5 _) ⟨by show 2<=sizeLine;decide,[u1,u2],.cons r1 (.cons r2 .nil),?_⟩,rfl,⟨_,xs,ys,x,y,e1,e2,hx,hy,I.fresh,rfl,rfl⟩,
   ⟨c1,up _ _ a1 (b7 _ _ a1 a5 a6 a7 hTI),⟨_,_,up _ _ a2 b2⟩,b3.at fun o e=>up _ o a3 e,b4.at fun o e=>up _ o a4 e⟩,fun c hc=>by rw [B1 (nT c hc)];exact (hf c hc).1⟩
  .have q:c≠z/\c≠TO/\c≠i1/\c≠i2:=by
    refine ⟨fun q=>hc (by simp [q]),fun q=>hc (by simp [q]),fun q=>hc (by simp [q]),fun q=>hc (by simp [q])⟩
   exact up c u q.1 (b7 c u q.1 q.2.1 q.2.2.1 q.2.2.2 e)
  .exact ⟨_,hT,rfl,_,rfl⟩
 done:=by
  intro X hP hw hK hc i pins s Y H E I hf ⟨hz,hTI,⟨a,b,hTO⟩,h1,h2⟩ hg;subst hP hw hK;obtain ⟨xs,ys,e1,e2,f8⟩:=hg;obtain ⟨its1,i6,p1,_⟩:=I.list (D9.of (K:=X.K) e1);obtain ⟨its2,vJ,p2,_⟩:=I.list (D9.of (K:=X.K) e2);have q1:=i6.length;have q2:=vJ.length;have nl:∀ c∈[z,TO,i1,i2,TI],l1≠c/\l2≠c:=fun c hc=>⟨fun q=>(by rw [q,(hf c hc).1] at e1;cases e1),fun q=>(by rw [q,(hf c hc).1] at e2;cases e2)⟩
  have D:ZipApart z TI TO i1 i2 l1 l2:=⟨a1,a2,a3,a4,a5,a6,a7,a8,a9,a10,(nl z 'c').1,(nl TO 'c').1,(nl i1 'c').1,(nl i2 'c').1,(nl z 'c').2,(nl TO 'c').2,(nl i1 'c').2,(nl i2 'c').2⟩
  refine wpAny_pyNext_zip_end (I.ok.hd hc) D hz hTI hTO h1 h2 p1.isList p2.isList (by rcases f8 with q | q <;> simp <;> lia) fun h' k=>⟨rfl,?_⟩
  refine I.step (h':=h') (t':=s.toks) (g':=s.gens) (d':=s.drawn) (ch:=[z,TO,i1,i2,TI]) (fun b hb=>?_) (fun b u _ _ hc e _=>?_) (fun b u _ _ hc e _=>⟨u.slots,?_⟩) (fun b u _ e n=>n)
   (fun b u hc e=>⟨u,?_⟩) (fun b xs e=>e) (fun b ob u e=>e) (fun b ps e=>⟨#[],by rw [e];simp⟩) (fun m hm=>?_) (fun b u e=>?_) I.bare
  .obtain ⟨f0,f1,f2,f3,f4,f5⟩:=hf b hb;exact ⟨f3,f1,f4,f5⟩
  .exact k b u (fun q=>hc (by simp [q])) (fun q=>hc (by simp [q])) (fun q=>hc (by simp [q])) (fun q=>hc (by simp [q])) e
  .exact k b u (fun q=>hc (by simp [q])) (fun q=>hc (by simp [q])) (fun q=>hc (by simp [q])) (fun q=>hc (by simp [q])) e
  .exact k b u (fun q=>hc (by simp [q])) (fun q=>hc (by simp [q])) (fun q=>hc (by simp [q])) (fun q=>hc (by simp [q])) e
  .obtain ⟨ob,es,ep,ho,r⟩:=hm;have nL:∀ c∈[z,TO,i1,i2,TI],X.env.locals≠c:=fun c hc q=>(hf c hc).2.1 q.symm
   exact ⟨ob,es,ep,k _ ob (nL z 'c') (nL TO 'c') (nL i1 'c') (nL i2 'c') ho,r⟩
  .have nch:∀ b u,H b=some u->∀ c∈[z,TO,i1,i2,TI],b≠c:=fun b u e c hc q=>by rw [q,(hf c hc).1] at e;cases e
   refine (I.hok b u e).stay (fun c v hc q=>?_) (fun c q=>q) fun c xs q=>q
   have:∀ d∈[z,TO,i1,i2,TI],c≠d:=by
    rcases hc with z | z
    .rw [z];exact nch b u e
    .exact nch c _ z
   exact k c v (this z 'c') (this TO 'c') (this i1 'c') (this i2 'c') q
 self:=fun _ _ _ _ _ st h=>wpAny_pyIter_zip st.1 h
section
variable {X:Cx}
noncomputable def iZip (ta:TA):TI:=fun Y H R=>ta Y H fun vs H1=>∃ (l1 l2:Addr) (xs ys:List V),vs=[.ref l1,.ref l2]/\H1 l1=some (.lst xs)/\H1 l2=some (.lst ys)/\R (nY l1 l2) H1
theorem arh{a b:Expr}{p pos:Pos}(hg:Gl X "zip")(hm:X.mg "zip"=none)(ha:PA X [a,b] ta)(h1:M6 a=false:=by rfl)(h2:M6 b=false:=by rfl) :
  PI X (.Tuple elts x1 tpos) (.Call (.Name "zip" p) [a,b] [] pos) (iZip ta):=by
 intro pins s Y H R I h;refine Call_ (dR I hg hm boot_zip (PyProof.Rows.callWith_type1 (B3 (ha pos pins s Y H _ I h) fun us s1 ⟨vs,H1,I1,r1,q1⟩=>?_) (O7 h1) (by rw [O7 h2];rfl)));obtain ⟨l1,l2,xs,ys,rfl,e1,e2,q⟩:=q1;obtain ⟨u1,u2,rfl,qG,ru2⟩:=vals2 r1
 cases qG
 cases ru2
 obtain ⟨its1,i6,p1,_⟩:=I1.list (D9.of (K:=X.K) e1);obtain ⟨its2,vJ,p2,_⟩:=I1.list (D9.of (K:=X.K) e2);refine call_zip_2 p1.isList p2.isList fun h' z1 z2 z3 z4 z5 z6 z7=>wpAny_pyIter_zip z1 ?_
 refine ⟨s1.heap.objs.size+4,[s1.heap.objs.size+4,s1.heap.objs.size+3,s1.heap.objs.size,s1.heap.objs.size+1,s1.heap.objs.size+2],_,_,H1,rfl,I1.kept (t':=s1.toks) z7,
  amn _ (s1.heap.objs.size+2) (s1.heap.objs.size+3) s1.heap.objs.size (s1.heap.objs.size+1) l1 l2 (p6 'a') (p6 'a') (p6 'a') (p6 'a') (p6 'a') (p6 'a') (p6 'a') (p6 'a') (p6 'a') (p6 'a'),⟨z1,z2,⟨_,_,z3⟩,z4,z5⟩,fun b hb=>?_,q⟩
 have f9:s1.heap.objs.size<=b:=by
  have e:b=s1.heap.objs.size+4\/b=s1.heap.objs.size+3\/b=s1.heap.objs.size\/b=s1.heap.objs.size+1\/b=s1.heap.objs.size+2:=by simpa using hb
  rcases e with rfl | rfl | rfl | rfl | rfl
  .exact bQ _ _
  .exact bQ _ _
  .exact B5 _
  .exact bQ _ _
  .exact bQ _ _
 exact I1.fpOk f9 (I1.hok.fresh f9)
theorem sX{a b:Expr}{p pos:Pos}(hm:X.mg "zip"=none)(ha:QA X [a,b] ta)(hg:Gl X "zip":=by rfl)(h1:M6 a=false:=by rfl)(h2:M6 b=false:=by rfl) :
  QI X (.Tuple elts x1 tpos) (.Call (.Name "zip" p) [a,b] [] pos) (iZip ta):=⟨arh hg hm ha.out h1 h2⟩
end
theorem aoy{R:It->Hp->Prop} : iZip ta Y H R=ta Y H fun vs H1=>∃ (l1 l2:Addr) (xs ys:List V),vs=[.ref l1,.ref l2]/\H1 l1=some (.lst xs)/\H1 l2=some (.lst ys)/\R (nY l1 l2) H1:=rfl
theorem forZ(Pv:Nat->St->Hp->Prop)(h0:Pv 0 Y H)(hl:∀ i Y H,Pv i Y H->H l1=some (.lst xs)/\H l2=some (.lst ys))(hs:∀ i x y t Y H,xs[i]?=some x->ys[i]?=some y->Pv i Y H->H t=none->g (.ref t) Y (A0 H t (.tup [x,y])) fun σ2 H2=>tb { D with nx:=Pv (i+1),ct:=Pv (i+1),bk:=D.nx } σ2 H2)(hd:∀ Y H,Pv (min xs.length ys.length) Y H->D.nx Y H):ForIt (nY l1 l2) g tb D Y H:=by
 refine ⟨fun i m Y H=>m=min xs.length ys.length-i/\i<=min xs.length ys.length/\Pv i Y H,⟨min xs.length ys.length,by simp,F9 _,h0⟩,?_⟩;rintro i m Y H ⟨rfl,hi,p⟩;obtain ⟨e1,e2⟩:=hl i Y H p
 by_cases C9:i<min xs.length ys.length
 .refine .inr ⟨⟨xs,ys,xs[i]'(by lia),ys[i]'(by lia),e1,e2,by simp,by simp⟩,Pv (i+1),fun σ' H' p'=>⟨_,by lia,rfl,C9,p'⟩,fun v H' y=>?_⟩;obtain ⟨t,xs',ys',x,y',f1,f2,hx,hy,ht,rfl,rfl⟩:=y;rw [e1] at f1;cases f1;rw [e2] at f2;cases f2;exact hs i x y' t Y H hx hy p ht
 .have e:i=min xs.length ys.length:=by lia
  subst e;exact .inl ⟨⟨xs,ys,e1,e2,by lia⟩,hd Y H p⟩
noncomputable def Itr3 (lo st:Int) (n:Nat):It:=⟨fun i _=>i<n,fun i H x H'=>H'=H/\x=.int (lo+i*st),fun i _=>n<=i⟩
theorem agK{α β:Type}(f:α->β):∀ (l:List α) (i:Nat),(l.eraseIdx i).map f=(l.map f).eraseIdx i
 | [],_=>rfl
 | _::_,0=>rfl
 | x::l,i+1=>by
  show f x::(l.eraseIdx i).map f=f x::(l.map f).eraseIdx i;rw [agK f l i]
noncomputable def xS (td ty tx:TE):TE:=fun Y H Q=>td Y H fun x H1=>∃ a,x=.ref a/\gE H1 a/\ty Y H1 fun y H2=>tx Y H2 fun z H3=>∃ kvs k,H3 a=some (.dK kvs)/\kvs.length<sizeLine/\y=kV k/\
 (∀ v,valV kvs k=some v->Q v H3)/\(valV kvs k=none->Q z (A0 H3 a (.dK (putK kvs k z))))
section
variable {X:Cx} {o e f:Expr} {apos cpos:Pos} {td ty tx:TE} {pins:List (Addr×Obj)} {Y:St} {H:Hp} {s:Shared} {a:Addr} {A:Around} {E:Value->Shared->Prop}
theorem ari{k:C5}{z:V}{r:Value}{Q:Value->Shared->Prop}(I:Inv X pins Y H s)(e:H a=some (.dK kvs))(hl:kvs.length<sizeLine)(ry:RelV (kV k) u)(rz:RelV z r)(h1:∀ v w' s',valV kvs k=some v->Inv X pins Y H s'->RelV v w'->Q w' s')(h2:∀ s',valV kvs k=none->Inv X pins Y (A0 H a (.dK (putK kvs k z))) s'->Q r s') :
  wpAny 'b' A (call (.builtin "dict.setdefault") [.ref a,u,r]) Q E s:=by
 obtain ⟨hz,hd,vs,rel,dd⟩:=dk_of I.hok e;have A9:=rel.length;refine call_meetsIn PySem.F.slot_dict_setdefault dd.typeIs PySem.F.entry_dict_setdefault (PySem.F.args_dict_setdefault_3 _ _ _) (kt_meets_setdefault (P9 X.prog X.w) a (kV_is ry) hd r) ⟨vs,dd,by lia,fun v hv=>?_,fun hn h' hm hs=>?_⟩
 .have:=rel.val k
  rw [hv] at this;cases iO:valV kvs k with
  | none=>rw [iO] at this;exact this.elim
  | some x=>rw [iO] at this;exact h1 x v _ iO (I.tok _) this
 .have:=rel.val k
  rw [hn] at this;cases iO:valV kvs k with
  | some x=>rw [iO] at this;exact this.elim
  | none=>
   have L5:(putK kvs k z).length<=sizeLine:=by rw [alS z iO,C4,N3];lia
   obtain ⟨ob,_,_,ho,_⟩:=id hm;exact h2 _ iO (xB (t':=s.toks+1) I (by rw [e];exact trivial) hs ⟨ob,ho⟩ (xC L5 hd (rel.put k rz) hm))
theorem amo(ho:PE X o td)(he:PE X e ty)(hf:PE X f tx)(m:M2 X o "setdefault" apos e f cpos):PE X (.Call (.Attribute o "setdefault" apos) [e,f] [] cpos) (xS td ty tx):=by
 sleep 1;refine wpAny_Call_method m.base m.few m.line PySem.F.plainAttrs_dict PySem.F.slot_dict_setdefault PySem.F.type_dict_setdefault (B3 (ho pins s Y H _ I h) fun u s1 ⟨x,H1,I1,rx,a,ex,d,q1⟩=>?_);subst ex;obtain rfl:u=Value.ref a:=rx;obtain ⟨t1,t2,_⟩:=xE I1 d;refine ⟨t1,t2,?_⟩;rw [m.trees];refine Calls.callWith_builtin rfl (Calls.evalArgs_plain (Calls.spliced_cons (B3 (he pins s1 Y H1 _ I1 q1) fun iv s2 ⟨y,H2,I2,ry,q2⟩=>
  Calls.spliced_cons (B3 (hf pins s2 Y H2 _ I2 q2) fun fv s3 ⟨z,H3,I3,rz,kvs,k,e3,hl,ey,q3,q4⟩=>Calls.spliced_nil ?_))))
 subst ey;exact ari I3 e3 hl ry rz (fun v w' s4 hv I4 rw'=>⟨v,H3,I4,rw',q3 v hv⟩) fun s4 hn I4=>⟨z,_,I4,rz,q4 hn⟩
theorem amp(ho:QE X o td)(he:QE X e ty)(hf:QE X f tx)(h1:M6 e=false:=by rfl)(h2:M6 f=false:=by rfl)(G7:attributeBase o "setdefault" X.env (eval o X.env)=eval o X.env:=by rfl)(G8:(apos.endLine==cpos.line)=true:=by rfl):QE X (.Call (.Attribute o "setdefault" apos) [e,f] [] cpos) (xS td ty tx):=
 ⟨amo ho.out he.out hf.out ⟨G7,by rw [O7 h1,O7 h2];rfl,G8,by rw [O7 h1,O7 h2];rfl⟩⟩
theorem amq:xS td ty tx Y H Q=td Y H fun x H1=>∃ a,x=.ref a/\gE H1 a/\ty Y H1 fun y H2=>tx Y H2 fun z H3=>∃ kvs k,H3 a=some (.dK kvs)/\kvs.length<sizeLine/\y=kV k/\
 (∀ v,valV kvs k=some v->Q v H3)/\(valV kvs k=none->Q z (A0 H3 a (.dK (putK kvs k z)))):=rfl
end
section
variable {X:Cx} {tg:Expr}
noncomputable def rsz (i j k:Int):Nat:=(if i<j then (j-i-1) / k+1 else 0).toNat
noncomputable def iRng3 (ta:TA):TI:=fun Y H R=>ta Y H fun vs H1=>∃ i j k:Int,vs=[.int i,.int j,.int k]/\(-(2 ^ 60)<=i/\i<2 ^ 60/\-(2 ^ 60)<=j/\j<2 ^ 60/\0<k/\k<1000000)/\R (Itr3 i k (rsz i j k)) H1
end
theorem amr{R:It->Hp->Prop} : iRng3 ta Y H R=ta Y H fun vs H1=>∃ i j k:Int,vs=[.int i,.int j,.int k]/\(-(2 ^ 60)<=i/\i<2 ^ 60/\-(2 ^ 60)<=j/\j<2 ^ 60/\0<k/\k<1000000)/\R (Itr3 i k (rsz i j k)) H1:=rfl
section
variable {X:Cx} {pins:List (Addr×Obj)} {Y:St} {H:Hp} {s:Shared} {a:Addr}
theorem Inv.swap{u u':HO}(I:Inv X pins Y H s)(e:H a=some u)(n1:∀ xs,u≠.tup xs)(n2:∀ x,u≠.own x)(n3:∀ ps,u≠.tbl ps)(n4:∀ o v,X.H₀ a≠some (.frz o v))(new:ObjOk X.prog X.w H s.heap a u'):Inv X pins Y (A0 H a u') s:=by
 have ne:∀ b,H b=none->b≠a:=fun b h q=>by rw [q,e] at h;cases h
 have own:∀ c x,H c=some (.own x)->A0 H a u' c=some (.own x):=fun c x q=>by
  rw [B1 (fun z=>by rw [z,e] at q;exact n2 x (Option.some.inj q))];exact q
 have tup:∀ c xs,H c=some (.tup xs)->A0 H a u' c=some (.tup xs):=fun c x q=>by
  rw [B1 (fun z=>by rw [z,e] at q;exact n1 x (Option.some.inj q))];exact q
 refine ⟨I.ok,I.os,I.bare,⟨I.base.keep,I.base.slot,fun b o h1 h2 h3=>?_,I.base.there,fun b xs h=>tup b xs (I.base.tups b xs h),fun b o v h=>?_,fun b ps h=>?_⟩,I.loc,I.cell,?_,fun x c h=>?_,fun p hp=>?_,fun b v h=>?_,I.len⟩
 .have:=I.base.free b o h1 h2 h3
  rw [B1 (ne b this)];exact this
 .rw [B1 (fun z=>n4 o v (by rw [<- z];exact h))];exact I.base.frzs b o v h
 .obtain ⟨m,q⟩:=I.base.tbls b ps h;exact ⟨m,by rw [B1 (fun z=>by rw [z,e] at q;exact n3 _ (Option.some.inj q))];exact q⟩
 .rw [B1 (ne _ I.free)];exact I.free
 .rw [B1 (ne _ (I.freeC x c h))];exact I.freeC x c h
 .obtain ⟨h1,h2,h3⟩:=I.pin p hp;exact ⟨h1,by rw [B1 (ne _ h2)];exact h2,h3⟩
 .by_cases hb:b=a
  .subst hb;rw [A5] at h;cases h;exact new.stay (fun _ _ _ q=>q) (fun c q=>own c _ q) fun c xs q=>tup c xs q
  .rw [B1 hb] at h;exact (I.hok b v h).stay (fun _ _ _ q=>q) (fun c q=>own c _ q) fun c xs q=>tup c xs q
end
noncomputable def cG (a:Addr) (o:Obj) (kvs:List (C5×V)):It:=
 ⟨fun i H=>H a=some (.frz o (.dK kvs))/\i<kvs.length,fun i H x H'=>H'=H/\∃ k v,kvs[i]?=some (k,v)/\x=kV k,fun i H=>H a=some (.frz o (.dK kvs))/\kvs.length<=i⟩
theorem agL{P:Program}{w:World}(a it:Addr)(o:Obj)(kvs:List (C5×V))(vs:List (C5×Value))(ep:Nat)(K1:∀ h:Heap,h.get? a=some o->h.DictAt (P9 P w) a vs ep)(rel:KV kvs vs):Turn P w K tg (cG a o kvs) [it] it (fun i h=>h.IsKeyIter it a i vs.length ep) where
 mem:=by simp
 obj:=fun i h st b hb=>by
  have e:b=it:=by simpa using hb
  subst e;obtain ⟨o,e,c,d⟩:=st;exact ⟨o,e,fun v z=>by rw [d] at z;cases z⟩
 keep:=fun i h h' st k=>st.at fun o e=>k it 'c' o e
 item:=by
  intro X hP hw hK hc i pins s Y H E I hf st hg;subst hP hw hK;obtain ⟨f0,f1,f2,f3,f4,f5⟩:=hf it 'c';obtain ⟨hga,qH⟩:=hg;have hd:=K1 s.heap (I.hok a _ hga).1;have qI:i<vs.length:=by rw [<- rel.length];exact qH
  refine wpAny_pyNext_dict_item st hd (k:=vs[i].1) (v:=vs[i].2) (by rw [K8 qI]) fun key h' m6 qJ vK=>?_
  have I1:Inv X pins Y H { s with heap:=h' }:=I.turned (t':=s.toks) (fun b o hb e=>(vK.2 b hb).trans e) f0 f1 f3 f4 f5;obtain ⟨oi,e,c,d⟩:=id qJ;have hk:kvs[i].1=vs[i].1:=by
   have:=congrArg (·[i]?) rel.keys
   simpa [qH,qI] using this
  have rk:RelV (kV kvs[i].1) key:=by
   rw [hk];have m6:keyIs vs[i].1 key=true:=m6;generalize vs[i].1=kk at m6
   rcases v6 m6 with ⟨j,t,rfl,rfl⟩ | ⟨x,t,rfl,rfl⟩
   .exact ⟨t,rfl⟩
   .exact ⟨t,rfl⟩
  exact ⟨key,rfl,go_of (s:={ s with heap:=h' }) e c d 'h' ⟨kV kvs[i].1,H,I1,rk,⟨rfl,kvs[i].1,kvs[i].2,by rw [K8 qH],rfl⟩,qJ,fun b hb=>(hf b hb).1⟩⟩
 done:=by
  intro X hP hw hK hc i pins s Y H E I hf st hg;subst hP hw hK;obtain ⟨f0,f1,f2,f3,f4,f5⟩:=hf it 'c';obtain ⟨hga,qH⟩:=hg;have hd:=K1 s.heap (I.hok a _ hga).1;exact wpAny_pyNext_dict_end (I.ok.hd hc) st hd (by rw [List.getElem?_eq_none_iff,<- rel.length];exact qH) fun h' eb=>⟨rfl,I.turned (t':=s.toks) (fun b o hb e=>eb b o hb e) f0 f1 f3 f4 f5⟩
 self:=fun _ _ _ _ _ st h=>wpAny_pyIter_keyiter st h
noncomputable def Ends.thaw (D:Ends) (a:Addr) (kvs:List (C5×V)):Ends where
 nx:=fun Y H=>(∃ o,H a=some (.frz o (.dK kvs)))/\D.nx Y (A0 H a (.dK kvs))
 rt:=fun v H=>(∃ o,H a=some (.frz o (.dK kvs)))/\D.rt v (A0 H a (.dK kvs))
noncomputable def tForD (tl:TE) (g:TG) (tb:TS):TS:=fun D Y H=>tl Y H fun x H1=>∃ a kvs,x=.ref a/\H1 a=some (.dK kvs)/\∀ o,ForIt (cG a o kvs) g tb (D.thaw a kvs) Y (A0 H1 a (.frz o (.dK kvs)))
theorem aoz{l:Expr}{body:List Stmt}{pos:Pos}(hp:PassesOwn 'b' X.A X.env X.xe)(hc:X.calm=true)(hl:PE X l tl)(hg:PG X tg g)(hb:b9 X body tb)(hs:∀ x,foldedSetIterable l X.env x=pure x):PS X (.For tg l body [] pos) (tForD tl g tb):=by
 intro pins s Y H D I h;refine wpAny_For (B3 (hl pins s Y H _ I h) fun v s1 ⟨x,H1,I1,r1,q1⟩=>?_) hs;obtain ⟨a,kvs,rfl,e,q⟩:=q1
 cases r1
 obtain ⟨z,hd,vs,rel,dd⟩:=dk_of I1.hok e;obtain ⟨ep,K1⟩:=dd.dictAt;obtain ⟨o,es,ho,V4⟩:=id K1;refine wpAny_pyIter_dict hd K1 ?_;have NF:∀ o' v',X.H₀ a≠some (.frz o' v'):=fun o' v' z=>by
  have:=I1.base.frzs _ _ _ z
  rw [e] at this;cases this
 have I1':Inv X pins Y H1 { s1 with heap:=s1.heap.push { cls:=.type "dict_keyiterator",data:=.fields #[.ref a,.int 0 0,.int vs.length 0,.int ep 0] } }:=I1.kept (t':=s1.toks) fun b u e=>Heap.get?_push_of_some _ e
 have I2:=I1'.swap (u':=.frz o (.dK kvs)) e (fun _ q=>by cases q) (fun _ q=>by cases q) (fun _ q=>by cases q) NF ⟨Heap.get?_push_of_some _ ho,I1'.hok a _ e⟩;have thaw:∀ {σ':St} {H':Hp} {s':Shared},Inv X pins σ' H' s'->(∃ o,H' a=some (.frz o (.dK kvs)))->Inv X pins σ' (A0 H' a (.dK kvs)) s':=fun {σ' H' s'} I' ⟨o',e'⟩=>
  I'.swap e' (fun _ q=>by cases q) (fun _ q=>by cases q) (fun _ q=>by cases q) NF (I'.hok a _ e').2
 have T:Turn X.prog X.w X.K tg (cG a o kvs) [s1.heap.objs.size] s1.heap.objs.size (fun i h=>h.IsKeyIter s1.heap.objs.size a i vs.length ep):=agL a _ o kvs vs ep (fun h e=>⟨o,es,e,V4⟩) rel;have X7:A0 H1 a (.frz o (.dK kvs)) s1.heap.objs.size=none:=by rw [B1 (fun q=>by rw [<- q,I1.fresh] at e;cases e)];exact I1.fresh
 have f2:∀ b∈[s1.heap.objs.size],FpOk X pins (A0 H1 a (.frz o (.dK kvs))) b:=fun b hb=>by
  have e:b=s1.heap.objs.size:=by simpa using hb
  subst e;exact I1.fpOk (B5 _) X7
 obtain ⟨W,⟨m0,w0⟩,turn⟩:=q o;have stat:∀ {H':Hp},(∀ b∈[s1.heap.objs.size],H' b=none)->∀ b∈[s1.heap.objs.size],FpOk X pins H' b:=fun hn b hb=>⟨hn b hb,(f2 b hb).2⟩
 refine codeAny_forLoop_any (fun n s'=>∃ i σ' H',Inv X pins σ' H' s'/\s'.heap.IsKeyIter s1.heap.objs.size a i vs.length ep/\(∀ b∈[s1.heap.objs.size],H' b=none)/\W i n σ' H') ?_ m0 ⟨0,Y,_,I2,⟨_,Heap.get?_push_size _ rfl,rfl,rfl⟩,fun b hb=>(f2 b hb).1,w0⟩;rintro n s3 ⟨i,σ3,H3,I3,eT,pS,w3⟩
 rcases turn i n σ3 H3 w3 with ⟨stop,qn⟩ | ⟨go,N,hN,step⟩
 .refine wpAny_passesOwn hp (B3 (T.done X rfl rfl rfl hc i pins s3 σ3 H3 X.xe I3 (stat pS) eT stop) fun r s4 ⟨hr,I4⟩=>?_);subst hr;exact wpAny_execs_nil ⟨σ3,_,thaw I4 qn.1,qn.2⟩
 .refine wpAny_passesOwn hp (B3 (T.item X rfl rfl rfl hc i pins s3 σ3 H3 X.xe I3 (stat pS) eT go) fun r s4 ⟨u,hr,h4⟩=>?_);subst hr;refine wpAny_passesOwn hp (B3 h4 fun _ s5 ⟨x,H5,I5,r5,y5,iK,fr5⟩=>?_);have I5':=I5.pinned (stat fr5) (T.obj _ _ iK);refine wpAny_passesOwn hp (B3 (hg _ s5 σ3 H5 x u _ I5' r5 (step x H5 y5)) fun _ s6 ⟨σ6,H6,I6,q6⟩=>?_);refine wpAny_passesOwn hp (B3 (hb _ s6 σ6 H6 _ I6 q6) fun f s7 q7=>?_);have again:∀ {σ7:St} {H7:Hp},Inv X (pins++jU [s1.heap.objs.size] s5.heap) σ7 H7 s7->N σ7 H7->∃ m,m<n/\∃ i σ' H',Inv X pins σ' H' s7/\s7.heap.IsKeyIter s1.heap.objs.size a i vs.length ep/\(∀ b∈[s1.heap.objs.size],H' b=none)/\W i m σ' H':=fun {σ7 H7} I7 n7=>by
   obtain ⟨m',hm,w7⟩:=hN σ7 H7 n7;refine ⟨m',hm,i+1,σ7,H7,I7.unpinned,T.keep _ _ _ iK fun b hb o e=>(I7.pin (b,o) (U7 _ (U7 _ (jV hb e)))).1,fun b hb=>?_,w7⟩;obtain ⟨o,e,d⟩:=T.obj _ _ iK b hb;exact (I7.pin (b,o) (U7 _ (U7 _ (jV hb e)))).2.1
  cases f with
  | next=>obtain ⟨σ7,H7,I7,n7⟩:=q7;exact again I7 n7
  | cont=>obtain ⟨σ7,H7,I7,n7⟩:=q7;exact again I7 n7
  | brk=>obtain ⟨σ7,H7,I7,q7⟩:=q7;exact ⟨σ7,_,thaw I7.unpinned q7.1,q7.2⟩
  | ret v=>obtain ⟨x7,σ7,H7,I7,r7,q7⟩:=q7;exact ⟨x7,σ7,_,thaw I7.unpinned q7.1,r7,q7.2⟩
theorem xT{l:Expr}{body:List Stmt}{pos:Pos}(hp:PassesOwn 'b' X.A X.env X.xe)(hl:QE X l tl)(hg:QG X tg g)(hb:QSs X body tb)(hc:X.calm=true:=by rfl)(hs:∀ x,foldedSetIterable l X.env x=pure x:=by intro _;rfl):QS X (.For tg l body [] pos) (tForD tl g tb):=⟨aoz hp hc hl.out hg.out hb.out hs⟩
theorem aoA : tForD tl g tb D Y H=tl Y H fun x H1=>∃ a kvs,x=.ref a/\H1 a=some (.dK kvs)/\∀ o,ForIt (cG a o kvs) g tb (D.thaw a kvs) Y (A0 H1 a (.frz o (.dK kvs))):=rfl
theorem forD(Pv:Nat->St->Hp->Prop)(h0:Pv 0 Y H)(hl:∀ i Y H,Pv i Y H->H a=some (.frz o (.dK kvs)))(hs:∀ i k v Y H,kvs[i]?=some (k,v)->Pv i Y H->g (kV k) Y H fun σ2 H2=>tb { D.thaw a kvs with nx:=Pv (i+1),ct:=Pv (i+1),bk:=(D.thaw a kvs).nx } σ2 H2)(hd:∀ Y H,Pv kvs.length Y H->D.nx Y (A0 H a (.dK kvs))):ForIt (cG a o kvs) g tb (D.thaw a kvs) Y H:=by
 refine ⟨fun i m Y H=>m=kvs.length-i/\i<=kvs.length/\Pv i Y H,⟨kvs.length,by simp,F9 _,h0⟩,?_⟩;rintro i m Y H ⟨rfl,hi,p⟩;have e:=hl i Y H p
 by_cases C9:i<kvs.length
 .refine .inr ⟨⟨e,C9⟩,Pv (i+1),fun σ' H' p'=>⟨_,by lia,rfl,C9,p'⟩,fun v H' y=>?_⟩;obtain ⟨rfl,k,v',hk,rfl⟩:=y;exact hs i k v' Y _ hk p
 .have e2:i=kvs.length:=by lia
  subst e2;exact .inl ⟨⟨e,B5 _⟩,⟨o,e⟩,hd Y H p⟩
noncomputable def V2 (row:List Str):List (Str×Str):=row.zip row.tail
noncomputable def edges (rows:List (List Str)):List (Str×Str):=rows.flatMap V2
noncomputable def G6 (E:List (Str×Str)) (p:Str):List Str:=(E.filter fun e=>decide (e.1=p)).map (·.2)
noncomputable def J8 (E:List (Str×Str)) (line:List Str) (q:Str):Nat:=E.countP fun e=>decide (e.2=q) && !decide (e.1∈line)
noncomputable def cntIn (E:List (Str×Str)) (S:List Str) (q:Str):Nat:=E.countP fun e=>decide (e.2=q)&&decide (e.1∈S)
theorem ams(E:List (Str×Str))(a b p:Str):G6 (E++[(a,b)]) p=if a=p then G6 E p++[b] else G6 E p:=by
 unfold G6;rw [dN,E2]
 by_cases h:a=p
 .rw [if_pos h,mI (by simpa using h)];rfl
 .rw [if_neg h,mJ (by simpa using h)];simp
theorem agM(E:List (Str×Str))(p q:Str):(G6 E p).count q=E.countP fun e=>decide (e.2=q)&&decide (e.1=p):=by
 induction E with
 | nil=>rfl
 | cons e E ih=>
  unfold G6 at ih ⊢
  by_cases h:e.1=p
  .rw [mI (by simpa using h),K5,List.count_cons,ih,dO]
   by_cases h2:e.2=q
   .simp [h,h2]
   .simp [h,h2]
  .rw [mJ (by simpa using h),ih,dO];simp [h]
theorem aje{E:List (Str×Str)}(h:p∉S):cntIn E (S++[p]) q=cntIn E S q+(G6 E p).count q:=by
 rw [agM];unfold cntIn
 induction E with
 | nil=>rfl
 | cons e E ih=>
  rw [dO,dO,dO,ih]
  by_cases h2:e.2=q
  .by_cases h1:e.1=p
   .have:e.1∉S:=by rw [h1];exact h
    simp [h2,h1,h];lia
   .by_cases h3:e.1∈S
    .simp [h2,h1,h3];lia
    .simp [h2,h1,h3]
  .simp [h2]
theorem aiv{E:List (Str×Str)}(h:p∉line):J8 E line q=J8 E (line++[p]) q+(G6 E p).count q:=by
 rw [agM];unfold J8
 induction E with
 | nil=>rfl
 | cons e E ih=>
  rw [dO,dO,dO,ih]
  by_cases h2:e.2=q
  .by_cases h1:e.1=p
   .simp [h2,h1,h];lia
   .by_cases h3:e.1∈line
    .simp [h2,h1,h3]
    .simp [h2,h1,h3];lia
  .simp [h2]
theorem aky{E:List (Str×Str)}(h:∀ e∈E,e.1∈S)(q:Str):cntIn E S q=J8 E [] q:=by
 unfold cntIn J8;refine List.countP_congr fun e he=>?_
 simp [h e he]
theorem akz(E:List (Str×Str))(q:Str):cntIn E [] q=0:=by
 unfold cntIn
 simp
theorem cnt_zero{E:List (Str×Str)} : J8 E line q=0↔∀ e∈E,e.2=q->e.1∈line:=by
 unfold J8;rw [List.countP_eq_zero]
 constructor
 .intro h e he h2
  have:=h e he
  simpa [h2] using this
 .intro h e he
  by_cases h2:e.2=q
  .simp [h2,h e he h2]
  .simp [h2]
noncomputable def nextP (E:List (Str×Str)) (ts pre:List Str):Option Str:=(ts.filter fun p=>!decide (p∈pre)).find? fun p=>decide (J8 E pre p=0)
noncomputable def R5 (E:List (Str×Str)) (ts line:List Str):Prop:=∀ pre q post,line=pre++q::post->nextP E ts pre=some q
theorem R5.nil(E:List (Str×Str))(ts:List Str):R5 E ts []:=fun pre q post h=>by
 have:=congrArg Y8 h
 simp at this
theorem R5.snoc{E:List (Str×Str)}(r:R5 E ts line)(h:nextP E ts line=some p):R5 E ts (line++[p]):=fun pre q post e=>by
 rcases List.append_eq_append_iff.mp e with ⟨m,h1,h2⟩ | ⟨m,h1,h2⟩
 .cases m with
  | nil=>
   rw [K9] at h1;rw [List.nil_append] at h2
   cases (o4.inj h2).1
   rw [h1];exact h
  | cons a m=>
   have:=congrArg Y8 h2
   simp at this
 .cases m with
  | nil=>
   rw [K9] at h1;rw [List.nil_append] at h2
   cases (o4.inj h2).1
   rw [<- h1];exact h
  | cons a m=>
   rw [mU] at h2;have h3:=(o4.inj h2).1;exact r pre q m (by rw [h1,h3])
theorem gL{E:List (Str×Str)}{pre:List Str}(h:nextP E ts pre=some q):q∈ts/\q∉pre/\J8 E pre q=0:=by
 have h1:=List.mem_of_find?_eq_some h;have h2:=List.find?_some h;rw [Q1] at h1;exact ⟨h1.1,by simpa using h1.2,by simpa using h2⟩
theorem R5.nodup{E:List (Str×Str)} : ∀ {line:List Str},R5 E ts line->line.Nodup:=by
 intro line r;rw [dL,fQ];intro i j hi hj hij e;have e1:line=line.take j++line[j]::line.drop (j+1):=by rw [<- aG hj,V7]
 have:=(gL (r _ _ _ e1)).2.1
 exact this (a0.mpr ⟨i,by rw [E9];lia,by rw [List.getElem_take];exact e⟩)
theorem R5.sub{E:List (Str×Str)}(r:R5 E ts line)(h:q∈line):q∈ts:=by
 obtain ⟨pre,post,e⟩:=List.append_of_mem h;exact (gL (r pre q post e)).1
theorem aiw{E:List (Str×Str)}{rank:Str->Nat}(hr:∀ e∈E,rank e.1<rank e.2)(hE:∀ e∈E,e.1∈ts)(hw:∃ p∈ts,p∉line):∃ q,nextP E ts line=some q:=by
 have key:∀ n p,rank p<=n->p∈ts->p∉line->∃ q∈ts,q∉line/\J8 E line q=0:=by
  intro n
  induction n with
  | zero=>
   intro p hp ht hl;refine ⟨p,ht,hl,cnt_zero.mpr fun e he h2=>?_⟩
   have:=hr e he
   rw [h2] at this;lia
  | succ n ih=>
   intro p hp ht hl
   by_cases hc:J8 E line p=0
   .exact ⟨p,ht,hl,hc⟩
   .have:∃ e∈E,e.2=p/\e.1∉line:=by
     refine Classical.byContradiction fun hn=>hc (cnt_zero.mpr fun e he h2=>Classical.byContradiction fun h3=>hn ⟨e,he,h2,h3⟩)
    obtain ⟨e,he,h2,h3⟩:=this;have h4:=hr e he;rw [h2] at h4;exact ih e.1 'a' (hE e he) h3
 obtain ⟨p,hp,hl⟩:=hw;obtain ⟨q,h1,h2,h3⟩:=key (rank p) p (B5 _) hp hl;cases h:nextP E ts line with
 | some q=>exact ⟨q,rfl⟩
 | none=>
  have:=List.find?_eq_none.mp h q (Q1.mpr ⟨h1,by simpa using h2⟩)
  simp [h3] at this
theorem sY{E:List (Str×Str)}(nd:ts.Nodup)(r:R5 E ts line)(h:∀ p∈ts,p∈line):line.length=ts.length:=
 ((List.perm_ext_iff_of_nodup r.nodup nd).mpr fun a=>⟨r.sub,h a⟩).length_eq
theorem afz(E:List (Str×Str))(pre:List Str):∀ ts:List Str,nextP E ts pre=ts.find? fun p=>!decide (p∈pre)&&decide (∀ e∈E,e.2=p->e.1∈pre)
 | []=>rfl
 | t::ts=>by
  have ih:=afz E pre ts;unfold nextP at ih ⊢
  by_cases h:t∈pre
  .rw [mJ (by simpa using h),u8,ih];simp [h]
  .rw [mI (by simpa using h),u8,u8,ih]
   by_cases h2:J8 E pre t=0
   .have:=cnt_zero.mp h2
    rw [decide_eq_true h2,decide_eq_true this];simp [h]
   .have:¬ ∀ e∈E,e.2=t->e.1∈pre:=fun z=>h2 (cnt_zero.mpr z)
    rw [decide_eq_false h2,decide_eq_false this];simp [h]
theorem ajf{row:List Str}{e:Str×Str}(h:e∈V2 row):e.1∈row/\e.2∈row:=by
 unfold V2 at h;exact ⟨(List.of_mem_zip h).1,List.mem_of_mem_tail (List.of_mem_zip h).2⟩
theorem agN{rows:List (List Str)}{e:Str×Str}(h:e∈edges rows):e.1∈rows.flatten/\e.2∈rows.flatten:=by
 unfold edges at h;obtain ⟨row,h1,h2⟩:=g0.mp h
 have:=ajf h2
 exact ⟨List.mem_flatten.mpr ⟨row,h1,this.1⟩,List.mem_flatten.mpr ⟨row,h1,this.2⟩⟩
noncomputable def C1 (ts:List Str) (f:Str->V):List (C5×V):=ts.map fun t=>(Sum.inr t,f t)
theorem xU(f:Str->V)(z:Str):∀ ts:List Str,((C1 ts f).any fun kv=>decide (kv.1=(Sum.inr z:C5)))=decide (z∈ts)
 | []=>by simp [C1]
 | y::ts=>by
  have ih:=xU f z ts;unfold C1 at ih ⊢
  rw [K5,bP,ih]
  by_cases e:y=z
  .subst e
   simp
  .have e1:decide ((Sum.inr y:C5)=Sum.inr z)=false:=decide_eq_false fun q=>e (Sum.inr.inj q)
   rw [e1,Bool.false_or]
   by_cases h:z∈ts
   .rw [decide_eq_true h,decide_eq_true (N4 _ h)]
   .rw [decide_eq_false h,decide_eq_false];intro q
    rcases E7.mp q with q | q
    .exact e q.symm
    .exact h q
theorem O3(f:Str->V)(z:Str):∀ ts:List Str,valV (C1 ts f) (Sum.inr z)=if z∈ts then some (f z) else none
 | []=>rfl
 | y::ts=>by
  have ih:=O3 f z ts;unfold C1 at ih ⊢
  rw [K5]
  by_cases e:y=z
  .subst e;rw [sL rfl,if_pos O0]
  .rw [cD (fun q=>e (Sum.inr.inj q)),ih]
   by_cases h:z∈ts
   .rw [if_pos h,if_pos (N4 _ h)]
   .rw [if_neg h,if_neg];intro q
    rcases E7.mp q with q | q
    .exact e q.symm
    .exact h q
theorem nZ{f:Str->V}(v:V)(h:z∈ts):putK (C1 ts f) (Sum.inr z:C5) v=C1 ts fun t=>if t=z then v else f t:=by
 unfold putK;rw [xU,decide_eq_true h,if_pos rfl];unfold C1;rw [b0];refine fR fun y _=>?_
 show (if (Sum.inr y:C5)=Sum.inr z then ((Sum.inr y:C5),v) else (Sum.inr y,f y))=((Sum.inr y:C5),if y=z then v else f y)
 by_cases e:y=z
 .rw [if_pos (by rw [e]),if_pos e]
 .rw [if_neg (fun q=>e (Sum.inr.inj q)),if_neg e]
theorem eB{f:Str->V}(v:V)(h:z∉ts):putK (C1 ts f) (Sum.inr z:C5) v=C1 (ts++[z]) fun t=>if t=z then v else f t:=by
 unfold putK;rw [xU,decide_eq_false h,if_neg M4];unfold C1;rw [E2]
 congr 1
 .refine fR fun y hy=>?_
  show _=((Sum.inr y:C5),if y=z then v else f y);rw [if_neg (fun e:y=z=>h (by rw [<- e];exact hy))]
 .simp
theorem W1{f g:Str->V}(h:∀ t∈ts,f t=g t):C1 ts f=C1 ts g:=by
 unfold C1;exact fR fun t ht=>by rw [h t ht]
theorem k9(f:Str->V)(ts:List Str):(C1 ts f).length=ts.length:=by unfold C1;rw [A6]
theorem sZ{f:Str->V}{k:C5}{v:V}(h:(C1 ts f)[i]?=some (k,v)):∃ t,ts[i]?=some t/\k=Sum.inr t/\v=f t:=by
 unfold C1 at h;obtain ⟨t,h1,h2⟩:=G0 h;cases h2;exact ⟨t,h1,rfl,rfl⟩
theorem amt(f:Str->V)(ts:List Str):((C1 ts f).map fun kv=>kV kv.1)=ts.map V.str:=by
 unfold C1;rw [b0];rfl
structure DL(H0 H:Hp)(ts:List Str)(ad:Str->Addr)(F:Str->List Str):Prop where
 row:∀ t∈ts,H (ad t)=some (.lst ((F t).map V.str))
 inj:∀ t∈ts,∀ u∈ts,ad t=ad u->t=u
 new:∀ t∈ts,H0 (ad t)=none
theorem DL.same{ad:Str->Addr}{F:Str->List Str}(x:DL H0 H ts ad F)(s:Same H H'):DL H0 H' ts ad F:=⟨fun t h=>s _ _ (x.row t h),x.inj,x.new⟩
theorem DL.app{ad:Str->Addr}{F:Str->List Str}(x:DL H0 H ts ad F)(hz:z∈ts)(ys:List Str):DL H0 (A0 H (ad z) (.lst (ys.map V.str))) ts ad fun t=>if t=z then ys else F t:=by
 refine ⟨fun t ht=>?_,x.inj,x.new⟩;show _=some (HO.lst ((if t=z then ys else F t).map V.str))
 by_cases e:t=z
 .subst e;rw [A5,if_pos rfl]
 .rw [B1 (fun q=>e (x.inj t ht z hz q)),if_neg e];exact x.row t ht
theorem DL.more{ad:Str->Addr}{F:Str->List Str}(x:DL H0 H ts ad F)(hz:z∉ts){p:Addr}(np:H p=none)(n0:H0 p=none):DL H0 (A0 H p (.lst [])) (ts++[z]) (fun t=>if t=z then p else ad t) fun t=>if t=z then [] else F t:=by
 have ne:∀ t∈ts,t≠z:=fun t ht e=>hz (by rw [<- e];exact ht)
 have nad:∀ t∈ts,ad t≠p:=fun t ht e=>by have:=x.row t ht;rw [e,np] at this;cases this
 have cases':∀ t,t∈ts++[z]->(t∈ts/\t≠z)\/t=z:=fun t ht=>by
  rcases E1.mp ht with h | h
  .exact .inl ⟨h,ne t h⟩
  .exact .inr (F6.mp h)
 refine ⟨fun t ht=>?_,fun t ht u hu e=>?_,fun t ht=>?_⟩
 .show A0 H p (.lst []) (if t=z then p else ad t)=some (.lst ((if t=z then [] else F t).map V.str))
  rcases cases' t ht with ⟨h1,h2⟩ | rfl
  .rw [if_neg h2,if_neg h2,B1 (nad t h1)];exact x.row t h1
  .rw [if_pos rfl,if_pos rfl,A5];rfl
 .have e:(if t=z then p else ad t)=(if u=z then p else ad u):=e
  rcases cases' t ht with ⟨h1,h2⟩ | rfl <;> rcases cases' u hu with ⟨h3,h4⟩ | rfl
  .rw [if_neg h2,if_neg h4] at e;exact x.inj t h1 u h3 e
  .rw [if_neg h2,if_pos rfl] at e;exact absurd e (nad t h1)
  .rw [if_pos rfl,if_neg h4] at e;exact absurd e.symm (nad u h3)
  .rfl
 .show H0 (if t=z then p else ad t)=none
  rcases cases' t ht with ⟨h1,h2⟩ | rfl
  .rw [if_neg h2];exact x.new t h1
  .rw [if_pos rfl];exact n0
theorem amu(h:acc.Nodup)(z:Str):(dd acc z).Nodup:=by
 unfold dd
 split
 .exact h
 .rename_i hz
  rw [bO];refine ⟨h,by simp,fun a ha b hb e=>hz ?_⟩;rw [<- F6.mp hb,<- e];exact ha
theorem xV:∀ {zs acc:List Str},acc.Nodup->(G3 acc zs).Nodup
 | [],_,h=>h
 | z::zs,acc,h=>xV (zs:=zs) (amu h z)
theorem kJ(zss:List (List Str)):(toldL zss).Nodup:=by
 unfold toldL;rw [sR];exact xV 'c'
theorem l6(x:Str):∀ (zs acc:List Str),x∈G3 acc zs↔x∈acc\/x∈zs
 | [],acc=>by simp [G3]
 | z::zs,acc=>by
  show x∈G3 (dd acc z) zs↔_;rw [l6 x zs];unfold dd
  by_cases h:z∈acc
  .rw [if_pos h,E7]
   constructor
   .rintro (h1 | h1)
    .exact .inl h1
    .exact .inr (.inr h1)
   .rintro (h1 | rfl | h1)
    .exact .inl h1
    .exact .inl h
    .exact .inr h1
  .rw [if_neg h,E1,F6,E7,or_assoc]
theorem xW(x:Str)(zss:List (List Str)):x∈toldL zss↔x∈zss.flatten:=by
 unfold toldL;rw [sR,l6]
 simp
theorem xX{zss:List (List Str)}{e:Str×Str}(h:e∈edges zss):e.1∈toldL zss/\e.2∈toldL zss:=⟨(xW _ _).mpr (agN h).1,(xW _ _).mpr (agN h).2⟩
theorem ajg{zss:List (List Str)}(h:zss[i]?=some zs):edges (zss.take (i+1))=edges (zss.take i)++V2 zs:=by
 rw [t9,h];unfold edges;rw [o3]
 simp
theorem xY(zs:List Str):(V2 zs).length=min zs.length zs.tail.length:=by unfold V2;rw [List.length_zip]
theorem agO{x y:Str}(h1:zs[j]?=some x)(h2:zs.tail[j]?=some y):(V2 zs)[j]?=some (x,y):=by
 unfold V2;rw [List.getElem?_zip_eq_some];exact ⟨h1,h2⟩
theorem agP(zss:List (List Str)):(edges zss).length<=zss.flatten.length:=by
 induction zss with
 | nil=>exact B5 _
 | cons zs zss ih=>
  unfold edges at ih ⊢
  rw [u7,C4,fU,C4,xY];lia
theorem DL.put{ad:Str->Addr}{F:Str->List Str}(x:DL H0 H ts ad F){o u:HO}(hb:H0 b=some u):DL H0 (A0 H b o) ts ad F:=
 ⟨fun t ht=>by rw [B1 (fun e=>by have:=x.new t ht;rw [e,hb] at this;cases this)];exact x.row t ht,x.inj,x.new⟩
theorem DL.congr{ad:Str->Addr}{F G:Str->List Str}(x:DL H0 H ts ad F)(h:∀ t∈ts,F t=G t):DL H0 H ts ad G:=⟨fun t ht=>by rw [<- h t ht];exact x.row t ht,x.inj,x.new⟩
theorem DL.old{H00:Hp}{ad:Str->Addr}{F:Str->List Str}(x:DL H0 H ts ad F)(s:Same H00 H0):DL H00 H ts ad F:=⟨x.row,x.inj,fun t ht=>s.free (x.new t ht)⟩
theorem xZ(nd:ts.Nodup)(h:ts[i]?=some z):z∉ts.take i:=fun hm=>by
 obtain ⟨hi,e⟩:=G2.mp h;obtain ⟨j,hj,e2⟩:=a0.mp hm;rw [E9] at hj;rw [List.getElem_take] at e2
 have:=(dL.mp nd)
 rw [fQ] at this;exact this j i 'a' hi 'a' (e2.trans e.symm)
theorem M8{α:Type}{ts:List α}{z:α}(h:ts[i]?=some z):ts.take (i+1)=ts.take i++[z]:=by rw [t9,h];rfl
noncomputable def SameBut (d:Addr) (H H':Hp):Prop:=∀ b o,b≠d->H b=some o->H' b=some o
theorem SameBut.put{d q:Addr}{u:HO}(s:SameBut d H0 H)(n:H0 q=none):SameBut d H0 (A0 H q u):=fun b o hb h=>by rw [B1 (bY h n)];exact s b o hb h
theorem SameBut.thaw{d:Addr}{u:HO}(s:SameBut d H0 H)(h:H0 d=some u):Same H0 (A0 H d u):=fun b o hb=>by
 by_cases e:b=d
 .subst e;rw [A5,<- hb,h]
 .rw [B1 e];exact s b o e hb
theorem RowsAt.grow{q:Addr}{zss:List (List Str)}(R:RowsAt H0 H a rs zss)(S:Same H H')(hq:H q=none)(cQ:H' q=some (.lst (zs.map V.str))):RowsAt H0 (A0 H' a (.lst (rs.map V.ref++[V.ref q]))) a (rs++[q]) (zss++[zs]):=by
 have nq:∀ r∈a::rs,r≠q:=fun r hr z=>by
  obtain ⟨o,e⟩:=R.live hr;rw [z,hq] at e;cases e
 obtain ⟨na,_⟩:=V8.mp R.nd;refine ⟨⟨by rw [A5,E2];rfl,?_⟩,?_,?_,?_⟩
 .refine Paired.snoc (nU R.rows.row fun r hr zs h=>?_) ?_
  .rw [B1 (fun z:r=a=>na (by rw [<- z];exact hr))];exact S _ _ h
  .rw [B1 (nq a O0).symm];exact cQ
 .show (a::(rs++[q])).Nodup;exact sM R.nd fun h=>nq q h rfl
 .intro r hr
  rcases E7.mp hr with h | h
  .exact R.new r (by rw [h];exact O0)
  .rcases E1.mp h with h | h
   .exact R.new r (N4 _ h)
   .rw [F6.mp h];exact R.same.free hq
 .exact (R.same.trans S).put (R.new a O0)
noncomputable def spFol:Sp:=fun vs H Q _=>∃ (a:Addr) (rs:List Addr) (zss:List (List Str)),vs=[.ref a]/\IsRows H a rs zss/\zss.flatten.length<=100000/\
 ∀ (d:Addr) (ad:Str->Addr) (H':Hp),H d=none->Same H H'->H' d=some (.dK (C1 (toldL zss) fun t=>.ref (ad t)))->DL H H' (toldL zss) ad (G6 (edges zss))->Q (.ref d) H'
noncomputable def akA:Sp:=fun vs H Q _=>∃ (d:Addr) (ts:List Str) (ad:Str->Addr) (E:List (Str×Str)),vs=[.ref d]/\H d=some (.dK (C1 ts fun t=>.ref (ad t)))/\ts.Nodup/\ts.length<=100000/\E.length<=100000/\
 (∀ t∈ts,H (ad t)=some (.lst ((G6 E t).map V.str)))/\(∀ e∈E,e.1∈ts/\e.2∈ts)/\∀ c H',H c=none->Same H H'->H' c=some (.dK (C1 ts fun t=>.int (J8 E [] t:Nat)))->Q (.ref c) H'
theorem agQ:∀ {l m:List Str},l.Nodup->(∀ x∈l,x∈m)->l.length<=m.length
 | [],_,_,_=>F9 _
 | x::l,m,nd,h=>by
  obtain ⟨n1,n2⟩:=V8.mp nd;have hx:=h x O0
  have:=agQ (l:=l) (m:=m.erase x) n2 fun y hy=>(List.mem_erase_of_ne (fun e=>n1 (by rw [<- e];exact hy))).mpr (h y (N4 _ hy))
  rw [List.length_erase_of_mem hx] at this;have iP:=List.length_pos_of_mem hx;rw [K4];lia
noncomputable def akB:Sp:=fun vs H Q _=>∃ (a:Addr) (rs:List Addr) (zss:List (List Str)) (rank:Str->Nat),vs=[.ref a]/\IsRows H a rs zss/\zss.flatten.length<=100000/\(∀ e∈edges zss,rank e.1<rank e.2)/\
 ∀ (l:Addr) (line:List Str) (H':Hp),H l=none->Same H H'->H' l=some (.lst (line.map V.str))->R5 (edges zss) (toldL zss) line->(∀ p∈toldL zss,p∈line)->Q (.ref l) H'
theorem SameBut.free{d p:Addr}(s:SameBut d H0 H)(n:H p=none)(h:p≠d):H0 p=none:=by
 cases e:H0 p with
 | none=>rfl
 | some o=>
  have:=s p o h e
  rw [n] at this;cases this
theorem SameBut.same{d:Addr}(s:SameBut d H1 H2)(S:Same H H1)(n:H d=none):Same H H2:=fun b o h=>s b o (bY h n) (S b o h)
theorem uam(d:Addr)(H:Hp):SameBut d H H:=fun _ _ _ h=>h
theorem SameBut.at{d:Addr}{o:HO}(s:SameBut d H H'):SameBut d H (A0 H' d o):=fun b u hb h=>by rw [B1 hb];exact s b u hb h
noncomputable def one (c:Nat):Str:=⟨#[c]⟩
noncomputable def L4 (c d:Nat):Str:=⟨#[c,d]⟩
section
variable {X:Cx}
noncomputable def rAnyB (calm:Bool):List V->Hp->VK->Prop
 | [.ref p],H,Q=>∃ bs:List Bool,calm=true/\H p=some (.lst (bs.map V.bl))/\Q (.bl (bs.any id)) H
 | _,_,_=>False
theorem p_any:CallR X (.builtin "any") (rAnyB X.calm):=by
 intro pins s Y H xs us Q I r h
 match xs,h with
 | [.ref p],⟨bs,hc,hp,q⟩=>
  obtain ⟨u,rfl,rx⟩:=vals1 r
  cases rx
  obtain ⟨z,its,n,rv,hl,e⟩:=I.lstM hp;have pl:s.heap.IsList p its.toArray:=⟨_,e,rfl,n,rfl⟩
  refine call_any_walk (wpAny_pyIter_list pl ?_);have G9:p≠s.heap.objs.size:=O6 (Heap.lt_size e);have hk:∀ b o,s.heap.get? b=some o->(s.heap.push { cls:=.type "list_iterator",data:=.fields #[.ref p,.int 0 0] }).get? b=some o:=fun b o q=>Heap.get?_push_of_some _ q
  refine ⟨_,_,_,_,_,_,fun i=>(bs[i]?).getD false,rfl,Walks.list (show X.A.in1.handled=none from I.ok.hd hc) s.heap.objs.size p G9 its.toArray,⟨⟨_,Heap.get?_push_size _ rfl,rfl,rfl⟩,pl.at fun o q=>hk p o q⟩,?_,?_⟩
  .intro i v s' Q' E' hv hq;have vF:its[i]?=some v:=by simpa using hv
   have hb:∃ b,bs[i]?=some b/\v=.bool b:=by
    cases eb:(bs.map V.bl)[i]? with
    | none=>
     have:=rv.none_of eb
     rw [vF] at this
     cases this
    | some y=>
     obtain ⟨u,h1,h2⟩:=rv.get eb;rw [vF] at h1;cases h1;rw [T8] at eb;cases e3:bs[i]? with
     | none=>rw [e3] at eb;cases eb
     | some b=>
      rw [e3] at eb;cases eb;exact ⟨b,rfl,h2⟩
   obtain ⟨b,e1,rfl⟩:=hb;have hq:Q' ((bs[i]?).getD false) s':=hq;rw [e1] at hq;exact wpAny_truthy_bool hq
  .intro h' tk qK;have e1:(List.range its.toArray.size).any (fun i=>(bs[i]?).getD false)=bs.any id:=by
    have A9:its.toArray.size=bs.length:=by
     rw [M3,<- hl,A6]
    rw [A9,aL,mV,mV]
    constructor
    .rintro ⟨i,hi,hb⟩;rw [jP] at hi;rw [K8 hi,Option.getD_some] at hb;exact ⟨bs[i],List.getElem_mem hi,hb⟩
    .rintro ⟨b,hb,ht⟩;obtain ⟨i,hi,rfl⟩:=a0.mp hb;exact ⟨i,jP.mpr hi,by rw [K8 hi];exact ht⟩
   rw [e1];have I1:Inv X pins Y H { s with heap:=h',toks:=tk }:=I.kept fun b o q=>qK b o (by
    intro hm
    have:b=s.heap.objs.size:=by simpa using hm
    rw [this] at q;exact absurd (Heap.lt_size q) (g3 _)) (hk b o q)
   exact ⟨.bl _,H,I1,rfl,q⟩
theorem q_any(qB:X.calm=calm:=by rfl):QCall X (.builtin "any") (rAnyB calm):=by subst qB;exact ⟨p_any⟩
theorem any_r{cm:Bool}{p:Addr} : rAnyB cm [.ref p] H Q=∃ bs:List Bool,cm=true/\H p=some (.lst (bs.map V.bl))/\Q (.bl (bs.any id)) H:=rfl
end
noncomputable def oA (l : Addr) : It :=
  ⟨fun i H => ∃ xs x, H l = some (.lst xs) /\ xs[i]? = some x,
   fun i H v H' => ∃ t xs x, H l = some (.lst xs) /\ xs[i]? = some x /\ H t = none /\ v = .ref t /\ H' = A0 H t (.tup [.int i, x]),
   fun i H => ∃ xs, H l = some (.lst xs) /\ xs.length <= i⟩
theorem akC{P:Program}{w:World}{pos:Pos}(e it l:Addr)(G9:e≠it) :
  Turn P w K (.Tuple elts x1 pos) (oA l) [e,it] e (fun i h=>(∃ old,IsEnum h e it ((i:Nat):Int) old)/\h.IsListIter it l i) where
 mem:=by simp
 obj:=fun i h ⟨⟨old,he⟩,hi⟩ c hc=>by
  have q:c=e\/c=it:=by simpa using hc
  rcases q with rfl | rfl
  .exact ⟨_,he,fun v q=>by cases q⟩
  .obtain ⟨o,e,c,d⟩:=hi;exact ⟨o,e,fun v z=>by rw [d] at z;cases z⟩
 keep:=fun i h h' ⟨⟨old,he⟩,hi⟩ k=>⟨⟨old,k e 'c' _ he⟩,hi.at fun o q=>k it 'c' o q⟩
 item:=by
  intro X hP hw hK hc i pins s Y H E I hf ⟨⟨old,he⟩,hi⟩ hg;subst hP hw hK;obtain ⟨xs,x,e1,hx⟩:=hg;obtain ⟨its1,i6,p1,_⟩:=I.list (D9.of (K:=X.K) e1);obtain ⟨u1,C2,r1⟩:=i6.get hx;refine wpAny_pyNext_enum_item he hi p1.isList (x:=u1) (by simpa using C2) G9 fun h' b1 b2 b3 b4 b5=>⟨_,rfl,wpAny_letOwnedTupleGo_enum b1 fun h2' c1 c2=>?_⟩
  have Z3:e<s.heap.objs.size:=Heap.lt_size he;have up:∀ c o,c≠e->h'.get? c=some o->h2'.get? c=some o:=fun c o hc q=>(c2.2 c hc).trans q
  have hT:=up _ _ (Nat.ne_of_gt Z3) b3;have nT:∀ c∈[e,it],c≠s.heap.objs.size:=fun c hc=>by
   have q:c=e\/c=it:=by simpa using hc
   refine O6 ?_
   rcases q with rfl | rfl
   .exact Z3
   .obtain ⟨o,q,_⟩:=hi;exact Heap.lt_size q
  refine ⟨.ref s.heap.objs.size,A0 H s.heap.objs.size (.tup [.int i,x]),I.turnNew (t':=s.toks+1) (ch:=[e,it]) hf (fun c u hc q=>?_) (B5 _) ⟨by show 2<=sizeLine;decide,[.int i s.toks,u1],.cons ⟨_,rfl⟩ (.cons r1 .nil),?_⟩,rfl,⟨_,xs,x,e1,hx,I.fresh,rfl,rfl⟩,
   ⟨⟨_,c1⟩,b2.at fun o q=>up _ o G9.symm q⟩,fun c hc=>by rw [B1 (nT c hc)];exact (hf c hc).1⟩
  .have q1:c≠e/\c≠it:=⟨fun q=>hc (by simp [q]),fun q=>hc (by simp [q])⟩
   exact up c u q1.1 (b5 c u q1.1 q1.2 q)
  .exact ⟨_,hT,rfl,_,rfl⟩
 done:=by
  intro X hP hw hK hc i pins s Y H E I hf ⟨⟨old,he⟩,hi⟩ hg;subst hP hw hK;obtain ⟨xs,e1,f8⟩:=hg;obtain ⟨its1,i6,p1,_⟩:=I.list (D9.of (K:=X.K) e1);have q1:=i6.length;obtain ⟨f0,f1,f2,f3,f4,f5⟩:=hf it 'c';exact wpAny_pyNext_enum_end (I.ok.hd hc) he hi p1.isList (by simp;lia) fun h' eb=>⟨rfl,I.turned (t':=s.toks) (fun b o hb q=>eb b o hb q) f0 f1 f3 f4 f5⟩
 self:=fun _ _ _ _ _ st h=>by
  obtain ⟨⟨old,he⟩,_⟩:=st;exact wpAny_pyIter_enum he h
section
variable {X:Cx}
noncomputable def iEnum (ta:TA):TI:=fun Y H R=>ta Y H fun vs H1=>∃ (l:Addr) (xs:List V),vs=[.ref l]/\H1 l=some (.lst xs)/\R (oA l) H1
theorem aoB{a:Expr}{p pos:Pos}(hg:Gl X "enumerate")(hm:X.mg "enumerate"=none)(ha:PA X [a] ta)(h1:M6 a=false:=by rfl) :
  PI X (.Tuple elts x1 tpos) (.Call (.Name "enumerate" p) [a] [] pos) (iEnum ta):=by
 intro pins s Y H R I h;refine Call_ (dR I hg hm boot_enumerate (PyProof.Rows.callWith_type1 (B3 (ha pos pins s Y H _ I h) fun us s1 ⟨vs,H1,I1,r1,q1⟩=>?_) (O7 h1) rfl));obtain ⟨l,xs,rfl,e1,q⟩:=q1;obtain ⟨u1,rfl,qG⟩:=vals1 r1
 cases qG
 obtain ⟨its1,i6,p1,_⟩:=I1.list (D9.of (K:=X.K) e1);refine call_enumerate_list p1.isList fun h' z1 z2 z3 z4=>wpAny_pyIter_enum z1 ?_
 refine ⟨s1.heap.objs.size+1,[s1.heap.objs.size+1,s1.heap.objs.size],_,_,H1,rfl,I1.kept (t':=s1.toks) z4,akC _ s1.heap.objs.size l (p6 'a'),⟨⟨_,z1⟩,z2⟩,fun b hb=>?_,q⟩;have f9:s1.heap.objs.size<=b:=by
  have e:b=s1.heap.objs.size+1\/b=s1.heap.objs.size:=by simpa using hb
  rcases e with rfl | rfl
  .exact bQ _ _
  .exact B5 _
 exact I1.fpOk f9 (I1.hok.fresh f9)
theorem oB{a:Expr}{p pos:Pos}(hm:X.mg "enumerate"=none)(ha:QA X [a] ta)(hg:Gl X "enumerate":=by rfl)(h1:M6 a=false:=by rfl) :
  QI X (.Tuple elts x1 tpos) (.Call (.Name "enumerate" p) [a] [] pos) (iEnum ta):=⟨aoB hg hm ha.out h1⟩
end
theorem amv{R:It->Hp->Prop} : iEnum ta Y H R=ta Y H fun vs H1=>∃ (l:Addr) (xs:List V),vs=[.ref l]/\H1 l=some (.lst xs)/\R (oA l) H1:=rfl
theorem forE{l:Addr}(Pv:Nat->St->Hp->Prop)(h0:Pv 0 Y H)(hl:∀ i Y H,Pv i Y H->H l=some (.lst xs))(hs:∀ i x t Y H,xs[i]?=some x->Pv i Y H->H t=none->g (.ref t) Y (A0 H t (.tup [.int i,x])) fun σ2 H2=>tb { D with nx:=Pv (i+1),ct:=Pv (i+1),bk:=D.nx } σ2 H2)(hd:∀ Y H,Pv xs.length Y H->D.nx Y H):ForIt (oA l) g tb D Y H:=by
 refine ⟨fun i m Y H=>m=xs.length-i/\i<=xs.length/\Pv i Y H,⟨xs.length,by simp,F9 _,h0⟩,?_⟩;rintro i m Y H ⟨rfl,hi,p⟩;have e1:=hl i Y H p
 by_cases C9:i<xs.length
 .refine .inr ⟨⟨xs,xs[i],e1,by simp⟩,Pv (i+1),fun σ' H' p'=>⟨_,by lia,rfl,C9,p'⟩,fun v H' y=>?_⟩;obtain ⟨t,xs',x,f1,hx,ht,rfl,rfl⟩:=y;rw [e1] at f1;cases f1;exact hs i x t Y H hx p ht
 .have e:i=xs.length:=by lia
  subst e;exact .inl ⟨⟨xs,e1,by lia⟩,hd Y H p⟩
noncomputable def MO (P:Program) (w:World) (K:PySem.W.Frag) (mg:Str->Option Value) (base:Heap) (k:Nat) (C:Addr) (m:Str) (ps:List Str) (sp:Sp):Prop:=
 ∃ f fd,FnOk P w K mg base E6 k f fd ps sp/\Cls K C/\Meth K C m f/\Binds K fd ps []
noncomputable def KO (P:Program) (w:World) (K:PySem.W.Frag) (mg:Str->Option Value) (base:Heap) (k:Nat) (C:Addr) (x:Str) (ps:List Str) (sp:Sp):Prop:=
 ∃ f fd,FnOk P w K mg base E6 k f fd ps sp/\Mk K C f/\mg x=some (.ref C)/\Binds K fd ps []
section
variable {X:Cx} {k:Nat} {C:Addr} {ps:List Str} {sp:Sp} {x m:Str} {p pos apos:Pos} {e o:Expr} {es:List Expr} {ta:TE} {t:TA}
theorem aoC(G:KO X.prog X.w X.K X.mg X.base k C x ps sp)(hr:Room (k+1) X.A)(ha:QA X (e::es) t)(hg:Gl X x:=by rfl)(h1:M6 e=false:=by rfl)(h2:Z1 es=true:=by rfl)(U3:(x==("__debug__" : Str))=false:=by decide) :
  QE X (.Call (.Name x p) (e::es) [] pos) (tMake C sp [] E0 t):=by
 obtain ⟨f,fd,F,M,hm,hb⟩:=G;exact ⟨anJ M F hr hg hm hb .nil pass0 ha.out U3 (O7 h1) (gF h2)⟩
theorem aoD(ho:QE X o ta)(G:MO X.prog X.w X.K X.mg X.base k C m ps sp)(hr:Room k X.A)(ha:QA X (e::es) t)(h1:M6 e=false:=by rfl)(h2:Z1 es=true:=by rfl){pl:Sem Bool}(ht:eval (.Call (.Attribute o m apos) (e::es) [] pos) X.env=(do
   let ov <- eval o X.env
   standAt apos.atName
   let (f,first) <- holding [ov] (getMethod ov m pl)
   callWith pos f first (backTo pos (starEach (e::es) X.env)) (backToKw pos (keywordEach [] X.env))):=by rfl) :
  QE X (.Call (.Attribute o m apos) (e::es) [] pos) (tMeth C m sp [] E0 ta t):=by
 obtain ⟨f,fd,F,c,hm,hb⟩:=G;exact ⟨anI ho.out c hm F hr hb .nil pass0 ha.out (O7 h1) (gF h2) ht⟩
theorem amw(ho:QE X o ta)(G:MO X.prog X.w X.K X.mg X.base k C m ps sp)(hr:Room k X.A){pl:Sem Bool}(ht:eval (.Call (.Attribute o m apos) [] [] pos) X.env=(do
   let ov <- eval o X.env
   standAt apos.atName
   let (f,first) <- holding [ov] (getMethod ov m pl)
   callWith pos f first (backTo pos (starEach [] X.env)) (backToKw pos (keywordEach [] X.env))):=by rfl) :
  QE X (.Call (.Attribute o m apos) [] [] pos) (tMeth C m sp [] E0 ta tNil):=by
 obtain ⟨f,fd,F,c,hm,hb⟩:=G;exact ⟨alK ho.out c hm F hr hb .nil pass0 ht⟩
end
section
variable {C:Addr} {m f:Str} {sp:Sp} {K:PySem.W.Frag} {ta tv:TE} {t:TA} {Y:St} {H:Hp} {Q:VK} {D:Ends}
theorem aoE:tMake C sp [] E0 t Y H Q=t Y H fun vs H1=>∀ x dx,H1 x=none->H1 dx=none->dx≠x->sp (.ref x::(vs++[])) (A0 (A0 H1 dx (.own x)) x (.ins C dx [])) (fun v H2=>v=.non/\Q (.ref x) H2) E0:=rfl
theorem aoF:tMeth C m sp [] E0 ta t Y H Q=ta Y H fun x H1=>∃ a dx fs,x=.ref a/\H1 a=some (.ins C dx fs)/\fs.lookup m=none/\t Y H1 fun vs H2=>sp (x::(vs++[])) H2 Q E0:=rfl
theorem arj:tFld K ta f Y H Q=ta Y H fun x H1=>∃ a C dx fs v,x=.ref a/\H1 a=some (.ins C dx fs)/\Cls K C/\NoAttr K C f/\fs.lookup f=some v/\Q v H1:=rfl
theorem aoG:sFld K ta tv f D Y H=tv Y H fun y H1=>ta Y H1 fun x H2=>∃ a C dx fs,x=.ref a/\H2 a=some (.ins C dx fs)/\Cls K C/\NoAttr K C f/\fs.length<1000/\D.nx Y (A0 H2 a (.ins C dx (putF f y fs))):=rfl
end
section
variable {X:Cx} {o e:Expr} {apos cpos:Pos} {td ty:TE}
theorem tD(hu:X.A.units+1<cLine)(ho:QE X o td)(he:QE X e ty)(h1:M6 e=false:=by rfl)(G7:attributeBase o "get" X.env (eval o X.env)=eval o X.env:=by rfl)(G8:(apos.endLine==cpos.line)=true:=by rfl):QE X (.Call (.Attribute o "get" apos) [e] [] cpos) (xF td ty):=
 ⟨alV hu ho.out he.out ⟨G7,by rw [O7 h1];rfl,G8,by rw [O7 h1];rfl⟩⟩
theorem amx : xF td ty Y H Q=td Y H fun x H1=>∃ a,x=.ref a/\gE H1 a/\ty Y H1 fun y H2=>∃ o,DGet H2 a y o/\Q (o.getD .non) H2:=rfl
end
noncomputable abbrev Rl:=Str×List Str
noncomputable def tupR (z:Rl):HO:=.tup ((z.1::z.2).map V.str)
structure IsRules(H:Hp)(a:Addr)(rs:List Addr)(R:List Rl):Prop where
 top:H a=some (.lst (rs.map V.ref))
 row:Paired (fun r z=>H r=some (tupR z)) rs R
theorem IsRules.same{R:List Rl}(h:IsRules H a rs R)(s:Same H H'):IsRules H' a rs R:=⟨s _ _ h.top,M5 h.row fun _ _ e=>s _ _ e⟩
theorem IsRules.cat{l:Addr}{ts us:List Addr}{A B:List Rl}(x:IsRules H a ts A)(y:IsRules H b us B)(n:H l=none):IsRules (A0 H l (.lst (ts.map V.ref++us.map V.ref))) l (ts++us) (A++B):=by
 refine ⟨by rw [A5,E2],?_⟩;have ap:∀ {l₁ zh:List Addr} {l₂ zg:List Rl},Paired (fun r z=>A0 H l (.lst (ts.map V.ref++us.map V.ref)) r=some (tupR z)) l₁ l₂->Paired (fun r z=>A0 H l (.lst (ts.map V.ref++us.map V.ref)) r=some (tupR z)) zh zg->Paired (fun r z=>A0 H l (.lst (ts.map V.ref++us.map V.ref)) r=some (tupR z)) (l₁++zh) (l₂++zg):=by
  intro l₁ zh l₂ zg h
  induction h with
  | nil=>intro h';exact h'
  | cons h t ih=>intro h';exact .cons h (ih h')
 exact ap (M5 x.row fun r z h=>D1 h n) (M5 y.row fun r z h=>D1 h n)
theorem IsRules.len{R:List Rl}(h:IsRules H a rs R):rs.length=R.length:=Paired.length h.row
noncomputable def M9 (z:Rl):List Str:=if z.1='e' then z.2.drop 1 else if z.1=("as" : Str) then z.2.take 1 else if z.1=("row" : Str)\/z.1=("marks" : Str)\/z.1=("over" : Str) then z.2 else []
noncomputable def jobD (w:Str):Str:=if w=("row" : Str) then "letter" else if w=("marks" : Str) then "mark" else w
noncomputable def D0 (R:List Rl):List (Str×Str):=R.flatMap fun z=>(M9 z).map fun p=>(p,jobD z.1)
noncomputable def hasW (R:List Rl) (w:Str):Bool:=R.any fun z=>decide (z.1=w)
noncomputable def figO (c:Nat):Bool:=decide (48<=c)&&decide (c<=57)
noncomputable def oC:List Str:=["letter", "mark", "over"]
noncomputable def NC (figs:Bool) (g:Str->Str) (PL:List (Str×Str)):Prop:=∀ i p j,PL[i]?=some (p,j)->j=g p/\(p∈(PL.take i).map (·.1)->j∈oC)/\(figs=true->∀ c∈p.cps.toList,figO c=false)/\p.length<=1000
noncomputable def keysP (PL:List (Str×Str)):List Str:=G3 [] (PL.map (·.1))
theorem afA{R:List Rl}{z:Rl}(h:R[i]?=some z):D0 (R.take (i+1))=D0 (R.take i)++(M9 z).map fun p=>(p,jobD z.1):=by
 rw [t9,h];unfold D0;rw [o3]
 simp
theorem yA(R:List Rl)(i:Nat):∃ more,D0 R=D0 (R.take i)++more:=⟨D0 (R.drop i),by
 unfold D0;rw [<- o3,V7]⟩
theorem ajh(PL:List (Str×Str))(p j:Str):keysP (PL++[(p,j)])=dd (keysP PL) p:=by
 unfold keysP G3;rw [E2,aJ];rfl
theorem kK(x:Str)(PL:List (Str×Str)):x∈keysP PL↔x∈PL.map (·.1):=by
 unfold keysP;rw [l6]
 simp
theorem yB(PL:List (Str×Str)):(keysP PL).length<=PL.length:=by
 have:=dY (PL.map (·.1)) []
 rw [A6] at this
 simpa [keysP] using this
noncomputable def rowsW (R:List Rl) (w:Str):List (List Str):=(R.filter fun z=>decide (z.1=w)).map (·.2)
theorem yC{R:List Rl}{z:Rl}{w:Str}(h:R[i]?=some z):rowsW (R.take (i+1)) w=if z.1=w then rowsW (R.take i) w++[z.2] else rowsW (R.take i) w:=by
 rw [t9,h];unfold rowsW;rw [dN,E2]
 by_cases e:z.1=w
 .rw [if_pos e,Option.toList_some,mI (by simpa using e)];rfl
 .rw [if_neg e,Option.toList_some,mJ (by simpa using e)];simp
theorem p7{hi:Option Int}(hk:1<=k)(hn:1<=n):¬ (HT.sIx n 0 (some (k:Int))=0/\HT.sIx n n hi=n):=fun h=>by
 have:=h.1
 rw [HT.sIx_nat] at this;lia
noncomputable abbrev jobsL:List (C5×V):=[((Sum.inr ("row" : Str):C5),V.str "letter"),(Sum.inr ("marks" : Str),V.str "mark"),(Sum.inr 'e',V.str "great"),(Sum.inr ("as" : Str),V.str "as"),(Sum.inr ("over" : Str),V.str "over")]
noncomputable def gM (w:Str):Prop:=w=("row" : Str)\/w=("marks" : Str)\/w='e'\/w=("as" : Str)\/w=("over" : Str)
theorem yD{w:Str}(h:gM w):valV jobsL (Sum.inr w)=some (.str (jobD w)):=by
 rcases h with rfl | rfl | rfl | rfl | rfl <;> decide +kernel
theorem amy{w:Str}(h:¬ gM w):valV jobsL (Sum.inr w)=none:=by
 unfold gM at h;have n:∀ u:Str,w≠u->¬ ((Sum.inr u:C5)=Sum.inr w):=fun u hu e=>hu (Sum.inr.inj e).symm
 rw [cD (n _ (fun e=>h (.inl e))),cD (n _ (fun e=>h (.inr (.inl e)))),cD (n _ (fun e=>h (.inr (.inr (.inl e))))),cD (n _ (fun e=>h (.inr (.inr (.inr (.inl e)))))),cD (n _ (fun e=>h (.inr (.inr (.inr (.inr e))))))];rfl
theorem gN{z:Rl}(h:p∈M9 z):gM z.1:=by
 unfold M9 at h;unfold gM
 split at h
 .rename_i e;exact .inr (.inr (.inl e))
 .split at h
  .rename_i e;exact .inr (.inr (.inr (.inl e)))
  .split at h
   .rename_i e
    rcases e with e | e | e
    .exact .inl e
    .exact .inr (.inl e)
    .exact .inr (.inr (.inr (.inr e)))
   .cases h
theorem ark{R:List Rl}{z:Rl}(hz:R[i]?=some z)(hp:(M9 z)[j]?=some p) :
  (D0 R)[(D0 (R.take i)).length+j]?=some (p,jobD z.1)/\(D0 R).take ((D0 (R.take i)).length+j)=D0 (R.take i)++((M9 z).take j).map fun p=>(p,jobD z.1):=by
 obtain ⟨more,e⟩:=yA R (i+1);rw [afA hz,R3] at e;have hj:j<(M9 z).length:=(G2.mp hp).1;rw [e]
 constructor
 .rw [fP (bQ _ _),Nat.add_sub_cancel_left,jI (by rw [A6];exact hj),T8,hp];rfl
 .rw [List.take_append,aH (bQ _ _),Nat.add_sub_cancel_left,List.take_append_of_le_length (by rw [A6];lia),u9]
theorem arl{c d:Nat} : (([c]:List Nat)<[d])↔c<d:=by
 constructor
 .intro h;cases h with
  | rel h=>exact h
  | cons h=>cases h
 .intro h;exact List.Lex.rel h
theorem C6.same(e:Same H H')(h:C6 K H a xs):C6 K H' a xs:=by
 rcases h with (h | ⟨o,h⟩) | h
 .exact .inl (.inl (e _ _ h))
 .exact .inl (.inr ⟨o,e _ _ h⟩)
 .exact .inr h
theorem C6.dput{d:Addr}{o:HO}(hd:H d=some (.dK kvs))(h:C6 K H a xs):C6 K (A0 H d o) a xs:=by
 rcases h with (h | ⟨o,h⟩) | h
 .exact .inl (.inl (by rw [B1 (fun e=>by rw [e,hd] at h;cases h)];exact h))
 .exact .inl (.inr ⟨o,by rw [B1 (fun e=>by rw [e,hd] at h;cases h)];exact h⟩)
 .exact .inr h
noncomputable def spHas (K:PySem.W.Frag):Sp:=fun vs H Q _=>∃ (a:Addr) (ts:List Addr) (R:List Rl) (w:Str),vs=[.ref a,.str w]/\IsRules H a ts R/\R.length<=1000/\∀ H',Same H H'->Q (.bl (hasW R w)) H'
noncomputable def akD (K:PySem.W.Frag):Sp:=fun vs H Q _=>∃ (t:Addr) (z:Rl),vs=[.ref t]/\H t=some (tupR z)/\∀ p H',Same H H'->C6 K H' p ((M9 z).map V.str)->Q (.ref p) H'
noncomputable def akE:Sp:=fun vs H Q _=>∃ (d:Addr) (p j:Str) (fg:Bool) (ks:List Str) (g:Str->Str),vs=[.ref d,.str p,.str j,.bl fg]/\H d=some (.dK (C1 ks fun t=>.str (g t)))/\p.length<=1000/\(p∈ks->g p=j/\j∈oC)/\(fg=true->∀ c∈p.cps.toList,figO c=false)/\
 ∀ H',Same H H'->Q (.bl false) H'
noncomputable def X5 (R:List Rl):List Str:=if hasW R "blanks"=true then [" "] else []
noncomputable def jobG (g:Str->Str):Str->V:=fun t=>if t=(" " : Str) then .str "over" else .str (g t)
noncomputable def am9 (K:PySem.W.Frag):Sp:=fun vs H Q _=>∃ (a:Addr) (ts:List Addr) (R:List Rl) (g:Str->Str),vs=[.ref a]/\IsRules H a ts R/\R.length<=1000/\(D0 R).length<=10000/\NC 'f' g (D0 R)/\(" " : Str)∉(D0 R).map (·.1)/\
 ∀ d H',H d=none->Same H H'->H' d=some (.dK (C1 (keysP (D0 R)++X5 R) (jobG g)))->Q (.ref d) H'
noncomputable def ordF (f b:Bool) (j ll ml md:Addr):List (Str×V):=putF "made" (.ref md) (putF "mark_line" (.ref ml) (putF "letter_line" (.ref ll) (putF "jobs" (.ref j) (putF "behind" (.bl b) (putF "figures" (.bl f) [])))))
theorem aeg(f b:Bool)(j ll ml md:Addr):(ordF f b j ll ml md).lookup ("figures" : Str)=some (V.bl f):=by
 unfold ordF;rw [N5,if_neg 'd',N5,if_neg 'd',N5,if_neg 'd',N5,if_neg 'd',N5,if_neg 'd',N5,if_pos rfl]
theorem ahz(f b:Bool)(j ll ml md:Addr):(ordF f b j ll ml md).lookup ("behind" : Str)=some (V.bl b):=by
 unfold ordF;rw [N5,if_neg 'd',N5,if_neg 'd',N5,if_neg 'd',N5,if_neg 'd',N5,if_pos rfl]
theorem agS(f b:Bool)(j ll ml md:Addr):(ordF f b j ll ml md).lookup ("jobs" : Str)=some (V.ref j):=by
 unfold ordF;rw [N5,if_neg 'd',N5,if_neg 'd',N5,if_neg 'd',N5,if_pos rfl]
theorem agT(f b:Bool)(j ll ml md:Addr):(ordF f b j ll ml md).lookup ("letter_line" : Str)=some (V.ref ll):=by
 unfold ordF;rw [N5,if_neg 'd',N5,if_neg 'd',N5,if_pos rfl]
theorem aji(f b:Bool)(j ll ml md:Addr):(ordF f b j ll ml md).lookup ("mark_line" : Str)=some (V.ref ml):=by
 unfold ordF;rw [N5,if_neg 'd',N5,if_pos rfl]
theorem akF(f b:Bool)(j ll ml md:Addr){m:Str}(h:m∉(["made", "mark_line", "letter_line", "jobs", "behind", "figures"]:List Str)):(ordF f b j ll ml md).lookup m=none:=by
 unfold ordF;have n:∀ u∈(["made", "mark_line", "letter_line", "jobs", "behind", "figures"]:List Str),¬ m=u:=fun u hu e=>h (by rw [e];exact hu)
 rw [N5,if_neg (n _ 'c'),N5,if_neg (n _ 'c'),N5,if_neg (n _ 'c'),N5,if_neg (n _ 'c'),N5,if_neg (n _ 'c'),N5,if_neg (n _ 'c')];rfl
theorem IsRules.but{x:Addr}{R:List Rl}(h:IsRules H a rs R)(s:SameBut x H H'){dx:Addr}{fs:List (Str×V)}(hx:H x=some (.ins C dx fs)):IsRules H' a rs R:=
 ⟨s _ _ (fun e=>by have:=h.top;rw [e,hx] at this;cases this) h.top,M5 h.row fun t z e=>s _ _ (fun q=>by rw [q,hx] at e;cases e) e⟩
theorem SameBut.trans{x:Addr}(a:SameBut x H H1)(b:SameBut x H1 H2):SameBut x H H2:=fun c o hc h=>b c o hc (a c o hc h)
theorem Same.but{x:Addr}(a:Same H H1):SameBut x H H1:=fun c o _ h=>a c o h
noncomputable def R6 (R:List Rl) (w:Str) (L:List Str):Prop:=R5 (edges (rowsW R w)) (toldL (rowsW R w)) L/\∀ p∈toldL (rowsW R w),p∈L
structure IsOrder(C:Addr)(H:Hp)(x:Addr)(g:Str->Str)(R:List Rl)(L M:List Str):Prop where
 ob:∃ dx j ll ml md,H x=some (.ins C dx (ordF 'f' (hasW R "behind") j ll ml md))/\H j=some (.dK (C1 (keysP (D0 R)++X5 R) (jobG g)))/\H ll=some (.lst (L.map V.str))/\H ml=some (.lst (M.map V.str))
 l1:R6 R "row" L
 l2:R6 R "marks" M
noncomputable def ana (K:PySem.W.Frag):Sp:=fun vs H Q _=>∃ (a:Addr) (ts:List Addr) (R:List Rl) (w:Str) (rank:Str->Nat),vs=[.ref a,.str w]/\IsRules H a ts R/\R.length<=1000/\(rowsW R w).flatten.length<=100000/\(∀ e∈edges (rowsW R w),rank e.1<rank e.2)/\
 ∀ (l:Addr) (line:List Str) (H':Hp),H l=none->Same H H'->H' l=some (.lst (line.map V.str))->R5 (edges (rowsW R w)) (toldL (rowsW R w)) line->(∀ p∈toldL (rowsW R w),p∈line)->Q (.ref l) H'
noncomputable def cellF (ns:List Int) (k:Int):Int:=if k<(ns.length:Int) then ns.getD k.toNat 0 else 0
noncomputable def kL (K:PySem.W.Frag):Sp:=fun vs H Q _=>∃ (a:Addr) (ns:List Int) (k:Int),vs=[.ref a,.int k]/\D9 K H a (ns.map V.int)/\0<=k/\Q (.int (cellF ns k)) H
noncomputable def SA:Str:=Str.ofString "!\"#$&'()*+,-./:;<=>?@ABCDEFGHIJKLMNOPQRSTUVWXYZ[\\]^_`abcdefghijklmnopqrstuvwxyz{|}~"
noncomputable def LA:List Nat:=SG.filter fun c=>!figO c
noncomputable def LB:List Nat:=LA++[48,49,50,51,52,53,54,55,56,57]
theorem SA_eq:SA.cps.toList=LA:=by decide +kernel
theorem SB_eq:(SA++Str.ofString "0123456789").cps.toList=LB:=by decide +kernel
theorem arm:LA.length=83:=by decide +kernel
theorem arn:LB.length=93:=by decide +kernel
theorem LA_nd:LA.Nodup:=by decide +kernel
theorem LB_nd:LB.Nodup:=by decide +kernel
theorem LA_ok:∀ c∈LA,signB c=true/\figO c=false:=by decide +kernel
theorem LB_ok:∀ c∈LB,signB c=true:=by decide +kernel
noncomputable def listF (d:Bool):List Nat:=if d=true then LB else LA
noncomputable def lenF (d:Bool):Int:=if d=true then 93 else 83
theorem tE(d:Bool):((listF d).length:Int)=lenF d:=by
 cases d
 .show ((LA.length:Nat):Int)=83;rw [arm];rfl
 .show ((LB.length:Nat):Int)=93;rw [arn];rfl
noncomputable def Q0 (ns:List Int):Bool:=decide (cellF ns 1 / 12 % 2=0)
noncomputable def stepO:List Int:=[1,2,4,5,7,8,10,11,13,23,44,80]
noncomputable def w6 (ns:List Int):Int:=(G4 stepO (cellF ns 1 % 12)).getD 0
noncomputable def K2 (ns:List Int) (k:Int):Nat:=(G4 (listF (Q0 ns)) ((cellF ns 0+k*w6 ns) % lenF (Q0 ns))).getD 33
theorem yE(d:Bool):0<lenF d/\lenF d<=93:=by cases d <;> decide
theorem yF(ns:List Int):G4 (stepO.map V.int) (cellF ns 1 % 12)=some (.int (w6 ns))/\w6 ns∈stepO:=by
 obtain ⟨v,h1,h2⟩:=kF (xs:=stepO) (i:=cellF ns 1 % 12) 'a' (by show _<((12:Nat):Int);lia);have e:w6 ns=v:=by unfold w6;rw [h1];rfl
 rw [e];refine ⟨?_,h2⟩;obtain ⟨u,h3,h4⟩:=kF (xs:=stepO.map V.int) (i:=cellF ns 1 % 12) 'a' (by show _<((12:Nat):Int);lia);have ei:(((cellF ns 1 % 12).toNat:Nat):Int)=cellF ns 1 % 12:=by lia
 have hi:(cellF ns 1 % 12).toNat<stepO.length:=by show _<12;lia
 have a1:=N9 (xs:=stepO) (j:=(cellF ns 1 % 12).toNat) (v:=stepO[(cellF ns 1 % 12).toNat]) (K8 hi);rw [ei,h1] at a1;have a2:=N9 (xs:=stepO.map V.int) (j:=(cellF ns 1 % 12).toNat) (v:=V.int stepO[(cellF ns 1 % 12).toNat]) (by rw [T8,K8 hi];rfl);rw [ei] at a2;rw [a2,<- Option.some.inj a1]
theorem aoH(ns:List Int):0<w6 ns/\w6 ns<=80:=by
 have:=(yF ns).2
 simp only [stepO,E7,jO,or_false] at this;omega
theorem aro{l:List Nat}(nd:l.Nodup){i j:Int}(h0:0<=i)(h1:i<l.length)(h2:0<=j)(h3:j<l.length)(h:(G4 l i).getD 33=(G4 l j).getD 33):i=j:=by
 have li:i.toNat<l.length:=by lia
 have lj:j.toNat<l.length:=by lia
 have a1:G4 l i=some l[i.toNat]:=by
  have:=N9 (xs:=l) (j:=i.toNat) (v:=l[i.toNat]) (K8 li)
  rw [show ((i.toNat:Nat):Int)=i by lia] at this;exact this
 have a2:G4 l j=some l[j.toNat]:=by
  have:=N9 (xs:=l) (j:=j.toNat) (v:=l[j.toNat]) (K8 lj)
  rw [show ((j.toNat:Nat):Int)=j by lia] at this;exact this
 rw [a1,a2] at h
 have:=(dL.mp nd)
 rw [fQ] at this
 rcases mW i.toNat j.toNat with z | z | z
 .exact absurd h (this _ _ li lj z)
 .lia
 .exact absurd h.symm (this _ _ lj li z)
theorem anb(ns:List Int)(k:Int):G4 (listF (Q0 ns)) ((cellF ns 0+k*w6 ns) % lenF (Q0 ns))=some (K2 ns k)/\K2 ns k∈listF (Q0 ns):=by
 have hp:=yE (Q0 ns);obtain ⟨v,h1,h2⟩:=kF (xs:=listF (Q0 ns)) (i:=(cellF ns 0+k*w6 ns) % lenF (Q0 ns)) (j6 _ 'a') (by rw [tE];exact o6 _ hp.1);have e:K2 ns k=v:=by unfold K2;rw [h1];rfl
 rw [e];exact ⟨h1,h2⟩
theorem aiy(ns:List Int)(k:Int):signB (K2 ns k)=true/\(Q0 ns=false->figO (K2 ns k)=false):=by
 have h:=(anb ns k).2;cases hd:Q0 ns with
 | false=>
  rw [hd] at h
  have:=LA_ok _ h
  exact ⟨this.1,fun _=>this.2⟩
 | true=>
  rw [hd] at h;exact ⟨LB_ok _ h,fun z=>by cases z⟩
theorem ajj{m s t b k l:Int}(ht:s*t % m=1)(e:(b+k*s) % m=(b+l*s) % m)(h0:0<=k)(h1:k<m)(h2:0<=l)(h3:l<m):k=l:=by
 have d1:m ∣ (k-l)*s:=by
  have:=Int.dvd_of_emod_eq_zero (Int.emod_eq_emod_iff_emod_sub_eq_zero.mp e)
  rwa [show (b+k*s)-(b+l*s)=(k-l)*s by rw [Int.sub_mul];lia] at this
 have d3:m ∣ (k-l)*(s*t):=by rw [<- Int.mul_assoc];exact Int.dvd_mul_of_dvd_left d1
 have d4:m ∣ s*t-1:=⟨s*t / m,by have:=Int.emod_add_mul_ediv (s*t) m;lia⟩
 have d5:m ∣ (k-l)*(s*t-1):=Int.dvd_mul_of_dvd_right d4;have d6:=Int.dvd_sub d3 d5;rw [show (k-l)*(s*t)-(k-l)*(s*t-1)=k-l by rw [Int.mul_sub,Int.mul_one];lia] at d6;have d7:=Int.emod_eq_emod_iff_emod_sub_eq_zero.mpr (Int.emod_eq_zero_of_dvd d6)
 rwa [Int.emod_eq_of_lt h0 h1,Int.emod_eq_of_lt h2 h3] at d7
theorem amz(d:Bool):∀ s∈stepO,∃ t∈(List.range 93).map Int.ofNat,s*t % lenF d=1:=by cases d <;> decide +kernel
theorem aoI{k l:Int}(h0:0<=k)(h1:k<83)(h2:0<=l)(h3:l<83)(h:K2 ns k=K2 ns l):k=l:=by
 have hp:=yE (Q0 ns);have hq:83<=lenF (Q0 ns):=by cases Q0 ns <;> decide
 have nd:(listF (Q0 ns)).Nodup:=by
  cases Q0 ns
  .exact LA_nd
  .exact LB_nd
 have e:=aro nd (j6 _ 'a') (by rw [tE];exact o6 _ hp.1) (j6 _ 'a') (by rw [tE];exact o6 _ hp.1) h;obtain ⟨t,_,ht⟩:=amz (Q0 ns) _ (yF ns).2;exact ajj ht e h0 'a' h2 'a'
noncomputable def spSgn (K:PySem.W.Frag):Sp:=fun vs H Q _=>∃ (a:Addr) (ns:List Int) (k:Int),vs=[.ref a,.int k]/\D9 K H a (ns.map V.int)/\0<=k/\∀ H',Same H H'->Q (.str (one (K2 ns k))) H'
end L2
namespace L2
open PySem PySem.Spec PyProof.Rows
open AutoSeq1 (wpAny_loadPart' idx_int)
noncomputable abbrev bareL (ys:Array Value) (k:Nat):Obj:=⟨.type "list",none,.seq ys k,#[]⟩
noncomputable abbrev anyT (dd:Option Addr) (ys:Array Value) (k:Nat) (ss:Array (Option Value)):Obj:=⟨.type "tuple",dd,.seq ys k,ss⟩
theorem aeR{l:Addr}{ys zs:Array Value}{k2:Nat}{dd:Option Addr}(short:¬ (!ys.isEmpty&&Builtin.List.listTooLong (ys.size+zs.size))=true)(h1:ys.size<=sizeLine)(h2:ys.size+zs.size<=sizeLine+1) :
  Meets (Builtin.«list.extend» ⟨[.ref l,.ref b],[]⟩) (fun _ R s=>s.heap.get? l=some (bareL ys k)/\s.heap.get? b=some (anyT dd zs k2 ss)/\R (.ok (.ret .none)) { s with heap:=s.heap.update l (Obj.mapSeq (·++zs)),toks:=s.toks }):=by
 refine .of_wp fun _ _ _ R s ⟨gl,gb,fin⟩=>?_
 rcases s with ⟨hp,gens,dr,tk,sys⟩
 have c1:=idx_int;have c2:=AutoSeq1.sub_tuple_tuple;have c3:=AutoSeq1.sub_list_list;have c4:=AutoSeq1.sub_tuple_list;have c5:=AutoSeq1.sub_list_tuple;have room:(ys++zs).size<=sizeLine+1:=Array.size_append ▸ h2
 wp_walk using (wpAny_updateSeq gl rfl (hz:=h1) (_hz':=room)),wpAny_loadPart' gl,wpAny_loadPart' gb
 exact ⟨_,rfl,fin⟩
section
variable {X:Cx}
noncomputable def aiz (K:PySem.W.Frag):V->List V->Hp->VK->Prop:=fun x vs H Q=>∃ l b xs zs,x=.ref l/\vs=[.ref b]/\H l=some (.lst xs)/\C6 K H b zs/\xs.length+zs.length<=sizeLine/\Q .non (A0 H l (.lst (xs++zs)))
theorem ajk:nJ X "list.extend" (aiz X.K):=by
 intro pins s Y H x vs v us Q I rx rv h;obtain ⟨l,b,xs,zs,rfl,rfl,hH,hB,hz,q⟩:=h
 cases rx
 obtain ⟨u,rfl,ru⟩:=rv.one
 cases ru
 obtain ⟨z,its,n,r,hl,e⟩:=I.lstM hH;obtain ⟨its2,r2,⟨⟨c,dct,dt,sl⟩,e2,hc,n2,hd⟩,R0⟩:=I.tuple hB
 replace hc:c=.type "tuple":=hc
 replace hd:dt=.seq its2.toArray n2:=hd
 subst hc hd;have q1:=r2.length;have hsz:its.toArray.size+its2.toArray.size<=sizeLine:=by rw [M3,M3];lia
 have y0:¬ (!its.toArray.isEmpty&&Builtin.List.listTooLong (its.toArray.size+its2.toArray.size))=true:=by
  rw [aik hsz,Bool.and_false];exact M4
 refine call_meets F.slot_list_extend ⟨_,e,rfl⟩ F.entry_list_extend (F.args_list_extend_2 _ _)
  (aeR (k:=n) (k2:=n2) (dd:=dct) (ss:=sl) y0 (by rw [M3];lia) 'a') ⟨e,e2,?_⟩
 refine ⟨.non,_,I.lset (its':=its++its2) hH e 'c' (r.append r2) ?_,rfl,q⟩;rw [C4];lia
theorem akH(hK:X.K=K:=by rfl):QMt X "list.extend" (aiz K):=by subst hK;exact ⟨fun pins s Y H x xs v us Q I rx rv h=>ajk pins s Y H x xs v us Q I rx rv h⟩
end
noncomputable def Itv (l : Addr) (n : Nat) : It :=
  ⟨fun i H => ∃ xs x, H l = some (.lst xs) /\ i<n /\ xs[n-1-i]? = some x,
   fun i H v H' => H' = H /\ ∀ xs, H l = some (.lst xs) -> xs[n-1-i]? = some v,
   fun i H => ∃ xs, H l = some (.lst xs) /\ n <= i⟩
section
variable {X:Cx}
noncomputable def iRev (ta:TA):TI:=fun Y H R=>ta Y H fun vs H1=>∃ (l:Addr) (xs:List V),vs=[.ref l]/\H1 l=some (.lst xs)/\R (Itv l xs.length) H1
end
theorem aoJ{R:It->Hp->Prop} : iRev ta Y H R=ta Y H fun vs H1=>∃ (l:Addr) (xs:List V),vs=[.ref l]/\H1 l=some (.lst xs)/\R (Itv l xs.length) H1:=rfl
noncomputable abbrev eC (l:Addr):Obj:={ cls:=.type "list_iterator",data:=.fields #[.ref l,.int 0 0] }
noncomputable abbrev kM (it:Addr) (i:Int):Obj:={ cls:=.type "enumerate",data:=.fields #[.none,.bool false,.ref it,rawInt i,.none,.none] }
noncomputable abbrev anyL (dd:Option Addr) (ys:Array Value) (k:Nat) (ss:Array (Option Value)):Obj:=⟨.type "list",dd,.seq ys k,ss⟩
set_option maxHeartbeats 4000000 in
theorem aff{l:Addr}{ys:Array Value}{dd:Option Addr}{i:Int}{t:Tok}(fits:Builtin.SmallTypes.fitsIndex i=true) :
  Meets (Builtin.«enumerate.__new__» ⟨[.type "enumerate",.ref l],[("start",.int i t)]⟩) (fun _ R s=>s.heap.get? l=some (anyL dd ys k ss)/\
   R (.ok (.ret (.ref (s.heap.push (eC l)).objs.size))) { s with heap:=(s.heap.push (eC l)).push (kM s.heap.objs.size i) }):=by
 refine .of_wp fun _ _ _ R s ⟨gl,fin⟩=>?_
 rcases s with ⟨hp,gens,dr,tk,sys⟩
 have c1:=sub_enumerate;have isl:Heap.IsList (Shared.heap ⟨hp,gens,dr,tk,sys⟩) l ys:=⟨_,gl,rfl,k,rfl⟩
 wp_walk using wpAny_loadPart' gl
 refine wpAny_stack_any fun _=>wpAny_pure ?_
 split
 case h_1 c _ _ _ _ _=>
  generalize (c==Value.type "enumerate")=truth
  cases truth <;> (wp_walk using wpAny_loadPart' gl,wpAny_pyIter_list isl;exact ⟨_,rfl,fin⟩)
 case h_2=>(wp_walk using wpAny_loadPart' gl,wpAny_pyIter_list isl;exact ⟨_,rfl,fin⟩)
theorem ajl(a b:Value):checkTypeCall "enumerate" ⟨[a],[("start",b)]⟩=pure ():=by kernel_rfl
theorem akI(a b:Value):checkBuiltinCall "enumerate.__new__" ⟨[.type "enumerate",a],[("start",b)]⟩=pure ():=by kernel_rfl
theorem ajm(a b c:Value):argsOk "object.__init__" ⟨[a,b],[("start",c)]⟩:=by
 unfold argsOk;rw [signature?_of (id:="object.__init__") (n:="__init__".toList.reverse) (o:="object".toList.reverse) (by kernel_rfl) F.owner_object]
 kernel_rfl
theorem akJ{self b c:Value} : Meets (Builtin.«object.__init__» ⟨[self,b],[("start",c)]⟩) (fun _ R s=>s.TypeIs self "enumerate"/\R (.ok (.ret .none)) s):=by
 have c1:=F.called_enumerate.init.lookup;have c2:=F.called_enumerate.made;refine .of_wp fun _ _ _ R s ⟨isT,fin⟩=>?_
 repeat (any_goals (first | assumption | wp_step))
 exact ⟨_,rfl,fin⟩
section
variable {prog:Program} {w:World} {A:Around} {E:Value->Shared->Prop} {s:Shared}
theorem aeS{l:Addr}{ys:Array Value}{i:Int}{t:Tok}{Q:Value->Shared->Prop}(isl:s.heap.IsList l ys)(fits:Builtin.SmallTypes.fitsIndex i=true)(fin:∀ h',IsEnum h' (s.heap.objs.size+1) s.heap.objs.size i .none->h'.IsListIter s.heap.objs.size l 0->(∀ b o,s.heap.get? b=some o->h'.get? b=some o)->Q (.ref (s.heap.objs.size+1)) { s with heap:=h' }) :
  wpAny (model prog w) A (call (.type "enumerate") [.ref l] [("start",.int i t)]) Q E s:=by
 obtain ⟨⟨c,dd,dt,ss⟩,gl,hc,k,hd⟩:=isl;obtain rfl:c=.type "list":=hc;obtain rfl:dt=.seq ys k:=hd;obtain ⟨vL,tl,c1⟩:=F.called_enumerate.mro;have c2:=F.called_enumerate.made;have c3:=F.called_enumerate.sub;have c4:=F.called_enumerate.notType;have c5:=F.called_enumerate.canCreate;have c6:=F.called_enumerate.init.lookup;have c7:=ajl (.ref l) (.int i t);refine wpAny_call (codeAny_of_tree (show wpAny _ _ (callAny (.type "enumerate") _) _ _ _ from wpAny_pure ⟨Code.quiet_builtin _ 'd',codeAny_builtin F.entry_type_call ?_⟩));rw [Around.under_plain (weight_type_call_type "enumerate" [.ref l] [("start",.int i t)]) (units_type_call_type "enumerate" [.ref l] [("start",.int i t)])]
 repeat (any_goals (first | assumption | wp_step))
 have z:(s.heap.push (eC l)).objs.size=s.heap.objs.size+1:=Heap.size_push ..;have made:IsEnum ((s.heap.push (eC l)).push (kM s.heap.objs.size i)) (s.heap.objs.size+1) s.heap.objs.size i .none:=by
  have g:=Heap.get?_push_size (s.heap.push (eC l)) (o:=kM s.heap.objs.size i) rfl;rw [z] at g;exact g
 have done:=fin _ made ⟨_,Heap.get?_push_of_some _ (Heap.get?_push_size _ rfl),rfl,rfl⟩ fun b o g=>Heap.get?_push_of_some _ (Heap.get?_push_of_some _ g)
 refine codeAny_mono (codeAny_call_builtin F.called_enumerate.plain F.entry_enumerate_new (wpAny_of_eq (akI _ _) (aff (dd:=dd) (k:=k) (ss:=ss) fits prog w A.in1 (wants (fun v s2=>v=.ref (s.heap.objs.size+1)/\s2={ s with heap:=(s.heap.push (eC l)).push (kM s.heap.objs.size i) }) E) s ⟨gl,?_,?_⟩))) ?_
 .rw [z]
 .rfl
 .intro r s1 hr
  rcases r with e | fl
  .exact hr
  .cases fl with
   | ret v=>
    obtain ⟨rfl,rfl⟩:=hr;have isT:Shared.TypeIs { s with heap:=(s.heap.push (eC l)).push (kM s.heap.objs.size i) } (.ref (s.heap.objs.size+1)) "enumerate":=⟨_,made,rfl⟩
    have c8:=F.called_enumerate.init.bind (.ref (s.heap.objs.size+1))
    repeat (any_goals (first | assumption | wp_step))
    have ran:=akJ (self:=.ref (s.heap.objs.size+1)) (b:=.ref l) (c:=.int i t) prog w A.in1 (wants (fun v s2=>v=.none/\s2={ s with heap:=(s.heap.push (eC l)).push (kM s.heap.objs.size i) }) E) _ ⟨isT,rfl,rfl⟩;refine codeAny_mono (codeAny_call_builtin F.called_enumerate.init.plain F.entry_object_init (F.called_enumerate.init.check _ _ _ _ _ _ _ _ isT (ajm _ _ _) ran)) fun r s2 hr=>?_
    rcases r with e | fl
    .exact hr
    .cases fl with
     | ret v=>
      obtain ⟨rfl,rfl⟩:=hr
      repeat (any_goals (first | assumption | wp_step))
     | next=>exact hr.elim
     | brk=>exact hr.elim
     | cont=>exact hr.elim
   | next=>exact hr.elim
   | brk=>exact hr.elim
   | cont=>exact hr.elim
end
theorem arp{w:World}(calm:A.handled=none){l:Addr}(apart:l≠it)(ys:Array Value) :
  Draws prog w A it [it,l] (ys.size+1) (fun i v=>1<=i/\ys[i-1]?=some v) (fun i h=>1<=i/\h.IsListIter it l (i-1)/\h.IsList l ys):=by
 have D:=Draws.list (prog:=prog) (w:=w) calm it l apart ys;refine ⟨fun i h st=>D.live (i-1) h st.2,fun i h h' st same=>⟨st.1,D.frame (i-1) h h' st.2 same⟩,fun i s Q E hi st fin=>?_,fun s Q E st fin=>D.done s Q E st.2 fin⟩;refine D.item (i-1) s Q E (by have:=st.1;lia) st.2 fun x h' tk px st' sb=>fin x h' tk ⟨st.1,px⟩ ⟨by lia,?_⟩ sb
 rw [show i+1-1=i-1+1 by have:=st.1;lia];exact st'
theorem arq{w : World}(calm : A.handled = none){l: Addr}{ys : Array Value}(none : ys[i]? = none) :
    Draws prog w A it [it, l] (i+1) (fun _ _ => True) (fun k h => k = i+1 /\ h.IsListIter it l i /\ h.IsList l ys) :=
  ⟨fun _ _ st => let ⟨o, ho, _⟩ := st.2.1; ⟨o, ho⟩, fun _ _ _ st same => ⟨st.1, st.2.1.at fun o g => same it 'c' o g, st.2.2.at fun o g => same l 'c' o g⟩,
   fun k s Q E hk st => absurd st.1 'a', fun s Q E st fin => wpAny_nextOf_list_end calm st.2.1 st.2.2 none fin⟩
noncomputable def Ite1 (l : Addr) : It :=
  ⟨fun i H => ∃ xs x, H l = some (.lst xs) /\ xs[i]? = some x,
   fun i H v H' => ∃ t xs x, H l = some (.lst xs) /\ xs[i]? = some x /\ H t = none /\ v = .ref t /\ H' = A0 H t (.tup [.int (i+1 : Nat), x]),
   fun i H => ∃ xs, H l = some (.lst xs) /\ xs.length <= i⟩
theorem ajn{P:Program}{w:World}{pos:Pos}(e it l:Addr)(G9:e≠it) :
  Turn P w K (.Tuple elts x1 pos) (Ite1 l) [e,it] e (fun i h=>(∃ old,IsEnum h e it ((i+1:Nat):Int) old)/\h.IsListIter it l i) where
 mem:=by simp
 obj:=fun i h ⟨⟨old,he⟩,hi⟩ c hc=>by
  have q:c=e\/c=it:=by simpa using hc
  rcases q with rfl | rfl
  .exact ⟨_,he,fun v q=>by cases q⟩
  .obtain ⟨o,e,c,d⟩:=hi;exact ⟨o,e,fun v z=>by rw [d] at z;cases z⟩
 keep:=fun i h h' ⟨⟨old,he⟩,hi⟩ k=>⟨⟨old,k e 'c' _ he⟩,hi.at fun o q=>k it 'c' o q⟩
 item:=by
  intro X hP hw hK hc i pins s Y H E I hf ⟨⟨old,he⟩,hi⟩ hg;subst hP hw hK;obtain ⟨xs,x,e1,hx⟩:=hg;obtain ⟨its1,i6,p1,_⟩:=I.list (D9.of (K:=X.K) e1);obtain ⟨u1,C2,r1⟩:=i6.get hx;have C9:i<its1.length:=(G2.mp C2).1;obtain ⟨ol,gl,cl,_⟩:=p1.isList;have nli:l≠it:=fun q=>by
   obtain ⟨oi,gi,ci,_⟩:=hi;rw [q,gi] at gl
   cases gl
   rw [ci] at cl;exact absurd cl 'h'
  have nle:e≠l:=fun q=>by
   rw [<- q,he] at gl
   cases gl
   exact absurd (show Value.type "enumerate"=Value.type "list" from cl) 'h'
  refine wpAny_pyNext_enum_itemD (i:=i+1) (arp (A:=X.A.in1) (show X.A.in1.handled=none from I.ok.hd hc) nli its1.toArray) he ⟨by lia,by simpa using hi,p1.isList⟩ (by simp;lia) G9 (by simp [G9,nle]) fun y h' tk py b1 b2 b3 b4 b5=>?_
  obtain rfl:u1=y:=by
   have:=py.2
   simp [C2] at this;exact this
  refine ⟨_,rfl,wpAny_letOwnedTupleGo_enum b1 fun h2' c1 c2=>?_⟩;have Z3:e<s.heap.objs.size:=Heap.lt_size he;have up:∀ c o,c≠e->h'.get? c=some o->h2'.get? c=some o:=fun c o hc q=>(c2.2 c hc).trans q
  have hT:=up _ _ (Nat.ne_of_gt Z3) b3;have nT:∀ c∈[e,it],c≠s.heap.objs.size:=fun c hc=>by
   have q:c=e\/c=it:=by simpa using hc
   refine O6 ?_
   rcases q with rfl | rfl
   .exact Z3
   .obtain ⟨o,q,_⟩:=hi;exact Heap.lt_size q
  refine ⟨.ref s.heap.objs.size,A0 H s.heap.objs.size (.tup [.int (i+1:Nat),x]),I.turnNew (t':=tk+1) (ch:=[e,it]) hf (fun c u hc q=>?_) (B5 _) ⟨by show 2<=sizeLine;decide,[.int (i+1:Nat) tk,u1],.cons ⟨_,rfl⟩ (.cons r1 .nil),?_⟩,rfl,⟨_,xs,x,e1,hx,I.fresh,rfl,rfl⟩,
   ⟨⟨_,c1⟩,(show h'.IsListIter it l (i+1) by simpa using b2.2.1).at fun o q=>up _ o G9.symm q⟩,fun c hc=>by rw [B1 (nT c hc)];exact (hf c hc).1⟩
  .have q1:c≠e/\c≠it:=⟨fun q=>hc (by simp [q]),fun q=>hc (by simp [q])⟩
   exact up c u q1.1 (b5 c u q1.1 q1.2 q)
  .exact ⟨_,hT,rfl,_,rfl⟩
 done:=by
  intro X hP hw hK hc i pins s Y H E I hf ⟨⟨old,he⟩,hi⟩ hg;subst hP hw hK;obtain ⟨xs,e1,f8⟩:=hg;obtain ⟨its1,i6,p1,_⟩:=I.list (D9.of (K:=X.K) e1);have q1:=i6.length;obtain ⟨f0,f1,f2,f3,f4,f5⟩:=hf it 'c';exact wpAny_pyNext_enum_endD (arq (A:=X.A.in1) (show X.A.in1.handled=none from I.ok.hd hc) (ys:=its1.toArray) (i:=i) (by simp;lia)) he ⟨rfl,hi,p1.isList⟩ fun h' eb=>⟨rfl,I.turned (t':=s.toks) (fun b o hb q=>eb b o hb q) f0 f1 f3 f4 f5⟩
 self:=fun _ _ _ _ _ st h=>by
  obtain ⟨⟨old,he⟩,_⟩:=st;exact wpAny_pyIter_enum he h
theorem akK:bootBuiltins "enumerate"=some (.type "enumerate"):=by decide +kernel
section
variable {X:Cx}
noncomputable def yG (ta:TA):TI:=fun Y H R=>ta Y H fun vs H1=>∃ (l:Addr) (xs:List V),vs=[.ref l]/\H1 l=some (.lst xs)/\R (Ite1 l) H1
theorem amA{a:Expr}{p pos:Pos}(hg:Gl X "enumerate")(hm:X.mg "enumerate"=none)(ha:PA X [a] ta)(h1:M6 a=false:=by rfl) :
  PI X (.Tuple elts x1 tpos) (.Call (.Name "enumerate" p) [a] [⟨some "start",.Constant (.int 1) ck cpos,kpos⟩] pos) (yG ta):=by
 intro pins s Y H R I h;refine wpAny_Call_Name_kw (dR I hg hm akK (PySem.W.callWith_of (P:=fun _=>True) ?_ (fun _ _=>⟨_,.inr 'g',PySem.W.Looks.of_pure rfl⟩) (PyProof.Rows.evalArgs_kw2 rfl (B3 (ha pos pins s Y H _ I h) fun us s1 ⟨vs,H1,I1,r1,q1⟩=>?_) (O7 h1))))
 .rw [O7 h1];rfl
 have kw:PK X [⟨some "start",.Constant (.int 1) ck cpos,kpos⟩] (tCons (tC (.int 1)) tNil):=anK amV aqy;refine B3 (kw pos pins s1 Y H1 (fun zs H2=>zs=[.int 1]/\H2=H1) I1 ⟨rfl,rfl⟩) fun ws s2 ⟨zs,H2,I2,rz,e1,e2⟩=>⟨trivial,?_⟩
 subst e1 e2;obtain ⟨l,xs,rfl,e1,q⟩:=q1;obtain ⟨u1,rfl,qG⟩:=vals1 r1
 cases qG
 obtain ⟨u2,rfl,ru2⟩:=vals1 rz;obtain ⟨t,rfl⟩:=ru2;obtain ⟨its1,i6,p1,_⟩:=I2.list (D9.of (K:=X.K) e1);refine aeS p1.isList 'h' fun h' z1 z2 z4=>wpAny_pyIter_enum z1 ?_
 refine ⟨s2.heap.objs.size+1,[s2.heap.objs.size+1,s2.heap.objs.size],_,_,H2,rfl,I2.kept (t':=s2.toks) z4,ajn _ s2.heap.objs.size l (p6 'a'),⟨⟨_,z1⟩,z2⟩,fun b hb=>?_,q⟩;have f9:s2.heap.objs.size<=b:=by
  have e:b=s2.heap.objs.size+1\/b=s2.heap.objs.size:=by simpa using hb
  rcases e with rfl | rfl
  .exact bQ _ _
  .exact B5 _
 exact I2.fpOk f9 (I2.hok.fresh f9)
theorem amB{a:Expr}{p pos:Pos}(hm:X.mg "enumerate"=none)(ha:QA X [a] ta)(hg:Gl X "enumerate":=by rfl)(h1:M6 a=false:=by rfl) :
  QI X (.Tuple elts x1 tpos) (.Call (.Name "enumerate" p) [a] [⟨some "start",.Constant (.int 1) ck cpos,kpos⟩] pos) (yG ta):=⟨amA hg hm ha.out h1⟩
end
theorem akM{R:It->Hp->Prop} : yG ta Y H R=ta Y H fun vs H1=>∃ (l:Addr) (xs:List V),vs=[.ref l]/\H1 l=some (.lst xs)/\R (Ite1 l) H1:=rfl
theorem forE1{l:Addr}(Pv:Nat->St->Hp->Prop)(h0:Pv 0 Y H)(hl:∀ i Y H,Pv i Y H->H l=some (.lst xs))(hs:∀ i x t Y H,xs[i]?=some x->Pv i Y H->H t=none->g (.ref t) Y (A0 H t (.tup [.int (i+1:Nat),x])) fun σ2 H2=>tb { D with nx:=Pv (i+1),ct:=Pv (i+1),bk:=D.nx } σ2 H2)(hd:∀ Y H,Pv xs.length Y H->D.nx Y H):ForIt (Ite1 l) g tb D Y H:=by
 refine ⟨fun i m Y H=>m=xs.length-i/\i<=xs.length/\Pv i Y H,⟨xs.length,by simp,F9 _,h0⟩,?_⟩;rintro i m Y H ⟨rfl,hi,p⟩;have e1:=hl i Y H p
 by_cases C9:i<xs.length
 .refine .inr ⟨⟨xs,xs[i],e1,by simp⟩,Pv (i+1),fun σ' H' p'=>⟨_,by lia,rfl,C9,p'⟩,fun v H' y=>?_⟩;obtain ⟨t,xs',x,f1,hx,ht,rfl,rfl⟩:=y;rw [e1] at f1;cases f1;exact hs i x t Y H hx p ht
 .have e:i=xs.length:=by lia
  subst e;exact .inl ⟨⟨xs,e1,by lia⟩,hd Y H p⟩
end L2
namespace L2
open PySem PySem.Spec PyProof.Rows
noncomputable def yH:V->List V->Hp->VK->Prop:=fun x vs H Q=>∃ (l:Addr) (zs:List Int) (z:Int),x=.ref l/\vs=[.int z]/\H l=some (.lst (zs.map V.int))/\z∈zs/\Q .non (A0 H l (.lst ((zs.erase z).map V.int)))
theorem tF:∀ {vs:List Value} {zs:List Int},IntsAre vs zs->∀ {j:Nat} {z:Int},zs[j]?=some z->∃ t,vs[j]?=some (.int z t)
 | _,_,.nil,_,_,h=>by simp at h
 | _,_,.cons _ _ _,0,_,h=>by simp at h;subst h;exact ⟨_,rfl⟩
 | _,_,.cons _ _ r,j+1,z,h=>by
  obtain ⟨t,q⟩:=tF r (j:=j) (z:=z) (by simpa using h);exact ⟨t,by simpa using q⟩
theorem ajo : nJ X "list.remove" yH:=by
 intro pins s Y H x vs v us Q I rx rv h;obtain ⟨l,zs,zz,rfl,rfl,hH,hm,q⟩:=h
 cases rx
 obtain ⟨u,rfl,ru⟩:=rv.one;obtain ⟨t,rfl⟩:=ru;obtain ⟨z,its,n,r,hl,e⟩:=I.lstM hH;have sa:=sI r;have hj:zs.idxOf zz<zs.length:=jJ.mpr hm;rw [A6] at hl;have K1:∀ (j:Nat) (hj:j<its.toArray.size),∃ y t',zs[j]?=some y/\its.toArray[j]=.int y t':=fun j hj'=>by
  have hj2:j<zs.length:=by rw [hl];simpa using hj'
  obtain ⟨t',ht⟩:=tF sa (j:=j) (z:=zs[j]) 'c';refine ⟨zs[j],t',by simp,?_⟩
  have:=(G2.mp ht).2
  simpa using this
 have hsz:zs.idxOf zz<its.toArray.size:=by rw [M3,<- hl];exact hj
 refine call_meets F.slot_list_remove ⟨_,e,rfl⟩ F.entry_list_remove (F.args_list_remove_2 _ _)
  (MeetsSeq.list_remove l its.toArray n (.int zz t) (isInt zz) (fun y hy=>eq_isInt zz t sa y (by simpa using hy)) (zs.idxOf zz) hsz ?_ (fun m m8 C9=>?_) (by rw [M3,<- hl];rw [A6] at z;exact z)) ⟨e,?_⟩
 .obtain ⟨y,t',h1,h2⟩:=K1 _ hsz;rw [h2]
  have:y=zz:=by
   have:=mR hj
   rw [K8 hj,this] at h1;exact (Option.some.inj h1).symm
  subst this;simp [isInt]
 .obtain ⟨y,t',h1,h2⟩:=K1 _ m8;rw [h2]
  have:y≠zz:=fun q=>by
   obtain ⟨h3,h4⟩:=G2.mp h1
   have:=List.not_of_lt_findIdx (show m<zs.findIdx (· == zz) from C9)
   rw [h4] at this;simp [q] at this
  simp [isInt,this]
 .refine ⟨.non,_,I.lset (its':=its.eraseIdx (zs.idxOf zz)) hH e ?_ ?_ ?_,rfl,q⟩
  .show its.toArray.eraseIdxIfInBounds (zs.idxOf zz)=_;rw [List.eraseIdxIfInBounds_toArray]
  .rw [List.erase_eq_eraseIdx_of_idxOf (l:=zs) (a:=zz) (w:=rfl),agK];exact r.eraseIdx _
  .rw [A6,List.length_erase_of_mem hm];rw [A6] at z;lia
theorem akN : QMt X "list.remove" yH:=⟨fun pins s Y H x xs v us Q I rx rv h=>ajo pins s Y H x xs v us Q I rx rv h⟩
theorem arr{l:Addr}{zs:List Int}{z:Int}(h:H l=some (.lst (zs.map V.int)))(hm:z∈zs)(q:Q .non (A0 H l (.lst ((zs.erase z).map V.int)))):yH (.ref l) [.int z] H Q:=⟨l,zs,z,rfl,rfl,h,hm,q⟩
noncomputable def rMinL:List V->Hp->VK->Prop:=fun xs H Q=>∃ (p:Addr) (ns:List Int),xs=[.ref p]/\H p=some (.lst (ns.map V.int))/\ns≠[]/\∀ M:Int,M∈ns->(∀ a∈ns,M<=a)->Q (.int M) H
theorem akO(hc:X.calm=true):CallR X (.builtin "min") rMinL:=by
 intro pins s Y H xs us Q I r h;obtain ⟨p,ns,rfl,hH,G9,q⟩:=h;obtain ⟨u,rfl,ru⟩:=vals1 r
 cases ru
 obtain ⟨z,its,n,rr,hl,e⟩:=I.lstM hH;have hi:=sI rr;have hL:s.heap.IsList p its.toArray:=⟨_,e,rfl,n,rfl⟩
 obtain ⟨ys,e2⟩:=hi.allInts.items;have eW:ns=ys.toList.map (·.1):=by rw [<- hi.numsOf,<- nums_intItems,<- e2]
 have hsz:0<ys.size:=by
  have h3:=mO.mpr G9;rw [eW,A6,fY] at h3;exact h3
 rw [e2] at hL;refine min_intList (I.ok.hd hc) hL hsz fun v h' tk hv hk=>?_
 obtain ⟨t,rfl⟩:=intItems_at hv;obtain ⟨h1,h2⟩:=argBest_lt (numAt ys) (ys.size-1);refine ⟨.int _,H,I.kept hk,⟨t,rfl⟩,q _ ?_ fun a ha=>?_⟩
 .rw [eW,numAt_eq];exact getD_mem (by rw [A6,fY];lia)
 .rw [eW] at ha;obtain ⟨j,hj,rfl⟩:=mem_getD ha;rw [A6,fY] at hj;rw [<- numAt_eq];exact h2 j 'a'
theorem ars(hc:X.calm=calm:=by rfl):QCall X (.builtin "min") (rCalm calm rMinL):=⟨fun pins s Y H xs us Q I r h=>akO (hc.trans h.1) pins s Y H xs us Q I r h.2⟩
theorem art{p:Addr} : rMinL [.ref p] H Q=∃ ns:List Int,H p=some (.lst (ns.map V.int))/\ns≠[]/\∀ M:Int,M∈ns->(∀ a∈ns,M<=a)->Q (.int M) H:=
 propext ⟨fun ⟨_,ns,e,h⟩=>(by cases e;exact ⟨ns,h⟩),fun ⟨ns,h⟩=>⟨p,ns,rfl,h⟩⟩
noncomputable def kN (n:Nat) (fr:St) (Pv:Nat->List V->Hp->Prop) (i:Nat) (ys:List V) (σ2:St) (H2:Hp):Prop:=i<=n/\ys.length<=i/\(∃ v w,σ2=v::w::fr)/\Pv i ys H2
theorem kN.put{fr:St}{Pv:Nat->List V->Hp->Prop}{o o2:Option V}(hi:i<n)(hy:ys.length<=i)(p:Pv (i+1) (ys++[y]) H):kN n fr Pv (i+1) (ys++[y]) (o::o2::fr) H:=
 ⟨hi,by rw [C4,N3];lia,⟨_,_,rfl⟩,p⟩
theorem compE{l:Addr}(fr:St)(X7:compStart 2 ixs Y=none::none::fr)(Pv:Addr->Nat->List V->Hp->Prop)(h0:∀ D,H1 D=none->Pv D 0 [] (A0 H1 D (.lst [])))(hl:∀ D i ys H,H1 D=none->i<=xs.length->Pv D i ys H->H l=some (.lst xs))(hs:∀ D i x t ys H,H1 D=none->i<xs.length->xs[i]?=some x->Pv D i ys H->H D=some (.lst ys)->ys.length<=i->H t=none->c (some (.int i)::some x::fr) (A0 H t (.tup [.int i,x])) fun b H4=>
   if b=true then te (some (.int i)::some x::fr) H4 fun y H5=>H5 D=some (.lst ys)/\ys.length<sizeLine/\kN xs.length fr (Pv D) (i+1) (ys++[y]) (some (.int i)::some x::fr) (A0 H5 D (.lst (ys++[y])))
   else H4 D=some (.lst ys)/\kN xs.length fr (Pv D) (i+1) ys (some (.int i)::some x::fr) H4)(hd:∀ D ys H,H1 D=none->Pv D xs.length ys H->H D=some (.lst ys)->ys.length<=xs.length->Q (.ref D) H):cF (oA l) 2 ixs (gTup K 2 (gCons (gName 0) (gCons (gName 1) gNil))) c te Y Q H1:=by
 intro D hD;refine ⟨xs.length,kN xs.length fr (Pv D),⟨F9 _,F9 _,⟨none,none,X7⟩,h0 D hD⟩,?_⟩;rintro i ys σ2 H2 ⟨hi,hy,⟨v,w,rfl⟩,p⟩ hDy;have q:=hl D i ys H2 hD hi p
 by_cases C9:i<xs.length
 .refine .inr ⟨C9,⟨xs,xs[i],q,by simp [C9]⟩,fun x H' y=>?_⟩;obtain ⟨t,xs',x',f1,hx,ht,rfl,rfl⟩:=y;rw [q] at f1;cases f1;exact ⟨t,_,rfl,C6.of A5,rfl,_,_,rfl,_,_,rfl,rfl,hs D i x' t ys H2 hD C9 hx p hDy hy ht⟩
 .have e:i=xs.length:=by lia
  subst e;exact .inl ⟨⟨xs,q,B5 _⟩,hd D ys H2 hD p hDy hy⟩
theorem aoK{o i:Expr}{pos:Pos}(ho:QE X o to)(hi:QE X i ti)(ha:∀ v,assign (.Subscript o i pos) X.env v=(do
   let ov <- holding [v] (eval o X.env)
   let iv <- holding [v,ov] (eval i X.env)
   standAt pos
   holding [v,ov,iv] (setItem ov iv v)
   release [v,ov,iv] []):=by intro _;rfl):QG X (.Subscript o i pos) (gSub to ti rSetL):=⟨aqe ho.out hi.out alP ha⟩
theorem aru{p:Addr}{k:Int}{v:V}{Q:Hp->Prop} : rSetL (.ref p) (.int k) v H Q=∃ xs j,H p=some (.lst xs)/\g6 xs.length k=some j/\Q (A0 H p (.lst (xs.set j v))):=
 propext ⟨fun ⟨_,xs,_,j,e1,e2,h⟩=>(by cases e1;cases e2;exact ⟨xs,j,h⟩),fun ⟨xs,j,h⟩=>⟨p,xs,k,j,rfl,rfl,h⟩⟩
noncomputable def FS (ts bad:List Str) (z:Str->Prop) (fr:List Int):Prop:=fr.Nodup/\∀ n:Int,n∈fr↔∃ (m:Nat) (q:Str),n=(m:Int)/\ts[m]?=some q/\q∉bad/\z q
theorem FS.nil(z:Str->Prop):FS [] [] z []:=⟨by simp,fun n=>by simp⟩
theorem FS.snoc{z:Str->Prop}(h:FS ts bad z fr)(hi:i=ts.length)(hb:q∉bad):(z q->FS (ts++[q]) bad z (fr++[(i:Int)]))/\(¬ z q->FS (ts++[q]) bad z fr):=by
 have L1:∀ (m:Nat) (x:Str),(ts++[q])[m]?=some x↔(ts[m]?=some x\/(m=i/\x=q)):=fun m x=>by
  rcases mW m ts.length with hm | hm | hm
  .rw [jI hm]
   constructor
   .exact .inl
   .rintro (h | ⟨h,_⟩)
    .exact h
    .lia
  .subst hm;rw [fP (B5 _),Nat.sub_self]
   have:ts[ts.length]?=none:=by simp
   rw [this];simp [hi,eq_comm]
  .have h1:ts[m]?=none:=by simp;lia
   have h2:(ts++[q])[m]?=none:=by simp;lia
   rw [h1,h2]
   simp
   lia
 have pU:(i:Int)∉fr:=fun hm=>by
  obtain ⟨m,x,e,h1,_⟩:=(h.2 _).mp hm
  have:=(G2.mp h1).1
  lia
 refine ⟨fun hz=>⟨?_,fun n=>?_⟩,fun hz=>⟨h.1,fun n=>?_⟩⟩
 .rw [bO];refine ⟨h.1,by simp,fun x hx y hy e=>pU ?_⟩;rw [<- F6.mp hy,<- e];exact hx
 .rw [E1,h.2,F6]
  constructor
  .rintro (⟨m,x,e,h1,h2,h3⟩ | rfl)
   .exact ⟨m,x,e,(L1 m x).mpr (.inl h1),h2,h3⟩
   .exact ⟨i,q,rfl,(L1 i q).mpr (.inr ⟨rfl,rfl⟩),hb,hz⟩
  .rintro ⟨m,x,e,h1,h2,h3⟩
   rcases (L1 m x).mp h1 with h1 | ⟨rfl,rfl⟩
   .exact .inl ⟨m,x,e,h1,h2,h3⟩
   .exact .inr e
 .rw [h.2]
  constructor
  .rintro ⟨m,x,e,h1,h2,h3⟩;exact ⟨m,x,e,(L1 m x).mpr (.inl h1),h2,h3⟩
  .rintro ⟨m,x,e,h1,h2,h3⟩
   rcases (L1 m x).mp h1 with h1 | ⟨rfl,rfl⟩
   .exact ⟨m,x,e,h1,h2,h3⟩
   .exact absurd h3 hz
theorem aiA(nd:ts.Nodup)(h1:ts[i]?=some q)(h2:ts[j]?=some q):i=j:=by
 obtain ⟨a1,b1⟩:=G2.mp h1;obtain ⟨a2,b2⟩:=G2.mp h2
 have:=dL.mp nd
 rw [fQ] at this
 rcases mW i j with hl | hl | hl
 .exact absurd (b1.trans b2.symm) (this i j a1 a2 hl)
 .exact hl
 .exact absurd (b2.trans b1.symm) (this j i a2 a1 hl)
theorem FS.take{z:Str->Prop}(nd:ts.Nodup)(h:FS ts bad z fr){M:Nat}(hp:ts[M]?=some p):FS ts (bad++[p]) z (fr.erase (M:Int)):=by
 refine ⟨h.1.erase _,fun n=>?_⟩;rw [h.1.mem_erase_iff,h.2]
 constructor
 .rintro ⟨G9,m,x,e,h1,h2,h3⟩;refine ⟨m,x,e,h1,fun hm=>?_,h3⟩
  rcases E1.mp hm with hm | hm
  .exact h2 hm
  .rw [F6.mp hm] at h1;exact G9 (by rw [e,aiA nd h1 hp])
 .rintro ⟨m,x,e,h1,h2,h3⟩;refine ⟨fun e2=>h2 ?_,m,x,e,h1,fun hm=>h2 (T3 _ hm),h3⟩
  have:m=M:=by lia
  subst this;rw [hp] at h1;cases h1
  simp
theorem FS.turn{z z':Str->Prop}(nd:ts.Nodup)(h:FS ts bad z fr){y:Str}(G9:∀ q,q≠y->(z' q↔z q))(hy:¬ z y)(hm:ts[m]?=some y)(hb:y∉bad):(z' y->FS ts bad z' (fr++[(m:Int)]))/\(¬ z' y->FS ts bad z' fr):=by
 have pU:(m:Int)∉fr:=fun h1=>by
  obtain ⟨k,x,e,h2,_,h3⟩:=(h.2 _).mp h1
  have:k=m:=by lia
  subst this;rw [hm] at h2;cases h2;exact hy h3
 have i7:∀ (k:Nat) (x:Str),ts[k]?=some x->x≠y\/(k=m/\x=y):=fun k x hk=>by
  by_cases e:x=y
  .subst e;exact .inr ⟨aiA nd hk hm,rfl⟩
  .exact .inl e
 refine ⟨fun hz=>⟨?_,fun n=>?_⟩,fun hz=>⟨h.1,fun n=>?_⟩⟩
 .rw [bO];refine ⟨h.1,by simp,fun x hx w hw e=>pU ?_⟩;rw [<- F6.mp hw,<- e];exact hx
 .rw [E1,h.2,F6]
  constructor
  .rintro (⟨k,x,e,h1,h2,h3⟩ | rfl)
   .rcases i7 k x h1 with c | ⟨_,rfl⟩
    .exact ⟨k,x,e,h1,h2,(G9 x c).mpr h3⟩
    .exact absurd h3 hy
   .exact ⟨m,y,rfl,hm,hb,hz⟩
  .rintro ⟨k,x,e,h1,h2,h3⟩
   rcases i7 k x h1 with c | ⟨rfl,rfl⟩
   .exact .inl ⟨k,x,e,h1,h2,(G9 x c).mp h3⟩
   .exact .inr e
 .rw [h.2]
  constructor
  .rintro ⟨k,x,e,h1,h2,h3⟩
   rcases i7 k x h1 with c | ⟨_,rfl⟩
   .exact ⟨k,x,e,h1,h2,(G9 x c).mpr h3⟩
   .exact absurd h3 hy
  .rintro ⟨k,x,e,h1,h2,h3⟩
   rcases i7 k x h1 with c | ⟨_,rfl⟩
   .exact ⟨k,x,e,h1,h2,(G9 x c).mp h3⟩
   .exact absurd h3 hz
theorem FS.congr{z z':Str->Prop}(h:FS ts bad z fr)(e:∀ q,z' q↔z q):FS ts bad z' fr:=⟨h.1,fun n=>by rw [h.2];exact ⟨fun ⟨m,x,a,b,c,d⟩=>⟨m,x,a,b,c,(e x).mpr d⟩,fun ⟨m,x,a,b,c,d⟩=>⟨m,x,a,b,c,(e x).mp d⟩⟩⟩
theorem ahA{E:List (Str×Str)}(h:FS ts line (fun q=>J8 E line q=0) fr){M:Int}(hM:M∈fr)(iQ:∀ a∈fr,M<=a):∃ (m:Nat) (p:Str),M=(m:Int)/\ts[m]?=some p/\nextP E ts line=some p:=by
 obtain ⟨m,p,e,h1,h2,h3⟩:=(h.2 M).mp hM;refine ⟨m,p,e,h1,?_⟩;rw [afz];obtain ⟨hm,rfl⟩:=G2.mp h1;have e1:ts=ts.take m++ts[m]::ts.drop (m+1):=by rw [<- aG hm,V7]
 generalize hP:(fun p=>!decide (p∈line)&&decide (∀ e∈E,e.2=p->e.1∈line))=P;have hp:P ts[m]=true:=by
  rw [<- hP];simp only [T5,mZ,decide_eq_false_iff_not,decide_eq_true_eq];exact ⟨h2,cnt_zero.mp h3⟩
 have qL:(ts.take m).find? P=none:=by
  rw [List.find?_eq_none];intro x hx hxP;obtain ⟨k,hk,rfl⟩:=a0.mp hx;rw [E9] at hk;rw [List.getElem_take,<- hP] at hxP;simp only [T5,mZ,decide_eq_false_iff_not,decide_eq_true_eq] at hxP
  have:=iQ (k:Int) ((h.2 _).mpr ⟨k,ts[k],rfl,by simp,hxP.1,cnt_zero.mpr hxP.2⟩)
  lia
 conv=>lhs;rw [e1]
 rw [List.find?_append,qL,u8,hp];rfl
theorem amC{E:List (Str×Str)}(r:R5 E ts line)(h:q∈line):J8 E line q=0:=by
 obtain ⟨pre,post,rfl⟩:=List.append_of_mem h
 have:=(gL (r pre q post rfl)).2.2
 rw [cnt_zero] at this ⊢
 intro e he h2;exact T3 _ (this e he h2)
theorem agU{f:Str->V} : ∀ {ts pre:List Str},(pre++ts).Nodup->Z0 (C1 pre f) (C1 ts f)=C1 (pre++ts) f
 | [],pre,_=>by rw [K9];rfl
 | t::ts,pre,h=>by
  have ht:t∉pre:=fun hm=>(bO.mp h).2.2 t hm t O0 rfl
  show Z0 (putK (C1 pre f) (Sum.inr t) (f t)) (C1 ts f)=_;rw [eB _ ht,show C1 (pre++[t]) (fun x=>if x=t then f t else f x)=C1 (pre++[t]) f from W1 fun x _=>by
   by_cases e:x=t
   .rw [if_pos e,e]
   .rw [if_neg e]]
  rw [agU (pre:=pre++[t]) (by simpa using h)]
  simp
theorem afB:∀ {l m:List Int},l.Nodup->(∀ x∈l,x∈m)->l.length<=m.length
 | [],_,_,_=>F9 _
 | x::l,m,nd,h=>by
  obtain ⟨n1,n2⟩:=V8.mp nd;have hx:=h x O0
  have:=afB (l:=l) (m:=m.erase x) n2 fun y hy=>(List.mem_erase_of_ne (fun e=>n1 (by rw [<- e];exact hy))).mpr (h y (N4 _ hy))
  rw [List.length_erase_of_mem hx] at this;have iP:=List.length_pos_of_mem hx;rw [K4];lia
theorem aiB{f:Str->V} : ∀ {qs:List Addr} {ts:List Str},Paired (fun q t=>H q=some (.tup [.str t,f t])) qs ts->Paired (fun q (kx:C5×V)=>C6 K H q [kV kx.1,kx.2]) qs (C1 ts f)
 | _,_,.nil=>.nil
 | _,_,.cons h t=>.cons (.of h) (aiB t)
theorem forRs(Pv:Nat->St->Hp->Prop)(h0:Pv 0 Y H)(hs:∀ (P':Nat->St->Hp->Prop) (B':St->Hp->Prop),(∀ i Y H,Pv i Y H->P' i Y H)->∀ i Y H,i<n->Pv i Y H->g (.int (lo+i)) Y H fun σ2 H2=>tb { D with nx:=P' (i+1),ct:=P' (i+1),bk:=B' } σ2 H2)(hd:∀ Y H,Pv n Y H->D.nx Y H):ForIt (o9 lo n) g tb D Y H:=forR Pv h0 (hs Pv _ fun _ _ _ h=>h) hd
theorem forLs(Pv:Nat->St->Hp->Prop)(h0:Pv 0 Y H)(hl:∀ i Y H,i<=xs.length->Pv i Y H->D9 K H a xs)(hs:∀ (P':Nat->St->Hp->Prop) (B':St->Hp->Prop),(∀ i Y H,Pv i Y H->P' i Y H)->∀ i x Y H,xs[i]?=some x->Pv i Y H->g x Y H fun σ2 H2=>tb { D with nx:=P' (i+1),ct:=P' (i+1),bk:=B' } σ2 H2)(hd:∀ Y H,Pv xs.length Y H->D.nx Y H):ForIt (aO K a) g tb D Y H:=forL Pv h0 hl (hs Pv _ fun _ _ _ h=>h) hd
theorem midS{t u:TS}(M:St->Hp->Prop)(h:∀ M':St->Hp->Prop,(∀ Y H,M Y H->M' Y H)->t { D with nx:=M' } Y H)(h2:∀ σ' H',M σ' H'->u D σ' H'):tSeqM t u D Y H:=⟨M,h M fun _ _ h=>h,h2⟩
noncomputable def anc:Sp:=fun vs H Q _=>∃ (a:Addr) (rs:List Addr) (zss:List (List Str)),vs=[.ref a]/\IsRows H a rs zss/\zss.flatten.length<=100000/\
 ∀ l H',H l=none->Same H H'->H' l=some (.lst ((toldL zss).map V.str))->Q (.ref l) H'
noncomputable def kO:Sp:=fun vs H Q _=>∃ c,vs=[.str ⟨#[c]⟩]/\Q (.bl (figO c)) H
noncomputable def M0 (R:List Rl):List (Str×List Str):=R.filterMap fun z=>if z.1='e' then z.2.head?.map fun y=>(y,z.2.drop 1) else none
noncomputable def E8 (R:List Rl):List Str:=G3 [] ((M0 R).map (·.1))
noncomputable def E3 (R:List Rl) (y:Str):List Str:=((M0 R).filter fun e=>decide (e.1=y)).flatMap (·.2)
theorem gO(A B:List Rl):M0 (A++B)=M0 A++M0 B:=by
 unfold M0;rw [List.filterMap_append]
theorem tG{R:List Rl}{z:Rl}(h:R[i]?=some z):M0 (R.take (i+1))=M0 (R.take i)++M0 [z]:=by
 rw [M8 h,gO]
theorem kP{z:Rl}(h:z.1≠("great" : Str)):M0 [z]=[]:=by
 unfold M0;rw [fS,if_neg h];rfl
theorem tH{y:Str}{fs:List Str} : M0 [('e',y::fs)]=[(y,fs)]:=by
 unfold M0;rw [fS,if_pos rfl];rfl
theorem kQ{A:List Rl}{y:Str}{fs:List Str}(x:Str):E3 (A++[('e',y::fs)]) x=if x=y then E3 A x++fs else E3 A x:=by
 unfold E3;rw [gO,tH,dN,o3]
 by_cases h:x=y
 .subst h;simp
 .have:¬ (y=x):=fun e=>h e.symm
  simp [this,h]
theorem tI{A:List Rl}{y:Str}{fs:List Str} : E8 (A++[('e',y::fs)])=dd (E8 A) y:=by
 unfold E8 G3;rw [gO,tH,E2,aJ];rfl
noncomputable def aiC (K:PySem.W.Frag):Sp:=fun vs H Q _=>∃ (a:Addr) (ts:List Addr) (R:List Rl),vs=[.ref a]/\IsRules H a ts R/\(∀ z∈R,z.1='e'->z.2≠[])/\R.length<=1000/\(∀ i y,(E3 (R.take i) y).length<=10000)/\
 ∀ d ad H',H d=none->Same H H'->H' d=some (.dK (C1 (E8 R) fun y=>.ref (ad y)))->DL H H' (E8 R) ad (E3 R)->Q (.ref d) H'
theorem yI(xs:List V)(h:i<=j):cutV xs (some (i:Int)) (some (j:Int))=(xs.drop i).take (j-i):=by
 unfold cutV;rw [HT.sIx_nat,HT.sIx_nat]
 by_cases hi:i<=xs.length
 .rw [bR hi]
  by_cases hj:j<=xs.length
  .rw [bR hj]
  .rw [Nat.min_eq_right 'a',aH (by rw [X1];exact B5 _),aH (by rw [X1];lia)]
 .rw [Nat.min_eq_right (by lia:xs.length<=i),mL (B5 _),mL 'a',List.take_nil,List.take_nil]
structure Used(ks:List Str)(g:Str->V)(z:Rl):Prop where
 gr:z.1='e'->∀ p∈z.2.take 1,p∈ks/\g p=.str "letter"
 a1:z.1=("as" : Str)->∀ p∈(z.2.drop 1).take 1,p∈ks/\g p=.str "letter"
 a2:z.1=("as" : Str)->∀ p∈z.2.drop 2,p∈ks/\(g p=.str "letter"\/g p=.str "mark")
noncomputable def ane (K:PySem.W.Frag):Sp:=fun vs H Q _=>∃ (t d:Addr) (z:Rl) (ks:List Str) (g:Str->V),vs=[.ref t,.ref d]/\H t=some (tupR z)/\H d=some (.dK (C1 ks g))/\Used ks g z/\z.2.length<=1000/\∀ p H',H p=none->Same H H'->H' p=some (.lst [])->Q (.ref p) H'
noncomputable def aiD (K:PySem.W.Frag):Sp:=fun vs H Q _=>∃ (a d:Addr) (ts:List Addr) (R:List Rl) (ks:List Str) (g:Str->V),vs=[.ref a,.ref d]/\IsRules H a ts R/\H d=some (.dK (C1 ks g))/\(∀ z∈R,Used ks g z/\z.2.length<=1000)/\∀ H',Same H H'->Q .non H'
noncomputable abbrev Tr:=Int×Int×Int
noncomputable def tupT (s:Tr):HO:=.tup [.int s.1,.int s.2.1,.int s.2.2]
structure StepAt(H:Hp)(r:Addr)(ss:List Tr):Prop where
 ex:∃ ts:List Addr,H r=some (.tup (ts.map V.ref))/\Paired (fun t s=>H t=some (tupT s)) ts ss
theorem StepAt.same{ss:List Tr}(h:StepAt H r ss)(S:Same H H'):StepAt H' r ss:=
 let ⟨ts,h1,h2⟩:=h.ex
 ⟨ts,S _ _ h1,M5 h2 fun _ _ e=>S _ _ e⟩
theorem StepAt.put{d:Addr}{ss:List Tr}{o o':HO}(h:StepAt H r ss)(hd:H d=some o')(hn:∀ xs,o'≠.tup xs):StepAt (A0 H d o) r ss:=by
 obtain ⟨ts,h1,h2⟩:=h.ex;refine ⟨ts,?_,M5 h2 fun t s e=>?_⟩
 .rw [B1 (fun e=>by rw [e,hd] at h1;exact hn _ (Option.some.inj h1))];exact h1
 .rw [B1 (fun q=>by rw [q,hd] at e;exact hn _ (Option.some.inj e))];exact e
theorem StepAt.one{t:Addr}{s:Tr}(h1:H r=some (.tup [.ref t]))(h2:H t=some (tupT s)):StepAt H r [s]:=⟨[t],h1,.cons h2 .nil⟩
noncomputable def IsMade (H:Hp) (d:Addr) (ks:List Str) (F:Str->List Tr):Prop:=∃ ad:Str->Addr,H d=some (.dK (C1 ks fun y=>.ref (ad y)))/\∀ y∈ks,StepAt H (ad y) (F y)
theorem IsMade.same{d:Addr}{F:Str->List Tr}(h:IsMade H d ks F)(S:Same H H'):IsMade H' d ks F:=
 let ⟨ad,h1,h2⟩:=h
 ⟨ad,S _ _ h1,fun y hy=>(h2 y hy).same S⟩
theorem IsMade.put{d:Addr}{F:Str->List Tr}{ad:Str->Addr}(h1:H d=some (.dK (C1 ks fun y=>.ref (ad y))))(h2:∀ y∈ks,StepAt H (ad y) (F y)){l:Str}{p:Addr}(hp:StepAt H p (F l)) :
  IsMade (A0 H d (.dK (putK (C1 ks fun y=>.ref (ad y)) (Sum.inr l) (.ref p)))) d (dd ks l) F:=by
 refine ⟨fun y=>if y=l then p else ad y,?_,fun y hy=>?_⟩
 .rw [A5];have e:∀ t,(if t=l then V.ref p else V.ref (ad t))=V.ref (if t=l then p else ad t):=fun t=>by
   by_cases h:t=l
   .rw [if_pos h,if_pos h]
   .rw [if_neg h,if_neg h]
  unfold dd
  by_cases hl:l∈ks
  .rw [if_pos hl,nZ _ hl];exact congrArg (fun x=>some (HO.dK x)) (W1 fun t _=>e t)
  .rw [if_neg hl,eB _ hl];exact congrArg (fun x=>some (HO.dK x)) (W1 fun t _=>e t)
 .by_cases h:y=l
  .subst h;show StepAt _ (if y=y then p else ad y) _;rw [if_pos rfl];exact hp.put h1 (by intro xs e;cases e)
  .show StepAt _ (if y=l then p else ad y) _;rw [if_neg h];refine (h2 y ?_).put h1 (by intro xs e;cases e);unfold dd at hy
   by_cases hl:l∈ks
   .rw [if_pos hl] at hy;exact hy
   .rw [if_neg hl] at hy
    rcases E1.mp hy with q | q
    .exact q
    .exact absurd (F6.mp q) h
structure StI(H H2:Hp)(d:Addr)(P:List Str)(F:Str->List Tr):Prop where
 same:Same H H2
 made:IsMade H2 d (G3 [] P) F
theorem yJ(P:List Str)(x:Str):G3 [] (P++[x])=dd (G3 [] P) x:=by
 unfold G3;rw [aJ];rfl
theorem StI.putX{d:Addr}{P:List Str}{F:Str->List Tr}(nd:H d=none)(h:StI H H2 d P F)(hP:P.length<100000){l:Str}{p:Addr}(hp:StepAt H2 p (F l)) :
  ∃ kvs o,H2 d=some (.dK kvs)/\DPut H2 d (V.str l) (V.ref p) (A0 H2 d o)/\StI H (A0 H2 d o) d (P++[l]) F:=by
 obtain ⟨ad,h1,h2⟩:=h.made;have hl:=dY P [];rw [Y6,Nat.zero_add] at hl;refine ⟨_,_,h1,cE (k:=Sum.inr l) h1 (by rw [k9];exact L3 'a'),h.same.put nd,?_⟩;rw [yJ];exact IsMade.put h1 h2 hp
theorem StI.put{d:Addr}{P:List Str}{F:Str->List Tr}(nd:H d=none)(h:StI H H2 d P F)(hP:P.length<100000){l:Str}{p:Addr}(hp:StepAt H2 p (F l)) :
  ∃ x,DPut H2 d (V.str l) (V.ref p) x/\StI H x d (P++[l]) F:=
 let ⟨_,_,_,h1,h2⟩:=h.putX nd hP hp
 ⟨_,h1,h2⟩
theorem StI.more{d:Addr}{P:List Str}{F:Str->List Tr}(h:StI H H2 d P F)(S:Same H2 H3):StI H H3 d P F:=⟨h.same.trans S,h.made.same S⟩
theorem StI.frz{d:Addr}{P:List Str}{F:Str->List Tr}{o:HO}(h:StI H H2 d P F)(hf:H2 f=some (.dK kvs))(n:H f=none)(nf:f≠d):StI H (A0 H2 f o) d P F:=
 let ⟨ad,h1,h2⟩:=h.made
 ⟨h.same.put n,ad,by rw [B1 nf.symm];exact h1,fun y hy=>(h2 y hy).put hf (by intro xs e;cases e)⟩
theorem StI.thaw{d:Addr}{P:List Str}{F:Str->List Tr}{q:Obj}{o o':HO}(h:StI H H2 d P F)(hf:H2 f=some (.frz q o'))(n:H f=none)(nf:f≠d):StI H (A0 H2 f o) d P F:=
 let ⟨ad,h1,h2⟩:=h.made
 ⟨h.same.put n,ad,by rw [B1 nf.symm];exact h1,fun y hy=>(h2 y hy).put hf (by intro xs e;cases e)⟩
structure FoI(H H2:Hp)(d f:Addr)(o:Obj)(ts:List Str)(af:Str->Addr)(G:Str->List Str)(P:List Str)(F:Str->List Tr):Prop where
 frz:H2 f=some (.frz o (.dK (C1 ts fun y=>.ref (af y))))
 rows:∀ y∈ts,H2 (af y)=some (.lst ((G y).map V.str))
 st:StI H H2 d P F
theorem FoI.more{d:Addr}{af:Str->Addr}{G:Str->List Str}{P:List Str}{F:Str->List Tr}(h:FoI H H2 d f o ts af G P F)(S:Same H2 H3):FoI H H3 d f o ts af G P F:=⟨S _ _ h.frz,fun y hy=>S _ _ (h.rows y hy),h.st.more S⟩
theorem FoI.put{d:Addr}{af:Str->Addr}{G:Str->List Str}{P:List Str}{F:Str->List Tr}(nd:H d=none)(h:FoI H H2 d f o ts af G P F)(hP:P.length<100000){l:Str}{p:Addr}(hp:StepAt H2 p (F l)) :
  ∃ x,DPut H2 d (V.str l) (V.ref p) x/\FoI H x d f o ts af G (P++[l]) F:=by
 obtain ⟨kvs,o',h0,h1,h2⟩:=h.st.putX nd hP hp;refine ⟨_,h1,?_,fun y hy=>?_,h2⟩
 .rw [B1 (fun e=>by have:=h.frz;rw [e,h0] at this;cases this)];exact h.frz
 .rw [B1 (fun e=>by have:=h.rows y hy;rw [e,h0] at this;cases this)];exact h.rows y hy
theorem StI.putL{d:Addr}{P:List Str}{F:Str->List Tr}{o:HO}(h:StI H H2 d P F)(hf:H2 f=some (.lst xs))(n:H f=none):StI H (A0 H2 f o) d P F:=
 let ⟨ad,h1,h2⟩:=h.made
 ⟨h.same.put n,ad,by rw [B1 (fun e=>by rw [e,hf] at h1;cases h1)];exact h1,fun y hy=>(h2 y hy).put hf (by intro xs e;cases e)⟩
structure AsI(H H7 H2:Hp)(d:Addr)(P:List Str)(F:Str->List Tr)(ts:List Addr)(ss:List Tr):Prop where
 st:StI H H2 d P F
 pr:Paired (fun t s=>H2 t=some (tupT s)) ts ss
 sm:Same H7 H2
theorem AsI.putL{H7:Hp}{d:Addr}{P:List Str}{F:Str->List Tr}{ts:List Addr}{ss:List Tr}{o:HO}(h:AsI H H7 H2 d P F ts ss)(hf:H2 f=some (.lst xs))(n:H f=none)(n7:H7 f=none):AsI H H7 (A0 H2 f o) d P F ts ss:=
 ⟨h.st.putL hf n,M5 h.pr fun t s e=>by rw [B1 (fun q=>by rw [q,hf] at e;cases e)];exact e,h.sm.put n7⟩
noncomputable def asKs (R:List Rl):List Str:=R.filterMap fun z=>if z.1=("as" : Str) then z.2.head? else none
theorem tJ{R:List Rl}{z:Rl}(h:R[i]?=some z):asKs (R.take (i+1))=asKs (R.take i)++asKs [z]:=by
 rw [M8 h];unfold asKs;rw [List.filterMap_append]
theorem yK{z:Rl}(h:z.1≠("as" : Str)):asKs [z]=[]:=by
 unfold asKs;rw [fS,if_neg h];rfl
theorem yL{y:Str}{fs:List Str} : asKs [(("as" : Str),y::fs)]=[y]:=by
 unfold asKs;rw [fS,if_pos rfl];rfl
theorem yM(R:List Rl):(asKs R).length<=R.length:=List.length_filterMap_le _ _
structure Made(R:List Rl)(L M:List Str)(F:Str->List Tr):Prop where
 lt:∀ (i:Nat) y,L[i]?=some y->F y=[(2,(i:Int),0)]
 mr:∀ (i:Nat) y,M[i]?=some y->F y=[(0,(i:Int),0)]
 gl:∀ y∈E8 R,y∈L
 gr:∀ y∈E8 R,∀ (c:Nat) f,(E3 R y)[c]?=some f->F f=[(2,(L.idxOf y:Int),((c+1:Nat):Int))]
 ne:∀ z∈R,z.1=("as" : Str)\/z.1='e'->z.2≠[]
 pt:∀ z∈R,z.1=("as" : Str)->∀ q∈z.2.drop 1,q∈L\/q∈M
 as:∀ z∈R,z.1=("as" : Str)->∀ p qs,z.2=p::qs->F p=qs.map fun q=>(F q).headD (0,0,0)
noncomputable def allKs (R:List Rl) (L M:List Str):List Str:=L++M++(E8 R).flatMap (E3 R)++asKs R
theorem Made.base{R:List Rl}{F:Str->List Tr}(m:Made R L M F)(h:q∈L\/q∈M):∃ s,F q=[s]:=by
 rcases h with h | h
 .obtain ⟨i,hi,e⟩:=a0.mp h;exact ⟨_,m.lt i q (by rw [K8 hi,e])⟩
 .obtain ⟨i,hi,e⟩:=a0.mp h;exact ⟨_,m.mr i q (by rw [K8 hi,e])⟩
theorem Made.letter{R:List Rl}{F:Str->List Tr}(m:Made R L M F)(h:q∈L):F q=[(2,(L.idxOf q:Int),0)]:=by
 have hi:=jJ.mpr h;exact m.lt (L.idxOf q) q (by rw [K8 hi,mR])
noncomputable def aiE (K:PySem.W.Frag):Sp:=fun vs H Q _=>∃ (a b c:Addr) (ts:List Addr) (R:List Rl) (L M:List Str) (F:Str->List Tr),vs=[.ref a,.ref b,.ref c]/\IsRules H a ts R/\Made R L M F/\H b=some (.lst (L.map V.str))/\H c=some (.lst (M.map V.str))/\(∀ z∈R,z.2.length<=1000)/\R.length<=1000/\(∀ i y,(E3 (R.take i) y).length<=10000)/\(allKs R L M).length<=50000/\
 ∀ d H',H d=none->Same H H'->IsMade H' d (G3 [] (allKs R L M)) F->Q (.ref d) H'
noncomputable def baseT (L M:List Str) (q:Str):Tr:=if q∈L then (2,(L.idxOf q:Int),0) else (0,(M.idxOf q:Int),0)
noncomputable def oE (L M:List Str) (R:List Rl):List (Str×List Tr):=R.filterMap fun z=>if z.1=("as" : Str) then z.2.head?.map fun p=>(p,(z.2.drop 1).map (baseT L M)) else none
noncomputable def putsL (R:List Rl) (L M:List Str):List (Str×List Tr):=
 (L.zipIdx.map fun e=>(e.1,[((2:Int),(e.2:Int),(0:Int))]))++(M.zipIdx.map fun e=>(e.1,[((0:Int),(e.2:Int),(0:Int))]))++((E8 R).flatMap fun y=>(E3 R y).zipIdx.map fun e=>(e.1,[((2:Int),(L.idxOf y:Int),((e.2+1:Nat):Int))]))++oE L M R
noncomputable def stepF (R:List Rl) (L M:List Str) (p:Str):List Tr:=((putsL R L M).lookup p).getD []
theorem akP{s:List Tr} : ∀ {l:List (Str×List Tr)},(l.map (·.1)).Nodup->(p,s)∈l->l.lookup p=some s
 | [],_,h=>by cases h
 | (y,t)::l,nd,h=>by
  rw [K5,V8] at nd;rw [List.lookup_cons]
  rcases E7.mp h with h | h
  .obtain ⟨rfl,rfl⟩:=Prod.mk.inj h
   simp
  .have:p≠y:=fun e=>nd.1 (D8.mpr ⟨_,h,e⟩)
   have e:(p==y)=false:=by simpa using this
   rw [e];exact akP nd.2 h
theorem agW(R:List Rl)(L M:List Str):(putsL R L M).map (·.1)=allKs R L M:=by
 have z:∀ (l:List Str) (f:Nat->List Tr),(l.zipIdx.map fun e=>(e.1,f e.2)).map (·.1)=l:=fun l f=>by
  rw [b0];exact List.zipIdx_map_fst 0 l
 have a:(oE L M R).map (·.1)=asKs R:=by
  unfold oE asKs;rw [List.map_filterMap]
  congr 1
  funext z
  by_cases h:z.1=("as" : Str)
  .rw [if_pos h,if_pos h]
   cases z.2 <;> rfl
  .rw [if_neg h,if_neg h];rfl
 unfold putsL allKs;rw [E2,E2,E2,z L fun i=>[(2,(i:Int),0)],z M fun i=>[(0,(i:Int),0)],a,List.map_flatMap]
 congr 2
 congr 1
 funext y
 exact z (E3 R y) fun i=>[(2,(L.idxOf y:Int),((i+1:Nat):Int))]
theorem kR{R:List Rl}(nd:(allKs R L M).Nodup){s:List Tr}(h:(p,s)∈putsL R L M):stepF R L M p=s:=by
 unfold stepF;rw [akP (by rw [agW];exact nd) h];rfl
theorem aoL{R:List Rl}(nd:(allKs R L M).Nodup)(gl:∀ y∈E8 R,y∈L)(ne:∀ z∈R,z.1=("as" : Str)\/z.1='e'->z.2≠[])(pt:∀ z∈R,z.1=("as" : Str)->∀ q∈z.2.drop 1,q∈L\/q∈M):Made R L M (stepF R L M):=by
 have m1:∀ (i:Nat) y,L[i]?=some y->(y,[((2:Int),(i:Int),(0:Int))])∈putsL R L M:=fun i y h=>by
  refine T3 _ (T3 _ (T3 _ (D8.mpr ⟨(y,i),?_,rfl⟩)));rw [List.mem_zipIdx_iff_getElem?];exact h
 have m2:∀ (i:Nat) y,M[i]?=some y->(y,[((0:Int),(i:Int),(0:Int))])∈putsL R L M:=fun i y h=>by
  refine T3 _ (T3 _ (U7 _ (D8.mpr ⟨(y,i),?_,rfl⟩)));rw [List.mem_zipIdx_iff_getElem?];exact h
 have hb:∀ q,q∈L\/q∈M->stepF R L M q=[baseT L M q]:=fun q hq=>by
  unfold baseT
  by_cases h:q∈L
  .rw [if_pos h];have hi:=jJ.mpr h;exact kR nd (m1 (L.idxOf q) q (by rw [K8 hi,mR]))
  .rw [if_neg h];have hm:=hq.resolve_left h;have hi:=jJ.mpr hm;exact kR nd (m2 (M.idxOf q) q (by rw [K8 hi,mR]))
 refine ⟨fun i y h=>kR nd (m1 i y h),fun i y h=>kR nd (m2 i y h),gl,fun y hy c f h=>kR nd ?_,ne,pt,fun z hz e p qs ez=>?_⟩
 .refine T3 _ (U7 _ (g0.mpr ⟨y,hy,D8.mpr ⟨(f,c),?_,rfl⟩⟩));rw [List.mem_zipIdx_iff_getElem?];exact h
 .have:(p,qs.map (baseT L M))∈putsL R L M:=U7 _ (fT.mpr ⟨z,hz,by rw [if_pos e,ez];rfl⟩)
  rw [kR nd this];refine fR fun q hq=>?_
  rw [hb q (pt z hz e q (by rw [ez];exact hq))];rfl
theorem aoM{g:Str->Str}{PL:List (Str×Str)}(nc:NC fg g PL):PL.Pairwise fun a b=>a.1=b.1->b.2∈oC:=by
 rw [fQ];intro i j hi hj hij e;refine (nc j PL[j].1 PL[j].2 (by rw [K8 hj])).2.1 ?_;rw [<- e];refine D8.mpr ⟨PL[i],?_,rfl⟩;rw [rY];exact ⟨i,by lia,rfl⟩
theorem gP{g:Str->Str}{PL:List (Str×Str)}(nc:NC fg g PL){j:Str}(h:(p,j)∈PL):g p=j:=by
 obtain ⟨i,hi,e⟩:=a0.mp h;exact (nc i p j (by rw [K8 hi,e])).1.symm
theorem akQ{g:Str->Str}{PL:List (Str×Str)}(nc:NC fg g PL){j:Str}(hj:j∉oC):((PL.filter fun e=>decide (e.2=j)).map (·.1)).Nodup:=by
 rw [dL,List.pairwise_map];refine List.Pairwise.imp_of_mem ?_ ((aoM nc).filter _);intro a b _ hb h e
 have:=h e
 have V6:b.2=j:=by simpa using (Q1.mp hb).2
 rw [V6] at this;exact hj this
theorem oF{w:Str}(h:gM w):(jobD w='e'↔w="great")/\(jobD w=("as" : Str)↔w="as")/\(jobD w=("letter" : Str)↔w="row")/\(jobD w=("mark" : Str)↔w="marks")/\(jobD w=("over" : Str)↔w="over"):=by
 rcases h with rfl | rfl | rfl | rfl | rfl <;> decide +kernel
theorem mem_pairs{R:List Rl}{j:Str} : (p,j)∈D0 R↔∃ z∈R,p∈M9 z/\jobD z.1=j:=by
 unfold D0;rw [g0]
 constructor
 .rintro ⟨z,hz,h⟩;obtain ⟨q,hq,e⟩:=D8.mp h;obtain ⟨rfl,rfl⟩:=Prod.mk.inj e;exact ⟨z,hz,hq,rfl⟩
 .rintro ⟨z,hz,hp,rfl⟩;exact ⟨z,hz,D8.mpr ⟨p,hp,rfl⟩⟩
theorem tK(z:Rl)(R:List Rl):D0 (z::R)=((M9 z).map fun p=>(p,jobD z.1))++D0 R:=by
 unfold D0;rw [u7]
theorem W2{z:Rl} : (z.1='e'->M9 z=z.2.drop 1)/\(z.1=("as" : Str)->M9 z=z.2.take 1)/\(z.1=("row" : Str)\/z.1=("marks" : Str)\/z.1=("over" : Str)->M9 z=z.2):=by
 unfold M9;refine ⟨fun h=>by rw [if_pos h],fun h=>?_,fun h=>?_⟩
 .rw [if_neg (by rw [h];decide +kernel),if_pos h]
 .rw [if_neg,if_neg,if_pos h]
  .rcases h with h | h | h <;> rw [h] <;> decide +kernel
  .rcases h with h | h | h <;> rw [h] <;> decide +kernel
theorem aT:∀ R:List Rl,((D0 R).filter fun e=>decide (e.2='e')).map (·.1)=(M0 R).flatMap (·.2)
 | []=>rfl
 | z::R=>by
  rw [tK,dN,E2,aT R];have e:M0 (z::R)=M0 [z]++M0 R:=gO [z] R;rw [e,o3]
  congr 1
  by_cases h:z.1='e'
  .obtain ⟨w,ps⟩:=z;obtain rfl:w='e':=h;rw [W2.1 rfl,mQ.mpr,b0]
   .cases ps with
    | nil=>simp [M0]
    | cons y fs=>
     rw [tH];show List.map _ fs=_;simp [Function.comp_def]
   .intro a ha;obtain ⟨q,_,rfl⟩:=D8.mp ha;exact decide_eq_true (show jobD "great"='e' by decide +kernel)
  .rw [kP h,mK.mpr]
   .rfl
   .intro a ha;obtain ⟨q,hq,rfl⟩:=D8.mp ha
    have:=(oF (gN hq)).1
    simp only [decide_eq_true_eq];exact fun e=>h (this.mp e)
theorem gQ:∀ R:List Rl,((D0 R).filter fun e=>decide (e.2=("as" : Str))).map (·.1)=asKs R
 | []=>rfl
 | z::R=>by
  rw [tK,dN,E2,gQ R];have e:asKs (z::R)=asKs [z]++asKs R:=by unfold asKs;rw [<- List.filterMap_append];rfl
  rw [e]
  congr 1
  by_cases h:z.1=("as" : Str)
  .obtain ⟨w,ps⟩:=z;obtain rfl:w=("as" : Str):=h;rw [W2.2.1 rfl,mQ.mpr,b0]
   .cases ps with
    | nil=>simp [asKs]
    | cons y fs=>
     rw [yL];rfl
   .intro a ha;obtain ⟨q,_,rfl⟩:=D8.mp ha;exact decide_eq_true (show jobD "as"=("as" : Str) by decide +kernel)
  .rw [yK h,mK.mpr]
   .rfl
   .intro a ha;obtain ⟨q,hq,rfl⟩:=D8.mp ha
    have:=(oF (gN hq)).2.1
    simp only [decide_eq_true_eq];exact fun e=>h (this.mp e)
theorem mem_rowsW{R:List Rl}{w:Str} : p∈(rowsW R w).flatten↔∃ z∈R,z.1=w/\p∈z.2:=by
 unfold rowsW;rw [List.mem_flatten]
 constructor
 .rintro ⟨l,hl,hp⟩;obtain ⟨z,hz,rfl⟩:=D8.mp hl;obtain ⟨h1,h2⟩:=Q1.mp hz;exact ⟨z,h1,by simpa using h2,hp⟩
 .rintro ⟨z,hz,e,hp⟩;exact ⟨z.2,D8.mpr ⟨z,Q1.mpr ⟨hz,by simpa using e⟩,rfl⟩,hp⟩
theorem mem_letter{R:List Rl} : (p,("letter" : Str))∈D0 R↔p∈(rowsW R "row").flatten:=by
 rw [mem_pairs,mem_rowsW]
 constructor
 .rintro ⟨z,hz,hp,e⟩
  have:=(oF (gN hp)).2.2.1.mp e
  exact ⟨z,hz,this,by rw [W2.2.2 (.inl this)] at hp;exact hp⟩
 .rintro ⟨z,hz,e,hp⟩;exact ⟨z,hz,by rw [W2.2.2 (.inl e)];exact hp,by rw [e];decide +kernel⟩
theorem mem_mark{R:List Rl} : (p,("mark" : Str))∈D0 R↔p∈(rowsW R "marks").flatten:=by
 rw [mem_pairs,mem_rowsW]
 constructor
 .rintro ⟨z,hz,hp,e⟩
  have:=(oF (gN hp)).2.2.2.1.mp e
  exact ⟨z,hz,this,by rw [W2.2.2 (.inr (.inl this))] at hp;exact hp⟩
 .rintro ⟨z,hz,e,hp⟩;exact ⟨z,hz,by rw [W2.2.2 (.inr (.inl e))];exact hp,by rw [e];decide +kernel⟩
theorem yN{zss:List (List Str)} : p∈toldL zss↔p∈zss.flatten:=by
 unfold toldL;rw [sR,l6]
 simp
theorem p8{R:List Rl}{w:Str}(h:R6 R w L) : p∈L↔p∈(rowsW R w).flatten:=by
 rw [<- yN];exact ⟨h.1.sub,h.2 p⟩
structure GoodR(g:Str->Str)(r1 r2:Str->Nat)(R:List Rl):Prop where
 len:R.length<=1000
 plen:(D0 R).length<=10000
 nc:NC 'f' g (D0 R)
 nb:(" " : Str)∉(D0 R).map (·.1)
 zl:∀ z∈R,z.2.length<=1000
 ne:∀ z∈R,z.1=("as" : Str)\/z.1='e'->z.2≠[]
 gl:∀ z∈R,z.1='e'->∀ p∈z.2.take 1,(p,("letter" : Str))∈D0 R
 al:∀ z∈R,z.1=("as" : Str)->∀ p∈(z.2.drop 1).take 1,(p,("letter" : Str))∈D0 R
 am:∀ z∈R,z.1=("as" : Str)->∀ p∈z.2.drop 2,(p,("letter" : Str))∈D0 R\/(p,("mark" : Str))∈D0 R
 f1:(rowsW R "row").flatten.length<=10000
 f2:(rowsW R "marks").flatten.length<=10000
 a1:∀ e∈edges (rowsW R "row"),r1 e.1<r1 e.2
 a2:∀ e∈edges (rowsW R "marks"),r2 e.1<r2 e.2
theorem GoodR.job{g:Str->Str}{r1 r2:Str->Nat}{R:List Rl}(h:GoodR g r1 r2 R){j:Str}(hp:(p,j)∈D0 R):p∈keysP (D0 R)++X5 R/\jobG g p=.str j:=by
 have hm:p∈(D0 R).map (·.1):=D8.mpr ⟨_,hp,rfl⟩;refine ⟨T3 _ ((kK _ _).mpr hm),?_⟩;unfold jobG;rw [if_neg (fun e=>h.nb (by rw [<- e];exact hm)),gP h.nc hp]
theorem GoodR.used{g:Str->Str}{r1 r2:Str->Nat}{R:List Rl}(h:GoodR g r1 r2 R){z:Rl}(hz:z∈R):Used (keysP (D0 R)++X5 R) (jobG g) z:=
 ⟨fun e p hp=>h.job (h.gl z hz e p hp),fun e p hp=>h.job (h.al z hz e p hp),fun e p hp=>(h.am z hz e p hp).elim (fun q=>⟨(h.job q).1,.inl (h.job q).2⟩) fun q=>⟨(h.job q).1,.inr (h.job q).2⟩⟩
theorem forms_mem{R:List Rl}{y f:Str} : f∈E3 R y↔∃ e∈M0 R,e.1=y/\f∈e.2:=by
 unfold E3;rw [g0]
 constructor
 .rintro ⟨e,he,hf⟩;obtain ⟨h1,h2⟩:=Q1.mp he;exact ⟨e,h1,by simpa using h2,hf⟩
 .rintro ⟨e,he,h,hf⟩;exact ⟨e,Q1.mpr ⟨he,by simpa using h⟩,hf⟩
theorem mem_formKs{R:List Rl}{y:Str} : y∈E8 R↔∃ e∈M0 R,e.1=y:=by
 unfold E8;rw [l6,D8]
 simp
theorem anf{g:Str->Str}{r1 r2:Str->Nat}{R:List Rl}(h:GoodR g r1 r2 R)(hL:R6 R "row" L)(hM:R6 R "marks" M):(allKs R L M).Nodup:=by
 have Z:((M0 R).flatMap (·.2)).Nodup:=by rw [<- aT];exact akQ h.nc 'd'
 have jl:∀ p∈L,g p="letter":=fun p hp=>gP h.nc (mem_letter.mpr ((p8 hL).mp hp))
 have jm:∀ p∈M,g p="mark":=fun p hp=>gP h.nc (mem_mark.mpr ((p8 hM).mp hp))
 have jf:∀ p∈(E8 R).flatMap (E3 R),g p="great":=fun p hp=>by
  obtain ⟨y,_,hp⟩:=g0.mp hp;obtain ⟨e,he,_,hf⟩:=forms_mem.mp hp
  have:p∈(M0 R).flatMap (·.2):=g0.mpr ⟨e,he,hf⟩
  rw [<- aT] at this;obtain ⟨⟨q,j⟩,hq,rfl⟩:=D8.mp this;obtain ⟨h1,h2⟩:=Q1.mp hq;have h2:j='e':=by simpa using h2
  subst h2;exact gP h.nc h1
 have ja:∀ p∈asKs R,g p="as":=fun p hp=>by
  rw [<- gQ] at hp;obtain ⟨⟨q,j⟩,hq,rfl⟩:=D8.mp hp;obtain ⟨h1,h2⟩:=Q1.mp hq;have h2:j=("as" : Str):=by simpa using h2
  subst h2;exact gP h.nc h1
 have nf:((E8 R).flatMap (E3 R)).Nodup:=by
  rw [dL,List.pairwise_flatMap] at Z ⊢
  obtain ⟨z1,z2⟩:=Z;refine ⟨fun y _=>?_,?_⟩
  .unfold E3;rw [List.pairwise_flatMap];exact ⟨fun e he=>z1 e (Q1.mp he).1,z2.filter _⟩
  .have nk:(E8 R).Nodup:=by unfold E8;exact xV 'c'
   refine List.Pairwise.imp ?_ (dL.mp nk);intro y y' hyy f hf f' hf' e;subst e;obtain ⟨e1,h1,r1,f1⟩:=forms_mem.mp hf;obtain ⟨e2,h2,r2,f2⟩:=forms_mem.mp hf';obtain ⟨i,hi,q1⟩:=a0.mp h1;obtain ⟨j,hj,q2⟩:=a0.mp h2;rw [fQ] at z2
   rcases mW i j with c | c | c
   .exact z2 i j hi hj c f (by rw [q1];exact f1) f (by rw [q2];exact f2) rfl
   .subst c;exact hyy (by rw [<- r1,<- r2,<- q1,<- q2])
   .exact z2 j i hj hi c f (by rw [q2];exact f2) f (by rw [q1];exact f1) rfl
 have na:(asKs R).Nodup:=by rw [<- gQ];exact akQ h.nc 'd'
 have n1:("letter" : Str)≠"mark"/\("letter" : Str)≠"great"/\("letter" : Str)≠"as"/\("mark" : Str)≠"great"/\("mark" : Str)≠"as"/\("great" : Str)≠"as":=by decide +kernel
 unfold allKs;rw [bO,bO,bO];refine ⟨⟨⟨hL.1.nodup,hM.1.nodup,fun a ha b hb e=>?_⟩,nf,fun a ha b hb e=>?_⟩,na,fun a ha b hb e=>?_⟩
 .subst e;exact n1.1 ((jl a ha).symm.trans (jm a hb))
 .subst e
  rcases E1.mp ha with ha | ha
  .exact n1.2.1 ((jl a ha).symm.trans (jf a hb))
  .exact n1.2.2.2.1 ((jm a ha).symm.trans (jf a hb))
 .subst e
  rcases E1.mp ha with ha | ha
  .rcases E1.mp ha with ha | ha
   .exact n1.2.2.1 ((jl a ha).symm.trans (ja a hb))
   .exact n1.2.2.2.2.1 ((jm a ha).symm.trans (ja a hb))
  .exact n1.2.2.2.2.2 ((jf a ha).symm.trans (ja a hb))
theorem yO{g:Str->Str}{r1 r2:Str->Nat}{R:List Rl}(h:GoodR g r1 r2 R)(hL:R6 R "row" L)(hM:R6 R "marks" M):Made R L M (stepF R L M):=by
 refine aoL (anf h hL hM) (fun y hy=>?_) h.ne fun z hz e q hq=>?_
 .obtain ⟨e,he,rfl⟩:=mem_formKs.mp hy;unfold M0 at he;obtain ⟨z,hz,hh⟩:=fT.mp he
  by_cases hg:z.1='e'
  .rw [if_pos hg] at hh;obtain ⟨w,ps⟩:=z
   cases ps with
   | nil=>cases hh
   | cons y fs=>
    have hh:=Option.some.inj hh;rw [<- hh];exact (p8 hL).mpr (mem_letter.mp (h.gl _ hz hg y 'c'))
  .rw [if_neg hg] at hh;cases hh
 .rw [<- V7 1 (z.2.drop 1)] at hq
  rcases E1.mp hq with hq | hq
  .exact .inl ((p8 hL).mpr (mem_letter.mp (h.al z hz e q hq)))
  .rw [List.drop_drop] at hq
   rcases h.am z hz e q hq with h1 | h1
   .exact .inl ((p8 hL).mpr (mem_letter.mp h1))
   .exact .inr ((p8 hM).mpr (mem_mark.mp h1))
theorem aoN{g:Str->Str}{r1 r2:Str->Nat}{R:List Rl}(h:GoodR g r1 r2 R)(hL:R6 R "row" L)(hM:R6 R "marks" M):(allKs R L M).length<=10000:=by
 refine K6 ?_ h.plen
 have:=List.Nodup.length_le_of_subset (l₂:=(D0 R).map (·.1)) (anf h hL hM) fun p hp=>by
  unfold allKs at hp
  rcases E1.mp hp with hp | hp
  .rcases E1.mp hp with hp | hp
   .rcases E1.mp hp with hp | hp
    .exact D8.mpr ⟨_,mem_letter.mpr ((p8 hL).mp hp),rfl⟩
    .exact D8.mpr ⟨_,mem_mark.mpr ((p8 hM).mp hp),rfl⟩
   .obtain ⟨y,_,hp⟩:=g0.mp hp;obtain ⟨e,he,_,hf⟩:=forms_mem.mp hp
    have:p∈(M0 R).flatMap (·.2):=g0.mpr ⟨e,he,hf⟩
    rw [<- aT] at this;obtain ⟨q,hq,rfl⟩:=D8.mp this;exact D8.mpr ⟨q,(Q1.mp hq).1,rfl⟩
  .rw [<- gQ] at hp;obtain ⟨q,hq,rfl⟩:=D8.mp hp;exact D8.mpr ⟨q,(Q1.mp hq).1,rfl⟩
 rw [A6] at this;exact this
theorem akR{g:Str->Str}{r1 r2:Str->Nat}{R:List Rl}(h:GoodR g r1 r2 R)(i:Nat)(y:Str):(E3 (R.take i) y).length<=10000:=by
 refine K6 ?_ h.plen;have h1:(E3 (R.take i) y).length<=((M0 (R.take i)).flatMap (·.2)).length:=by
  unfold E3;generalize M0 (R.take i)=E
  induction E with
  | nil=>exact B5 _
  | cons e E ih=>
   rw [List.filter_cons]
   split
   .rw [u7,u7,C4,C4];lia
   .rw [u7,C4];lia
 have h2:((M0 (R.take i)).flatMap (·.2)).length<=(D0 (R.take i)).length:=by
  rw [<- aT,A6];exact mN _ _
 obtain ⟨more,e⟩:=yA R i;rw [e,C4];lia
theorem IsMade.mod{d:Addr}{F:Str->List Tr}{o o':HO}(h:IsMade H d ks F)(ha:H a=some o')(hn:∀ xs,o'≠.tup xs)(nd:d≠a):IsMade (A0 H a o) d ks F:=
 let ⟨ad,h1,h2⟩:=h
 ⟨ad,by rw [B1 nd];exact h1,fun y hy=>(h2 y hy).put ha hn⟩
structure IsOrd(C:Addr)(H:Hp)(x j ll ml md:Addr)(g:Str->Str)(R:List Rl)(L M:List Str):Prop where
 ob:∃ dx,H x=some (.ins C dx (ordF 'f' (hasW R "behind") j ll ml md))
 jobs:H j=some (.dK (C1 (keysP (D0 R)++X5 R) (jobG g)))
 lets:H ll=some (.lst (L.map V.str))
 mrks:H ml=some (.lst (M.map V.str))
 made:IsMade H md (G3 [] (allKs R L M)) (stepF R L M)
 l1:R6 R "row" L
 l2:R6 R "marks" M
theorem IsOrd.same{x j:Addr}{g:Str->Str}{R:List Rl}(h:IsOrd C H x j ll ml md g R L M)(s:Same H H'):IsOrd C H' x j ll ml md g R L M:=
 ⟨let ⟨dx,e⟩:=h.ob;⟨dx,s _ _ e⟩,s _ _ h.jobs,s _ _ h.lets,s _ _ h.mrks,h.made.same s,h.l1,h.l2⟩
theorem IsOrd.mod{x j:Addr}{g:Str->Str}{R:List Rl}(h:IsOrd C H x j ll ml md g R L M){o o':HO}(ha:H a=some o')(hn:∀ xs,o'≠.tup xs)(n1:x≠a)(n2:j≠a)(n3:ll≠a)(n4:ml≠a)(n5:md≠a):IsOrd C (A0 H a o) x j ll ml md g R L M:=
 ⟨let ⟨dx,e⟩:=h.ob;⟨dx,by rw [B1 n1];exact e⟩,by rw [B1 n2];exact h.jobs,by rw [B1 n3];exact h.lets,by rw [B1 n4];exact h.mrks,h.made.mod ha hn n5,h.l1,h.l2⟩
theorem IsOrd.modL{x j:Addr}{g:Str->Str}{R:List Rl}(h:IsOrd C H x j ll ml md g R L M){o:HO}(ha:H a=some (.lst xs))(n3:ll≠a)(n4:ml≠a):IsOrd C (A0 H a o) x j ll ml md g R L M:=
 h.mod ha (by intro ys e;cases e) (fun e=>by obtain ⟨_,q⟩:=h.ob;rw [e,ha] at q;cases q) (fun e=>by have q:=h.jobs;rw [e,ha] at q;cases q) n3 n4 (fun e=>by obtain ⟨_,q,_⟩:=h.made;rw [e,ha] at q;cases q)
noncomputable def yP (C:Addr):Sp:=fun vs H Q _=>∃ (x dx a:Addr) (ts:List Addr) (R:List Rl) (g:Str->Str) (r1 r2:Str->Nat),vs=[.ref x,.ref a]/\H x=some (.ins C dx [])/\IsRules H a ts R/\GoodR g r1 r2 R/\
 ∀ j ll ml md L M H',H j=none->H ll=none->H ml=none->H md=none->SameBut x H H'->IsOrd C H' x j ll ml md g R L M->Q .non H'
noncomputable def akS (C:Addr):Sp:=fun vs H Q _=>∃ (x j ll ml md:Addr) (g:Str->Str) (R:List Rl) (L M:List Str),vs=[.ref x]/\IsOrd C H x j ll ml md g R L M/\∀ l,H l=none->Q (.ref l) (A0 H l (.lst (L.map V.str)))
noncomputable def aiF (C:Addr):Sp:=fun vs H Q _=>∃ (x j ll ml md:Addr) (g:Str->Str) (R:List Rl) (L M:List Str),vs=[.ref x]/\IsOrd C H x j ll ml md g R L M/\∀ l,H l=none->Q (.ref l) (A0 H l (.lst (M.map V.str)))
noncomputable def ang (C:Addr):Sp:=fun vs H Q _=>∃ (x j ll ml md:Addr) (p:Str) (g:Str->Str) (R:List Rl) (L M:List Str),vs=[.ref x,.str p]/\IsOrd C H x j ll ml md g R L M/\Q (if p∈keysP (D0 R)++X5 R then jobG g p else .non) H
structure RulesAt(H0 H:Hp)(a:Addr)(ts:List Addr)(R:List Rl):Prop where
 rows:IsRules H a ts R
 nd:(a::ts).Nodup
 new:∀ r∈a::ts,H0 r=none
 same:Same H0 H
theorem RulesAt.live{R:List Rl}(h:RulesAt H0 H a rs R)(hr:r∈a::rs):∃ o,H r=some o:=by
 rcases E7.mp hr with h' | h'
 .subst h';exact ⟨_,h.rows.top⟩
 .obtain ⟨i,hi,rfl⟩:=a0.mp h';obtain ⟨zs,_,h2⟩:=Paired.at h.rows.row (i:=i) (a:=rs[i]) (by simp [hi]);exact ⟨_,h2⟩
theorem RulesAt.grow{q:Addr}{R:List Rl}(h:RulesAt H0 H a rs R)(S:Same H H')(hq:H q=none){z:Rl}(cQ:H' q=some (tupR z)):RulesAt H0 (A0 H' a (.lst (rs.map V.ref++[V.ref q]))) a (rs++[q]) (R++[z]):=by
 have nq:∀ r∈a::rs,r≠q:=fun r hr e=>by
  obtain ⟨o,e'⟩:=h.live hr;rw [e,hq] at e';cases e'
 obtain ⟨na,_⟩:=V8.mp h.nd;refine ⟨⟨by rw [A5,E2];rfl,?_⟩,?_,?_,?_⟩
 .refine Paired.snoc (nU h.rows.row fun r hr zs h=>?_) ?_
  .rw [B1 (fun e:r=a=>na (by rw [<- e];exact hr))];exact S _ _ h
  .rw [B1 (nq a O0).symm];exact cQ
 .show (a::(rs++[q])).Nodup;exact sM h.nd fun e=>nq q e rfl
 .intro r hr
  rcases E7.mp hr with e | e
  .exact h.new r (by rw [e];exact O0)
  .rcases E1.mp e with e | e
   .exact h.new r (N4 _ e)
   .rw [F6.mp e];exact h.same.free hq
 .exact (h.same.trans S).put (h.new a O0)
theorem agX{R:List Rl}{w:Str}(h:∀ z∈R,z.1=w):rowsW R w=R.map (·.2):=by
 unfold rowsW;rw [mQ.mpr fun z hz=>by simpa using h z hz]
theorem kS{R:List Rl}{w:Str}(h:∀ z∈R,z.1≠w):rowsW R w=[]:=by
 unfold rowsW;rw [mK.mpr fun z hz=>by simpa using h z hz];rfl
theorem w8(A B:List Rl)(w:Str):rowsW (A++B) w=rowsW A w++rowsW B w:=by
 unfold rowsW;rw [dN,E2]
theorem oG(A B:List Rl):D0 (A++B)=D0 A++D0 B:=by
 unfold D0;rw [o3]
theorem tL(A B:List Rl)(w:Str):hasW (A++B) w=(hasW A w || hasW B w):=by
 unfold hasW;rw [List.any_append]
theorem ahE{F:Addr->Rl->Prop}{l₂:List Rl}(h:Paired F l₁ l₂):∀ k,Paired F (l₁.take k) (l₂.take k):=by
 induction h with
 | nil=>intro k;rw [List.take_nil,List.take_nil];exact .nil
 | cons h t ih=>intro k;cases k with
  | zero=>exact .nil
  | succ k=>exact .cons h (ih k)
theorem ahF{F:Addr->Rl->Prop}{l₂:List Rl}(h:Paired F l₁ l₂):∀ k,Paired F (l₁.drop k) (l₂.drop k):=by
 induction h with
 | nil=>intro k;rw [List.drop_nil,List.drop_nil];exact .nil
 | cons h t ih=>intro k;cases k with
  | zero=>exact .cons h t
  | succ k=>exact ih k
theorem aoO{l:Addr}{ts:List Addr}{R:List Rl}(h:IsRules H b ts R)(k:Nat)(n:H l=none):IsRules (A0 H l (.lst ((ts.take k).map V.ref))) l (ts.take k) (R.take k):=⟨A5,ahE (M5 h.row fun _ _ e=>D1 e n) k⟩
theorem akT{l:Addr}{ts:List Addr}{R:List Rl}(h:IsRules H b ts R)(k:Nat)(n:H l=none):IsRules (A0 H l (.lst ((ts.drop k).map V.ref))) l (ts.drop k) (R.drop k):=⟨A5,ahF (M5 h.row fun _ _ e=>D1 e n) k⟩
theorem ajp{E:List (Str×Str)}(r:R5 E ts line){e:Str×Str}(he:e∈E)(h2:e.2∈line):line.idxOf e.1<line.idxOf e.2:=by
 obtain ⟨pre,post,el⟩:=List.append_of_mem h2;obtain ⟨h3,h4,h5⟩:=gL (r pre e.2 post el);have h6:=cnt_zero.mp h5 e he rfl;rw [el,List.idxOf_append,if_pos h6,List.idxOf_append,if_neg h4]
 have:=jJ.mpr h6
 lia
theorem akU{E:List (Str×Str)}(nd:ps.Nodup)(tnd:ts.Nodup)(r:R5 E ts line)(cov:∀ p∈ts,p∈line)(hm:∀ p,p∈ts↔p∈ps)(hE:∀ e∈V2 ps,e∈E):line=ps:=by
 have hl:line.length=ps.length:=by
  rw [sY tnd r cov];exact ((List.perm_ext_iff_of_nodup tnd nd).mpr fun a=>hm a).length_eq
 have L1:∀ p∈ps,p∈line:=fun p hp=>cov p ((hm p).mpr hp)
 have C9:∀ i (h:i<ps.length),line.idxOf ps[i]<ps.length:=fun i h=>by
  rw [<- hl];exact jJ.mpr (L1 _ (List.getElem_mem h))
 have step:∀ i (h:i+1<ps.length),line.idxOf ps[i]<line.idxOf ps[i+1]:=fun i h=>by
  have he:(ps[i],ps[i+1])∈V2 ps:=by
   have:=agO (zs:=ps) (j:=i) (x:=ps[i]) (y:=ps[i+1]) (K8 'a') (by rw [List.getElem?_tail];exact K8 h)
   exact N2 this
  exact ajp r (hE _ he) (L1 _ (List.getElem_mem h))
 have up:∀ i (h:i<ps.length),i<=line.idxOf ps[i]:=by
  intro i
  induction i with
  | zero=>intro h;exact F9 _
  | succ i ih=>
   intro h
   have:=ih 'a'
   have:=step i h
   lia
 have down:∀ d i (h:i<ps.length),ps.length-1-i=d->line.idxOf ps[i]<=i:=by
  intro d
  induction d with
  | zero=>
   intro i h e
   have:=C9 i h
   lia
  | succ d ih=>
   intro i h e;have h1:=ih (i+1) 'a' 'a';have h2:=step i 'a';lia
 refine List.ext_getElem hl fun i h1 h2=>?_
 have e:line.idxOf ps[i]=i:=Nat.le_antisymm (down _ i h2 rfl) (up i h2)
 have:=mR (x:=ps[i]) (xs:=line) (by rw [e];exact h1)
 simp only [e] at this;exact this
noncomputable def ruleD (z:Rl):PyData:=.tuple ((z.1::z.2).map .str)
theorem ajq(z:Rl):(ruleD z).depth<=1:=by
 unfold ruleD;rw [g4,nQ];decide
theorem tM:∀ R:List Rl,aM (R.map ruleD)<=1
 | []=>F9 _
 | z::R=>by
  rw [K5,aM];have h1:=ajq z;have h2:=tM R;lia
theorem aeV : ∀ {rs:List Addr} {R:List Rl},Paired (fun r z=>H r=some (tupR z)) rs R->(∀ z∈R,∀ y∈z.1::z.2,W0 y=true)->DnAll K H (rs.map V.ref) (R.map ruleD)
 | _,_,.nil,_=>.nil
 | _,_,.cons h t,hz=>.cons (.tup (.of h) (j8 (hz _ O0))) (aeV t fun z eY=>hz z (N4 _ eY))
theorem yQ{R:List Rl}(h:IsRules H a rs R)(hz:∀ z∈R,∀ y∈z.1::z.2,W0 y=true):Dn K H (.ref a) (.list (R.map ruleD)):=.lst (.of h.top) (aeV h.row hz)
noncomputable def Q2 (ns:List Int) (k:Int) (p:Str):Prop:=∃ rest:List Nat,p.cps.toList=K2 ns k::rest/\rest.length<=1/\∀ c∈rest,∃ m:Int,c=K2 ns m
noncomputable def oH (ns:List Int) (S:Int->Prop) (p:Str):Prop:=∃ k,S k/\Q2 ns k p
theorem Q2.inj{k l:Int}(h:Q2 ns k p)(h':Q2 ns l p)(k0:0<=k)(k1:k<83)(l0:0<=l)(l1:l<83):k=l:=by
 obtain ⟨r,e,_⟩:=h;obtain ⟨r',e',_⟩:=h';rw [e] at e';exact aoI k0 k1 l0 l1 (o4.inj e').1
theorem tN(ns:List Int)(k:Int):Q2 ns k (one (K2 ns k)):=⟨[],rfl,by simp,by simp⟩
theorem yR(ns:List Int)(k m:Int):Q2 ns k (one (K2 ns k)++one (K2 ns m)):=⟨[K2 ns m],rfl,by simp,fun c hc=>⟨m,F6.mp hc⟩⟩
theorem Q2.ok{k:Int}(h:Q2 ns k p):nP p=true/\(Q0 ns=false->∀ c∈p.cps.toList,figO c=false):=by
 obtain ⟨r,e,hl,hr⟩:=h;have hc:∀ c∈p.cps.toList,∃ m:Int,c=K2 ns m:=fun c hc=>by
  rw [e] at hc
  rcases E7.mp hc with q | q
  .exact ⟨k,q⟩
  .exact hr c q
 have el:p.length=r.length+1:=by
  have:p.length=p.cps.toList.length:=by simp [Str.length]
  rw [this,e];rfl
 refine ⟨?_,fun hd c h=>?_⟩
 .unfold nP;rw [el,T5,T5];refine ⟨⟨decide_eq_true 'a',decide_eq_true 'a'⟩,List.all_eq_true.mpr fun c h=>?_⟩;obtain ⟨m,rfl⟩:=hc c h;exact (aiy ns m).1
 .obtain ⟨m,rfl⟩:=hc c h;exact (aiy ns m).2 hd
structure Dis(ns:List Int)(S:Int->Prop)(ps:List Str):Prop where
 nd:ps.Nodup
 pc:∀ p∈ps,oH ns S p
 uq:∀ p∈ps,∀ q∈ps,∀ k:Int,20<=k->k<83->Q2 ns k p->Q2 ns k q->p=q
theorem Dis.cat{S T:Int->Prop}(h:Dis ns S ps)(h':Dis ns T qs)(hS:∀ k,S k->0<=k/\k<83)(hT:∀ k,T k->0<=k/\k<83)(n:∀ k,S k->¬ T k):Dis ns (fun k=>S k\/T k) (ps++qs):=by
 have ap:∀ p∈ps,∀ q∈qs,∀ k:Int,0<=k->k<83->Q2 ns k p->Q2 ns k q->False:=fun p hp q hq k k0 k1 pk qk=>by
  obtain ⟨i,hi,pi⟩:=h.pc p hp;obtain ⟨l,hl,pl⟩:=h'.pc q hq;have e1:=pk.inj pi k0 k1 (hS i hi).1 (hS i hi).2;have e2:=qk.inj pl k0 k1 (hT l hl).1 (hT l hl).2;subst e1 e2;exact n _ hi hl
 refine ⟨bO.mpr ⟨h.nd,h'.nd,fun a ha b hb e=>?_⟩,fun p hp=>?_,fun p hp q hq k k0 k1 pk qk=>?_⟩
 .subst e;obtain ⟨k,hk,pk⟩:=h.pc a ha;exact ap a ha a hb k (hS k hk).1 (hS k hk).2 pk pk
 .rcases E1.mp hp with hp | hp
  .obtain ⟨k,hk,pk⟩:=h.pc p hp;exact ⟨k,.inl hk,pk⟩
  .obtain ⟨k,hk,pk⟩:=h'.pc p hp;exact ⟨k,.inr hk,pk⟩
 .rcases E1.mp hp with hp | hp <;> rcases E1.mp hq with hq | hq
  .exact h.uq p hp q hq k k0 k1 pk qk
  .exact (ap p hp q hq k 'a' k1 pk qk).elim
  .exact (ap q hq p hp k 'a' k1 qk pk).elim
  .exact h'.uq p hp q hq k k0 k1 pk qk
theorem Dis.wide{S T:Int->Prop}(h:Dis ns S ps)(w:∀ k,S k->T k):Dis ns T ps:=⟨h.nd,fun p hp=>let ⟨k,hk,pk⟩:=h.pc p hp;⟨k,w k hk,pk⟩,h.uq⟩
theorem gR{k:Int}(h:Q2 ns k p):Dis ns (fun l=>l=k) [p]:=⟨by simp,fun q hq=>by rw [F6.mp hq];exact ⟨k,rfl,h⟩,fun a ha b hb _ _ _ _ _=>by rw [F6.mp ha,F6.mp hb]⟩
theorem Dis.nil{S:Int->Prop} : Dis ns S []:=⟨List.nodup_nil,by simp,by simp⟩
theorem mul3(h:i<3):∃ m:Int,G4 [V.int 48271,V.int 69621,V.int 16807] (0+(i:Int))=some (V.int m)/\0<m/\m<100000:=by
 obtain rfl | rfl | rfl:i=0\/i=1\/i=2:=by lia
 .exact ⟨_,rfl,by decide,by decide⟩
 .exact ⟨_,rfl,by decide,by decide⟩
 .exact ⟨_,rfl,by decide,by decide⟩
noncomputable def LetS (k:Int):Prop:=0<=k/\k<16
noncomputable def eD (ns:List Int) (n:Nat):List Str:=(List.range n).map fun (k:Nat)=>one (K2 ns (k:Int))
theorem aiG(ns:List Int)(i:Nat):eD ns (i+1)=eD ns i++[one (K2 ns (i:Int))]:=by
 unfold eD;rw [List.range_succ,E2];rfl
theorem akV(ns:List Int)(n:Nat):(eD ns n).length=n:=by unfold eD;rw [A6,List.length_range]
theorem akW(ns:List Int):∀ n:Nat,n<=83->Dis ns (fun k=>0<=k/\k<(n:Int)) (eD ns n)
 | 0,_=>Dis.nil
 | n+1,h=>by
  rw [aiG];refine ((akW ns n 'a').cat (gR (tN ns (n:Int))) (fun k hk=>by lia) (fun k hk=>by lia) (fun k hk e=>by lia)).wide fun k hk=>by
   rcases hk with hk | hk <;> lia
structure LetW(ns:List Int)(n:Int)(ps:List Str):Prop where
 n0:2<=n
 n1:n<=16
 all:∀ k:Int,0<=k->k<n->one (K2 ns k)∈ps
 each:∀ p∈ps,∃ k:Int,0<=k/\k<n/\(p=one (K2 ns k)\/∃ m:Int,0<=m/\m<n/\p=one (K2 ns k)++one (K2 ns m))
structure LetI(ns:List Int)(H H2:Hp)(l:Addr)(ps:List Str)(n:Nat):Prop where
 new:H l=none
 same:Same H H2
 lst:H2 l=some (.lst (ps.map V.str))
 dis:Dis ns LetS ps
 wd:∃ n,LetW ns n ps
 lo:2<=ps.length
 hi:ps.length<=16+n
theorem anh{n:Int}(h0:2<=n)(h1:n<=16):LetW ns n (eD ns n.toNat):=by
 refine ⟨h0,h1,fun k k0 k1=>?_,fun p hp=>?_⟩
 .refine D8.mpr ⟨k.toNat,jP.mpr 'a',?_⟩;rw [show ((k.toNat:Nat):Int)=k by lia]
 .obtain ⟨k,hk,rfl⟩:=D8.mp hp
  have:=jP.mp hk
  exact ⟨k,by lia,by lia,.inl rfl⟩
theorem LetW.ins{n:Int}{t:Nat}(h:LetW ns n ps)(hp:∃ k:Int,0<=k/\k<n/\(p=one (K2 ns k)\/∃ m:Int,0<=m/\m<n/\p=one (K2 ns k)++one (K2 ns m))):LetW ns n (ps.take t++[p]++ps.drop t):=by
 have hm:∀ x,x∈ps.take t++[p]++ps.drop t↔x=p\/x∈ps:=fun x=>by
  have:x∈ps↔x∈ps.take t\/x∈ps.drop t:=by rw [<- E1,V7]
  rw [R3,E1,E1,F6,this]
  constructor
  .rintro (h | h | h)
   .exact .inr (.inl h)
   .exact .inl h
   .exact .inr (.inr h)
  .rintro (h | h | h)
   .exact .inr (.inl h)
   .exact .inl h
   .exact .inr (.inr h)
 refine ⟨h.n0,h.n1,fun k k0 k1=>(hm _).mpr (.inr (h.all k k0 k1)),fun x hx=>?_⟩
 rcases (hm x).mp hx with e | e
 .rw [e];exact hp
 .exact h.each x e
noncomputable def afD (K:PySem.W.Frag):Sp:=fun vs H Q _=>∃ (a:Addr) (ns:List Int),vs=[.ref a]/\D9 K H a (ns.map V.int)/\∀ l ps H',LetI ns H H' l ps 3->Q (.ref l) H'
noncomputable def ani (K:PySem.W.Frag):Sp:=fun vs H Q _=>∃ (l m:Addr) (n:Int) (b:Bool) (ls ms:List Str),vs=[.ref l,.ref m,.int n,.bl b]/\H l=some (.lst (ls.map V.str))/\H m=some (.lst (ms.map V.str))/\1<=ls.length/\ls.length<=1000/\ms.length<=1000/\(∀ p∈ms,W0 p=true)/\
 ∀ p H',Same H H'->(p∈ls\/(b=false/\p∈ms))->Q (.str p) H'
theorem pickA(n:Int)(h1:1<=zs.length):∃ p∈zs,G4 (zs.map V.str) (n % (zs.length:Int))=some (V.str p):=by
 obtain ⟨v,e,hm⟩:=kF (xs:=zs.map V.str) (i:=n % (zs.length:Int)) (j6 _ 'a') (by rw [A6];exact o6 _ 'a');obtain ⟨p,hp,rfl⟩:=D8.mp hm;exact ⟨p,hp,e⟩
theorem pickL{u:Addr}{n:Int}(h:H u=some (.lst (zs.map V.str)))(h1:1<=zs.length)(q:∀ p∈zs,Q (.str p) H) :
  ∃ m:Nat,LenR K H u m/\0<(m:Int)/\∃ xs,(D9 K H u xs\/C6 K H u xs)/\∃ x,G4 xs (n % (m:Int))=some x/\Q x H:=by
 obtain ⟨v,e,hm⟩:=kF (xs:=zs.map V.str) (i:=n % (zs.length:Int)) (j6 _ 'a') (by rw [A6];exact o6 _ 'a');obtain ⟨p,hp,rfl⟩:=D8.mp hm;exact ⟨zs.length,.inl ⟨_,.of h,by rw [A6]⟩,by lia,_,.inl (.of h),_,e,q p hp⟩
noncomputable def spTwo (K:PySem.W.Frag):Sp:=fun vs H Q _=>∃ (a:Addr) (ns:List Int) (k c:Int),vs=[.ref a,.int k,.int c]/\D9 K H a (ns.map V.int)/\0<=k/\∀ p H',Same H H'->Q2 ns k p->Q (.str p) H'
noncomputable def OthZ (ls ms:List Str) (z:Rl):Prop:=(z.1='e'/\∃ l fs,z.2=l::fs/\l∈ls/\1<=fs.length/\fs.length<=2)\/(z.1=("as" : Str)/\∃ p q qs,z.2=p::q::qs/\q∈ls/\(∀ r∈qs,r∈ls\/r∈ms)/\qs.length<=2)\/(z.1=("over" : Str)/\z.2.length<=2)
structure OthI(ns:List Int)(ls ms:List Str)(S:Int->Prop)(n:Nat)(R:List Rl):Prop where
 dis:Dis ns S ((D0 R).map (·.1))
 each:∀ z∈R,OthZ ls ms z
 len:R.length<=n
noncomputable def GS (i:Nat) (k:Int):Prop:=(30<=k/\k<30+(i:Int))\/(34<=k/\k<34+(i:Int))
noncomputable def AS (i:Nat) (k:Int):Prop:=GS 3 k\/(40<=k/\k<40+(i:Int))
noncomputable def OS (k:Int):Prop:=AS 3 k\/(50<=k/\k<52)
theorem yS(z:Rl):(D0 [z]).map (·.1)=M9 z:=by
 unfold D0;rw [u7,mT,K9,b0];exact List.map_id' _
theorem OthI.add{S T U:Int->Prop}{R:List Rl}(h:OthI ns ls ms S n R){z:Rl}(hz:OthZ ls ms z)(hd:Dis ns T (M9 z))(hS:∀ k,S k->0<=k/\k<83)(hT:∀ k,T k->0<=k/\k<83)(no:∀ k,S k->¬ T k)(w:∀ k,S k\/T k->U k):OthI ns ls ms U (n+1) (R++[z]):=by
 refine ⟨?_,fun y hy=>?_,by rw [C4,N3];have:=h.len;lia⟩
 .rw [oG,E2,yS];exact (h.dis.cat hd hS hT no).wide w
 .rcases E1.mp hy with hy | hy
  .exact h.each y hy
  .rw [F6.mp hy];exact hz
structure AsR(ls ms:List Str)(H0 H:Hp)(t:Addr)(p:Str)(qs:List Str)(j:Nat):Prop where
 same:Same H0 H
 tup:H t=some (tupR ("as",p::qs))
 new:H0 t=none
 len:qs.length=j
 ok:∀ i q,qs[i]?=some q->q∈ls\/(0<i/\q∈ms)
theorem AsR.oth{t:Addr}(h:AsR ls ms H0 H t p qs j)(h1:1<=j)(h3:j<=3):OthZ ls ms ("as",p::qs):=by
 refine .inr (.inl ⟨rfl,?_⟩);have hl:=h.len;have ok:=h.ok
 cases qs with
 | nil=>simp at hl;lia
 | cons q qs=>
  refine ⟨p,q,qs,rfl,(ok 0 q rfl).elim id fun e=>absurd e.1 'h',fun r hr=>?_,by simp at hl;lia⟩;obtain ⟨i,hi,e⟩:=a0.mp hr;exact (ok (i+1) r (by rw [List.getElem?_cons_succ,K8 hi,e])).imp id (·.2)
theorem akX{l f:Str}{fs:List Str}(hl:l∈ls)(hf:fs=[f]\/∃ f2,fs=[f,f2]):OthZ ls ms ("great",l::fs):=by
 refine .inl ⟨rfl,l,fs,rfl,hl,?_⟩
 rcases hf with rfl | ⟨f2,rfl⟩ <;> simp
theorem akY{i:Int}{l f:Str}{fs:List Str}(h0:0<=i)(h1:i<3)(hp:Q2 ns (30+i) f)(hf:fs=[f]\/∃ f2,fs=[f,f2]/\Q2 ns (34+i) f2):Dis ns (fun k=>k=30+i\/k=34+i) (M9 ("great",l::fs)):=by
 rw [W2.1 rfl];show Dis ns _ fs
 rcases hf with rfl | ⟨f2,rfl,h2⟩
 .exact (gR hp).wide fun k hk=>.inl hk
 .exact (gR hp).cat (gR h2) (fun k hk=>by lia) (fun k hk=>by lia) (fun k hk e=>by lia)
noncomputable def aiH (K:PySem.W.Frag):Sp:=fun vs H Q _=>∃ (a b c:Addr) (ns:List Int) (ls ms:List Str),vs=[.ref a,.ref b,.ref c]/\D9 K H a (ns.map V.int)/\H b=some (.lst (ls.map V.str))/\H c=some (.lst (ms.map V.str))/\1<=ls.length/\ls.length<=1000/\ms.length<=1000/\(∀ p∈ms,W0 p=true)/\
 ∀ l ts R H',RulesAt H H' l ts R->OthI ns ls ms OS 7 R->Q (.ref l) H'
theorem Dis.ins{S:Int->Prop}(hS:∀ k,S k->0<=k/\k<20)(h:Dis ns S ps)(hp:oH ns S p)(hn:p∉ps):Dis ns S (ps.take n++[p]++ps.drop n):=by
 have hm:∀ x,x∈ps.take n++[p]++ps.drop n↔x=p\/x∈ps:=fun x=>by
  rw [R3,E1,E1,F6]
  have:x∈ps↔x∈ps.take n\/x∈ps.drop n:=by rw [<- E1,V7]
  rw [this]
  constructor
  .rintro (h | h | h)
   .exact .inr (.inl h)
   .exact .inl h
   .exact .inr (.inr h)
  .rintro (h | h | h)
   .exact .inr (.inl h)
   .exact .inl h
   .exact .inr (.inr h)
 have pcs:∀ x∈ps.take n++[p]++ps.drop n,oH ns S x:=fun x hx=>by
  rcases (hm x).mp hx with e | e
  .rw [e];exact hp
  .exact h.pc x e
 refine ⟨?_,pcs,fun x hx y hy k k0 k1 pk _=>?_⟩
 .have e:(ps.take n++[p]++ps.drop n).Perm (p::ps):=by
   rw [R3];refine List.perm_middle.trans ?_;exact List.Perm.of_eq (congrArg (o4 p) (V7 n ps))
  rw [e.nodup_iff,V8];exact ⟨hn,h.nd⟩
 .obtain ⟨i,hi,q⟩:=pcs x hx
  have:=hS i hi
  have:=pk.inj q 'a' k1 'a' 'a'
  lia
noncomputable def MarkS (k:Int):Prop:=20<=k/\k<25
noncomputable def flagW (w:Str):Prop:=w=("figures" : Str)\/w=("behind" : Str)\/w=("blanks" : Str)
theorem flagW.no{w:Str}(h:flagW w):w≠"row"/\w≠"marks"/\w≠"great"/\w≠"as"/\w≠"over":=by
 rcases h with rfl | rfl | rfl <;> decide +kernel
theorem yT{w:Str}(h:flagW w):M9 (w,[])=[]:=by
 obtain ⟨n1,n2,n3,n4,n5⟩:=h.no;unfold M9;rw [if_neg n3,if_neg n4]
 split <;> rfl
structure RulP(ns:List Int)(ls ms:List Str)(b:Bool)(n:Nat)(R:List Rl):Prop where
 dis:Dis ns (fun k=>LetS k\/OS k\/(b=true/\MarkS k)) ((D0 R).map (·.1))
 row:rowsW R "row"=[ls]
 mrk:rowsW R "marks"=if b=true then [ms] else []
 each:∀ z∈R,z=(("row" : Str),ls)\/(z=(("marks" : Str),ms)/\b=true)\/OthZ ls ms z\/(z.2=[]/\flagW z.1)
 len:R.length<=n
 fig:hasW R "figures"=true->Q0 ns=false
 oi:∀ z∈R,OthZ ls ms z->∀ p∈M9 z,oH ns OS p
theorem OthZ.word{z:Rl}(h:OthZ ls ms z):z.1≠"row"/\z.1≠"marks"/\z.1≠"figures"/\z.1≠"blanks":=by
 rcases h with h | h | h <;> rw [h.1] <;> decide +kernel
theorem OS_lt{k:Int}(h:OS k):30<=k/\k<52:=by
 unfold OS AS GS at h;lia
theorem aoP{R:List Rl}(hl:Dis ns LetS ls)(h:OthI ns ls ms OS 7 R):RulP ns ls ms false 8 ((("row" : Str),ls)::R):=by
 have t1:M9 (("row" : Str),ls)=ls:=W2.2.2 'g';refine ⟨?_,?_,?_,fun z hz=>?_,by rw [K4];have:=h.len;lia,fun e=>?_,fun z hz ho p hp=>?_⟩
 .rw [tK,E2,b0,t1];have e:(ls.map ((fun x:Str×Str=>x.1)∘fun p=>(p,jobD "row")))=ls:=List.map_id' _;rw [e];exact (hl.cat h.dis (fun k hk=>by unfold LetS at hk;lia) (fun k hk=>by have:=OS_lt hk;lia) (fun k hk e=>by have:=OS_lt e;unfold LetS at hk;lia)).wide fun k hk=>hk.elim .inl fun q=>.inr (.inl q)
 .have:rowsW R "row"=[]:=kS fun z hz=>(h.each z hz).word.1
  show rowsW ([(("row" : Str),ls)]++R) "row"=_;rw [w8,this,agX (w:="row") 'c'];rfl
 .have:rowsW R "marks"=[]:=kS fun z hz=>(h.each z hz).word.2.1
  show rowsW ([(("row" : Str),ls)]++R) "marks"=_;rw [w8,this,kS (R:=[(("row" : Str),ls)]) (by simp;decide +kernel)];rfl
 .rcases E7.mp hz with e | e
  .exact .inl e
  .exact .inr (.inr (.inl (h.each z e)))
 .exfalso
  unfold hasW at e;rw [mV] at e;obtain ⟨z,hz,q⟩:=e;have q:z.1=("figures" : Str):=by simpa using q
  rcases E7.mp hz with e | e
  .rw [e] at q;exact absurd (show Str.ofString "row"=_ from q) 'd'
  .exact (h.each z e).word.2.2.1 q
 .rcases E7.mp hz with e | e
  .rw [e] at ho;exact absurd rfl ho.word.1
  .exact h.dis.pc p (D8.mpr ⟨_,mem_pairs.mpr ⟨z,e,hp,rfl⟩,rfl⟩)
theorem RulP.marks{R:List Rl}(h:RulP ns ls ms false n R)(hm:Dis ns MarkS ms):RulP ns ls ms true (n+1) (R++[(("marks" : Str),ms)]):=by
 have t1:M9 (("marks" : Str),ms)=ms:=W2.2.2 (.inr 'g');refine ⟨?_,?_,?_,fun z hz=>?_,by rw [C4,N3];have:=h.len;lia,fun e=>?_,fun z hz ho=>?_⟩
 .rw [oG,E2,yS,t1];refine (h.dis.cat hm (fun k hk=>?_) (fun k hk=>by unfold MarkS at hk;lia) (fun k hk e=>?_)).wide fun k hk=>?_
  .rcases hk with hk | hk | hk
   .unfold LetS at hk;lia
   .have:=OS_lt hk;lia
   .exact absurd hk.1 'h'
  .unfold MarkS at e
   rcases hk with hk | hk | hk
   .unfold LetS at hk;lia
   .have:=OS_lt hk;lia
   .exact absurd hk.1 'h'
  .rcases hk with (hk | hk | hk) | hk
   .exact .inl hk
   .exact .inr (.inl hk)
   .exact absurd hk.1 'h'
   .exact .inr (.inr ⟨rfl,hk⟩)
 .rw [w8,h.row,kS (R:=[(("marks" : Str),ms)]) (by simp;decide +kernel)];rfl
 .rw [w8,h.mrk,agX (R:=[(("marks" : Str),ms)]) (w:="marks") 'c'];rfl
 .rcases E1.mp hz with e | e
  .rcases h.each z e with q | q | q | q
   .exact .inl q
   .exact absurd q.2 'h'
   .exact .inr (.inr (.inl q))
   .exact .inr (.inr (.inr q))
  .exact .inr (.inl ⟨F6.mp e,rfl⟩)
 .rw [tL,Bool.or_eq_true] at e
  rcases e with e | e
  .exact h.fig e
  .exact absurd e (by simp [hasW];decide +kernel)
 .rcases E1.mp hz with e | e
  .exact h.oi z e ho
  .rw [F6.mp e] at ho;exact absurd rfl ho.word.2.1
theorem RulP.flag{b:Bool}{R:List Rl}(h:RulP ns ls ms b n R){w:Str}(hw:flagW w)(hf:w=("figures" : Str)->Q0 ns=false):RulP ns ls ms b (n+1) (R++[(w,[])]):=by
 obtain ⟨n1,n2,n3,n4,n5⟩:=hw.no;refine ⟨?_,?_,?_,fun z hz=>?_,by rw [C4,N3];have:=h.len;lia,fun e=>?_,fun z hz ho p hp=>?_⟩
 .rw [oG,E2,yS,yT hw,K9];exact h.dis
 .rw [w8,h.row,kS (R:=[(w,[])]) (by simpa using n1)];rfl
 .rw [w8,h.mrk,kS (R:=[(w,[])]) (by simpa using n2),K9]
 .rcases E1.mp hz with e | e
  .exact h.each z e
  .rw [F6.mp e];exact .inr (.inr (.inr ⟨rfl,hw⟩))
 .rw [tL,Bool.or_eq_true] at e
  rcases e with e | e
  .exact h.fig e
  .exact hf (by simpa [hasW] using e)
 .rcases E1.mp hz with e | e
  .exact h.oi z e ho p hp
  .rw [F6.mp e,yT hw] at hp;cases hp
theorem RulP.wide{b:Bool}{R:List Rl}(h:RulP ns ls ms b n R)(l:n<=m):RulP ns ls ms b m R:=⟨h.dis,h.row,h.mrk,h.each,K6 h.len l,h.fig,h.oi⟩
theorem aiI{α:Type}{a b:List α}{x:α}(h:a++b=[x]):b++a=[x]:=by
 cases a with
 | nil=>simpa using h
 | cons y a=>
  simp only [mU,o4.injEq,List.append_eq_nil_iff] at h;obtain ⟨rfl,rfl,rfl⟩:=h;rfl
theorem RulP.turn{b:Bool}{R:List Rl}(h:RulP ns ls ms b n R)(k:Nat):RulP ns ls ms b n (R.drop k++R.take k):=by
 have e:R.take k++R.drop k=R:=V7 k R;have hm:∀ z,z∈R.drop k++R.take k↔z∈R:=fun z=>by
  conv=>rhs;rw [<- e]
  rw [E1,E1,or_comm]
 refine ⟨?_,?_,?_,fun z hz=>h.each z ((hm z).mp hz),?_,fun q=>h.fig ?_,fun z hz=>h.oi z ((hm z).mp hz)⟩
 .have p:((D0 (R.drop k++R.take k)).map (·.1)).Perm ((D0 R).map (·.1)):=by
   conv=>rhs;rw [<- e]
   rw [oG,oG];exact List.Perm.map _ List.perm_append_comm
  exact ⟨p.nodup_iff.mpr h.dis.nd,fun x hx=>h.dis.pc x (p.mem_iff.mp hx),fun x hx y hy=>h.dis.uq x (p.mem_iff.mp hx) y (p.mem_iff.mp hy)⟩
 .have:=h.row
  rw [<- e,w8] at this;rw [w8];exact aiI this
 .have:=h.mrk
  rw [<- e,w8] at this;rw [w8]
  by_cases hb:b=true
  .rw [if_pos hb] at this ⊢;exact aiI this
  .rw [if_neg hb] at this ⊢
   obtain ⟨h1,h2⟩:=List.append_eq_nil_iff.mp this;rw [h1,h2];rfl
 .have:=h.len
  have e2:=congrArg Y8 e;rw [C4] at e2 ⊢
  lia
 .rw [<- e,tL];rw [tL] at q;rw [Bool.or_comm];exact q
theorem lookN{s:Str} : ∀ {l:List (Str×Str)},(l.map (·.1)).Nodup->(p,s)∈l->l.lookup p=some s
 | [],_,h=>by cases h
 | (y,t)::l,nd,h=>by
  rw [K5,V8] at nd;rw [List.lookup_cons]
  rcases E7.mp h with h | h
  .obtain ⟨rfl,rfl⟩:=Prod.mk.inj h
   simp
  .have:p≠y:=fun e=>nd.1 (D8.mpr ⟨_,h,e⟩)
   have e:(p==y)=false:=by simpa using this
   rw [e];exact lookN nd.2 h
noncomputable def oI (R:List Rl) (p:Str):Str:=((D0 R).lookup p).getD ""
theorem akZ(z:Rl):(M9 z).length<=z.2.length:=by
 unfold M9
 split
 .rw [X1];lia
 .split
  .rw [E9];lia
  .split
   .exact B5 _
   .exact F9 _
theorem yU : ∀ {R:List Rl},(∀ z∈R,z.2.length<=n)->(D0 R).length<=n*R.length
 | [],_=>F9 _
 | z::R,h=>by
  rw [tK,C4,A6,K4,Nat.mul_add,Nat.mul_one];have h1:=akZ z;have h2:=h z O0;have h3:=yU fun y hy=>h y (N4 _ hy)
  lia
theorem agY(nd:ps.Nodup){e:Str×Str}(he:e∈V2 ps):ps.idxOf e.1<ps.idxOf e.2:=by
 unfold V2 at he;obtain ⟨i,hi,e1⟩:=a0.mp he;rw [List.getElem_zip] at e1;have t8:i+1<ps.length:=by rw [List.length_zip,List.length_tail] at hi;lia
 have lT:i<ps.tail.length:=by rw [List.length_tail];lia
 have e3:ps.tail[i]'lT=ps[i+1]:=List.getElem_tail lT;have f1:ps[i]=e.1:=congrArg Prod.fst e1;have f2:ps[i+1]=e.2:=e3.symm.trans (congrArg Prod.snd e1);have a1:ps.idxOf ps[i]=i:=List.Nodup.idxOf_getElem nd i 'a';have a2:ps.idxOf ps[i+1]=i+1:=List.Nodup.idxOf_getElem nd (i+1) t8;rw [<- f1,<- f2,a1,a2];lia
theorem Q2.blank{k:Int}(h:Q2 ns k " "):False:=by
 have:=h.ok.1
 exact absurd this 'd'
structure RulG(ns:List Int)(ls ms:List Str)(R:List Rl):Prop where
 p:∃ b,RulP ns ls ms b 12 R/\(b=false->ms=[])
 l0:2<=ls.length
 l1:ls.length<=19
 ld:Dis ns LetS ls
 lw:∃ n,LetW ns n ls
 m1:ms.length<=4
 md:Dis ns MarkS ms
theorem RulG.pc{R:List Rl}(h:RulG ns ls ms R)(hp:p∈(D0 R).map (·.1)):∃ k,Q2 ns k p:=by
 obtain ⟨b,h,_⟩:=h.p;obtain ⟨k,_,q⟩:=h.dis.pc p hp;exact ⟨k,q⟩
theorem RulG.nd{R:List Rl}(h:RulG ns ls ms R):((D0 R).map (·.1)).Nodup:=by
 obtain ⟨b,h,_⟩:=h.p;exact h.dis.nd
theorem RulG.row{R:List Rl}(h:RulG ns ls ms R):rowsW R "row"=[ls]:=by
 obtain ⟨b,h,_⟩:=h.p;exact h.row
theorem RulG.mrk{R:List Rl}(h:RulG ns ls ms R):(rowsW R "marks").flatten=ms/\(edges (rowsW R "marks")=V2 ms):=by
 obtain ⟨b,h,hb⟩:=h.p;rw [h.mrk]
 cases b with
 | true=>simp [edges]
 | false=>rw [hb rfl];exact ⟨rfl,rfl⟩
theorem RulG.len{R:List Rl}(h:RulG ns ls ms R):R.length<=12:=by
 obtain ⟨b,h,_⟩:=h.p;exact h.len
theorem RulG.each{R:List Rl}(h:RulG ns ls ms R){z:Rl}(hz:z∈R):z=(("row" : Str),ls)\/z=(("marks" : Str),ms)\/OthZ ls ms z\/(z.2=[]/\flagW z.1):=by
 obtain ⟨b,h,_⟩:=h.p
 rcases h.each z hz with q | q | q | q
 .exact .inl q
 .exact .inr (.inl q.1)
 .exact .inr (.inr (.inl q))
 .exact .inr (.inr (.inr q))
theorem RulG.zl{R:List Rl}(h:RulG ns ls ms R){z:Rl}(hz:z∈R):z.2.length<=19:=by
 have h1:=h.l1;have h2:=h.m1
 rcases h.each hz with rfl | rfl | q | q
 .exact h1
 .show ms.length<=19;lia
 .rcases q with ⟨_,l,fs,e,_,_,q⟩ | ⟨_,p,q,qs,e,_,_,l⟩ | ⟨_,l⟩
  .rw [e,K4];lia
  .rw [e,K4,K4];lia
  .lia
 .rw [q.1];exact F9 _
theorem RulG.job{R:List Rl}(h:RulG ns ls ms R){j:Str}(hp:(p,j)∈D0 R):oI R p=j:=by
 unfold oI;rw [lookN h.nd hp];rfl
theorem RulG.letter{R:List Rl}(h:RulG ns ls ms R) : (p,("letter" : Str))∈D0 R↔p∈ls:=by
 rw [mem_letter,h.row];simp
theorem RulG.mark{R:List Rl}(h:RulG ns ls ms R) : (p,("mark" : Str))∈D0 R↔p∈ms:=by
 rw [mem_mark,h.mrk.1]
theorem RulG.good{R:List Rl}(h:RulG ns ls ms R):GoodR (oI R) (ls.idxOf ·) (ms.idxOf ·) R:=by
 have hl:=h.len;have L5:=yU (n:=19) fun z hz=>h.zl hz
 refine ⟨by lia,by lia,fun i p j hi=>⟨?_,fun hm=>?_,fun hf=>?_,?_⟩,fun hb=>?_,fun z hz=>by have:=h.zl hz;lia,fun z hz hw=>?_,fun z hz hw p hp=>?_,fun z hz hw p hp=>?_,fun z hz hw p hp=>?_,?_,?_,fun e he=>?_,fun e he=>?_⟩
 .exact (h.job (N2 hi)).symm
 .exfalso
  obtain ⟨⟨p',j'⟩,hm',rfl⟩:=D8.mp hm;obtain ⟨k,hk,e⟩:=rY.mp hm';have t8:=(G2.mp hi)
  obtain ⟨t8,e2⟩:=t8;have nd:=h.nd;rw [dL,List.pairwise_map,fQ] at nd;refine nd k i 'a' t8 'a' ?_;rw [e,e2]
 .obtain ⟨b,hP,_⟩:=h.p;obtain ⟨k,hk⟩:=h.pc (D8.mpr ⟨_,N2 hi,rfl⟩);exact hk.ok.2 (hP.fig hf)
 .obtain ⟨k,hk⟩:=h.pc (D8.mpr ⟨_,N2 hi,rfl⟩)
  have:p.length<=2:=(gG hk.ok.1).2.2
  lia
 .obtain ⟨k,hk⟩:=h.pc hb;exact hk.blank
 .rcases h.each hz with rfl | rfl | q | q
  .rcases hw with hw | hw <;> exact absurd (show Str.ofString "row"=_ from hw) 'd'
  .rcases hw with hw | hw <;> exact absurd (show Str.ofString "marks"=_ from hw) 'd'
  .rcases q with ⟨_,l,fs,e,_⟩ | ⟨_,p,q,qs,e,_⟩ | ⟨e,_⟩
   .rw [e];simp
   .rw [e];simp
   .rw [e] at hw;rcases hw with hw | hw <;> exact absurd hw 'd'
  .have:=q.2.no
   rcases hw with hw | hw
   .exact absurd hw this.2.2.2.1
   .exact absurd hw this.2.2.1
 .rcases h.each hz with rfl | rfl | q | q
  .exact absurd (show Str.ofString "row"=_ from hw) 'd'
  .exact absurd (show Str.ofString "marks"=_ from hw) 'd'
  .rcases q with ⟨_,l,fs,e,hl,_⟩ | ⟨e,_⟩ | ⟨e,_⟩
   .rw [e] at hp
    have:p=l:=by simpa using hp
    rw [this];exact h.letter.mpr hl
   .rw [e] at hw;exact absurd hw 'd'
   .rw [e] at hw;exact absurd hw 'd'
  .exact absurd hw q.2.no.2.2.1
 .rcases h.each hz with rfl | rfl | q | q
  .exact absurd (show Str.ofString "row"=_ from hw) 'd'
  .exact absurd (show Str.ofString "marks"=_ from hw) 'd'
  .rcases q with ⟨e,_⟩ | ⟨_,x,q,qs,e,hq,_⟩ | ⟨e,_⟩
   .rw [e] at hw;exact absurd hw 'd'
   .rw [e] at hp
    have:p=q:=by simpa using hp
    rw [this];exact h.letter.mpr hq
   .rw [e] at hw;exact absurd hw 'd'
  .exact absurd hw q.2.no.2.2.2.1
 .rcases h.each hz with rfl | rfl | q | q
  .exact absurd (show Str.ofString "row"=_ from hw) 'd'
  .exact absurd (show Str.ofString "marks"=_ from hw) 'd'
  .rcases q with ⟨e,_⟩ | ⟨_,x,q,qs,e,_,hq,_⟩ | ⟨e,_⟩
   .rw [e] at hw;exact absurd hw 'd'
   .rw [e] at hp;have hp:p∈qs:=by simpa using hp
    exact (hq p hp).imp h.letter.mpr h.mark.mpr
   .rw [e] at hw;exact absurd hw 'd'
  .exact absurd hw q.2.no.2.2.2.1
 .rw [h.row];have:=h.l1;simp;lia
 .rw [h.mrk.1];have:=h.m1;lia
 .rw [h.row] at he;have he:e∈V2 ls:=by simpa [edges] using he
  exact agY h.ld.nd he
 .rw [h.mrk.2] at he;exact agY h.md.nd he
theorem RulG.lets{R:List Rl}(h:RulG ns ls ms R)(hL:R6 R "row" L):L=ls:=by
 refine akU h.ld.nd (kJ _) hL.1 hL.2 (fun p=>?_) fun e he=>?_
 .rw [yN,h.row];simp
 .rw [h.row];simpa [edges] using he
theorem RulG.mrks{R:List Rl}(h:RulG ns ls ms R)(hM:R6 R "marks" M):M=ms:=by
 refine akU h.md.nd (kJ _) hM.1 hM.2 (fun p=>?_) fun e he=>?_
 .rw [yN,h.mrk.1]
 .rw [h.mrk.2];exact he
theorem RulesAt.more{ts:List Addr}{R:List Rl}(h:RulesAt H0 H a ts R)(S:Same H H'):RulesAt H0 H' a ts R:=⟨h.rows.same S,h.nd,h.new,h.same.trans S⟩
theorem yV{b:Bool}{R:List Rl}{H8:Hp}{ts:List Addr}{w:Str}(RA:RulesAt H H8 r ts R)(P:RulP ns ls ms b n R)(hn:n<=100)(hw:flagW w)(hf:w=("figures" : Str)->Q0 ns=false) :
  cC K "list" (V.ref r) H8/\1<=sizeLine/\∀ p:Addr,H8 p=none->nK (V.ref r) [V.ref p] (A0 H8 p (HO.tup [V.str w])) fun x H1=>∃ ts R,RulesAt H H1 r ts R/\RulP ns ls ms b (n+1) R:=by
 refine ⟨Q7 RA.rows.top,by decide,fun p np=>?_⟩;have S:Same H8 (A0 H8 p (HO.tup [V.str w])):=Same.new np;have hl:=P.len;exact appOk (S _ _ RA.rows.top) (by rw [A6,RA.rows.len];exact L3 'a') ⟨_,_,RA.grow S np (z:=(w,[])) A5,P.flag hw hf⟩
theorem RulG.name_letter{R:List Rl}(h:RulG ns ls ms R)(hp:p∈(D0 R).map (·.1)){k:Int}(k0:0<=k)(k1:k<16)(hk:Q2 ns k p):p∈ls:=by
 obtain ⟨b,P,hb⟩:=h.p;obtain ⟨⟨q,j⟩,hq,rfl⟩:=D8.mp hp;obtain ⟨z,hz,ht,_⟩:=mem_pairs.mp hq
 rcases P.each z hz with rfl | ⟨rfl,_⟩ | ho | ⟨e,hw⟩
 .rw [W2.2.2 'g'] at ht;exact ht
 .rw [W2.2.2 (.inr 'g')] at ht;obtain ⟨i,hi,pi⟩:=h.md.pc _ ht;unfold MarkS at hi
  have:=hk.inj pi k0 'a' 'a' 'a'
  lia
 .obtain ⟨i,hi,pi⟩:=P.oi z hz ho _ ht;have hi:=OS_lt hi
  have:=hk.inj pi k0 'a' 'a' 'a'
  lia
 .obtain ⟨w,ps⟩:=z;obtain rfl:ps=[]:=e;rw [yT hw] at ht;cases ht
theorem p9(c d:Nat):(L4 c d).cps.toList=[c,d]:=rfl
theorem gS(c:Nat):(one c).cps.toList=[c]:=rfl
theorem RulG.closed{R:List Rl}(h:RulG ns ls ms R){c d e:Nat}(h1:one c∈(D0 R).map (·.1))(h2:L4 c d∈(D0 R).map (·.1))(h3:L4 d e∈(D0 R).map (·.1)):one e∈(D0 R).map (·.1):=by
 obtain ⟨b,P,hb⟩:=h.p;obtain ⟨n,W⟩:=h.lw;have pair:∀ {x y:Nat},L4 x y∈ls->∃ m:Int,0<=m/\m<n/\y=K2 ns m:=fun {x y} hm=>by
  obtain ⟨k,_,_,q | ⟨m,m0,m1,q⟩⟩:=W.each _ hm
  .have:=congrArg (fun z:Str=>z.cps.toList.length) q
   simp [p9,gS] at this
  .refine ⟨m,m0,m1,?_⟩
   have:=congrArg (fun z:Str=>z.cps.toList) q
   rw [p9] at this;have e2:(one (K2 ns k)++one (K2 ns m)).cps.toList=[K2 ns k,K2 ns m]:=rfl;rw [e2] at this
   simpa using (o4.inj this).2
 obtain ⟨k,hk,pk⟩:=P.dis.pc _ h2;have hkk:0<=k/\k<83:=by
  rcases hk with q | q | q
  .unfold LetS at q;lia
  .have:=OS_lt q;lia
  .have:=q.2;unfold MarkS at this;lia
 have ek:c=K2 ns k:=by
  obtain ⟨r,e1,_⟩:=pk;rw [p9] at e1;exact (o4.inj e1).1
 have pc1:Q2 ns k (one c):=⟨[],by rw [<- ek];rfl,by simp,by simp⟩
 have k16:k<16:=by
  rcases hk with q | q | q
  .exact q.2
  .exfalso
   have:=P.dis.uq _ h1 _ h2 k (by have:=OS_lt q;lia) hkk.2 pc1 pk
   have:=congrArg (fun z:Str=>z.cps.toList.length) this
   simp [p9,gS] at this
  .exfalso
   have q2:=q.2;unfold MarkS at q2
   have:=P.dis.uq _ h1 _ h2 k 'a' hkk.2 pc1 pk
   have:=congrArg (fun z:Str=>z.cps.toList.length) this
   simp [p9,gS] at this
 obtain ⟨m,m0,m1,ed⟩:=pair (h.name_letter h2 hkk.1 k16 pk);have n1:=W.n1;obtain ⟨k3,hk3,pk3⟩:=P.dis.pc _ h3;have pm:Q2 ns m (L4 d e):=by
  obtain ⟨r,e1,hr,hr2⟩:=pk3;rw [p9] at e1;refine ⟨[e],by rw [<- ed];rfl,by simp,fun x hx=>hr2 x ?_⟩;rw [<- (o4.inj e1).2];exact hx
 obtain ⟨m',m0',m1',ee⟩:=pair (h.name_letter h3 m0 'a' pm);rw [ee]
 have:=h.letter.mpr (W.all m' m0' m1')
 exact D8.mpr ⟨_,this,rfl⟩
theorem RulG.str{R:List Rl}(h:RulG ns ls ms R):∀ z∈R,∀ y∈z.1::z.2,W0 y=true:=fun z hz y hy=>by
 have pl:∀ p∈ls,W0 p=true:=fun p hp=>by obtain ⟨k,_,q⟩:=h.ld.pc p hp;exact (gG q.ok.1).1
 have pm:∀ p∈ms,W0 p=true:=fun p hp=>by obtain ⟨k,_,q⟩:=h.md.pc p hp;exact (gG q.ok.1).1
 have pt:∀ p∈M9 z,W0 p=true:=fun p hp=>by
  obtain ⟨k,q⟩:=h.pc (D8.mpr ⟨_,mem_pairs.mpr ⟨z,hz,hp,rfl⟩,rfl⟩);exact (gG q.ok.1).1
 have pw:∀ w:Str,(w="row"\/w="marks"\/w="great"\/w="as"\/w="over"\/w="figures"\/w="behind"\/w="blanks")->W0 w=true:=fun w hw=>by
  rcases hw with rfl | rfl | rfl | rfl | rfl | rfl | rfl | rfl <;> decide +kernel
 rcases h.each hz with rfl | rfl | q | q
 .rcases E7.mp hy with rfl | hy
  .exact pw _ 'g'
  .exact pl y hy
 .rcases E7.mp hy with rfl | hy
  .exact pw _ (.inr 'g')
  .exact pm y hy
 .rcases q with ⟨w,l,fs,e,hl,_⟩ | ⟨w,p,q,qs,e,hq,y4,_⟩ | ⟨w,_⟩
  .rw [W2.1 w,e] at pt;rw [w,e] at hy
   rcases E7.mp hy with rfl | hy
   .exact pw _ (.inr (.inr 'g'))
   .rcases E7.mp hy with rfl | hy
    .exact pl _ hl
    .exact pt y hy
  .rw [W2.2.1 w,e] at pt;rw [w,e] at hy
   rcases E7.mp hy with rfl | hy
   .exact pw _ (.inr (.inr (.inr 'g')))
   .rcases E7.mp hy with rfl | hy
    .exact pt _ 'c'
    .rcases E7.mp hy with rfl | hy
     .exact pl _ hq
     .exact (y4 y hy).elim (pl y) (pm y)
  .rw [W2.2.2 (.inr (.inr w))] at pt;rw [w] at hy
   rcases E7.mp hy with rfl | hy
   .exact pw _ (.inr (.inr (.inr (.inr 'g'))))
   .exact pt y hy
 .rw [q.1] at hy;have hy:y=z.1:=by simpa using hy
  rw [hy]
  rcases q.2 with e | e | e <;> rw [e] <;> decide +kernel
noncomputable def spLaw (K:PySem.W.Frag):Sp:=fun vs H Q _=>∃ (a:Addr) (ns:List Int),vs=[.ref a]/\D9 K H a (ns.map V.int)/\ns.length<=63/\∀ H',Q (.bl true) H'
noncomputable def aiJ (K:PySem.W.Frag):Sp:=fun vs H Q _=>∃ (a:Addr) (ns:List Int),vs=[.ref a]/\D9 K H a (ns.map V.int)/\∀ l ts R ls ms H',Same H H'->H l=none->IsRules H' l ts R->RulG ns ls ms R->Q (.ref l) H'
noncomputable def rIntU:List V->Hp->VK->Prop
 | [.bl b],H,Q=>Q (.int (if b then 1 else 0)) H
 | [.str x],H,Q=>PySem.NumText.AllDigits x.cps.toList/\1<=x.length/\x.length<=640/\Q (.int ((bW x.cps.toList:Nat):Int)) H
 | _,_,_=>False
theorem tO : QCall X (.type "int") rIntU:=⟨by
 intro pins s Y H xs us Q I r h
 match xs,h with
 | [.bl b],h=>exact ajY pins s Y H _ us Q I r (.inr ⟨b,rfl,h⟩)
 | [.str x],h=>
  obtain ⟨h1,h2,h3,q⟩:=h;obtain ⟨u,rfl,r1⟩:=vals1 r;obtain ⟨t,rfl⟩:=r1;have G9:x.cps.toList≠[]:=fun e=>by
   have:x.cps.toList.length=x.length:=by simp [Str.length]
   rw [e] at this;simp at this;lia
  exact PySem.W.KIN.call_text (PySem.intText_digits h1 G9 'a') h3 ⟨V.int ((bW x.cps.toList:Nat):Int),H,I.tok _,⟨_,rfl⟩,q⟩⟩
theorem arv{b:Bool} : rIntU [.bl b] H Q=Q (.int (if b then 1 else 0)) H:=rfl
theorem arw{x:Str} : rIntU [.str x] H Q=(PySem.NumText.AllDigits x.cps.toList/\1<=x.length/\x.length<=640/\Q (.int ((bW x.cps.toList:Nat):Int)) H):=rfl
noncomputable def rInD (K:PySem.W.Frag) (x y:V) (H:Hp) (Q:VK):Prop:=∃ (d:PyData) (ds:List PyData),Dn K H x d/\Dn K H y (.list ds)/\min (aM ds) d.depth<=60/\Q (.bl (ds.any fun e=>P7 e d)) H
theorem q_inD(hu:X.A.units+64<cLine)(hK:X.K=K:=by rfl):QOp X (compareOp .In) (rInD K):=by
 subst hK;refine ⟨?_⟩;sleep 0;obtain ⟨d,ds,h1,h2,h3,q⟩:=h;obtain ⟨c1,as1,r1⟩:=h1.reads I rfl rx;obtain ⟨c2,qM,r2⟩:=h2.reads I rfl ry;exact SeqAt.in_list_reads r2 r1 c2 c1 'a' ⟨.bl _,H,I,rfl,q⟩
theorem arx : rInD K x y H Q=∃ (d:PyData) (ds:List PyData),Dn K H x d/\Dn K H y (.list ds)/\min (aM ds) d.depth<=60/\Q (.bl (ds.any fun e=>P7 e d)) H:=rfl
end L2
namespace L2
open PySem PySem.Spec PyProof.Rows
open PySem.Builtin PySem.Builtin.Str PySem.StrLaws
theorem tP{s sub:Str}{hi:Nat}(h1:sub.length=1):∀ (n a:Nat) (st:Array Nat×Nat),st.snd<=a->
  (forIn (List.range' a n) st (occBody s sub hi 1)).run.fst.toList.isEmpty=(st.fst.toList.isEmpty&&(List.range' a n).all fun i=>!(decide (i+1<=hi)&&subAt s sub i))
 | 0,a,st,_=>by simp
 | n+1,a,st,h2=>by
  rw [List.range'_succ,List.forIn_cons,List.all_cons];unfold occBody
  by_cases hc:a+1<=hi/\subAt s sub a=true
  .have e0:(!(decide (a+1<=hi)&&subAt s sub a))=false:=by rw [decide_eq_true hc.1,hc.2];rfl
   rw [e0,jR,Bool.and_false]
   by_cases hs:st.fst.size<1
   .rw [if_pos ⟨⟨⟨hs,h2⟩,by lia⟩,hc.2⟩]
    have:=tP (s:=s) (hi:=hi) h1 n (a+1) (st.fst.push a,a+sub.length) (by simp only;lia)
    refine this.trans ?_;rw [Array.toList_push]
    simp
   .rw [if_neg (fun h=>hs h.1.1.1)]
    have:=tP (s:=s) (hi:=hi) h1 n (a+1) (st.fst,st.snd) (by simp only;lia)
    refine this.trans ?_;have e1:st.fst.toList.isEmpty=false:=by
     cases e:st.fst.toList with
     | nil=>
      have:=congrArg Y8 e
      simp at this;rw [this] at hs;simp at hs
     | cons x r=>rfl
    rw [e1];rfl
  .rw [if_neg (fun h=>hc ⟨by lia,h.2⟩)]
   have:=tP (s:=s) (hi:=hi) h1 n (a+1) (st.fst,st.snd) (by simp only;lia)
   refine this.trans ?_;have e0:(!(decide (a+1<=hi)&&subAt s sub a))=true:=by
    cases e:(decide (a+1<=hi)&&subAt s sub a) with
    | false=>rfl
    | true=>rw [T5,decide_eq_true_eq] at e;exact absurd e hc
   rw [e0,Bool.true_and]
theorem aoQ(x:Str)(c:Nat):(!(occurrences x ⟨#[c]⟩ 0 x.length 1).isEmpty)=decide (c∈x.cps.toList):=by
 rw [occ_eq,tP rfl _ _ _ (B5 0)];rw [aL,decide_eq_true_eq];have hl:x.cps.toList.length=x.length:=by simp [Str.length]
 constructor
 .intro h;rw [mZ,Bool.and_eq_false_iff] at h
  rcases h with h | h
  .cases h
  .rw [List.all_eq_false] at h;obtain ⟨i,_,h⟩:=h;rw [Bool.not_not_eq,T5,akt,beq_iff_eq] at h;exact N2 h.2
 .intro h;obtain ⟨i,hi⟩:=List.mem_iff_getElem?.mp h;have C9:i<x.length:=by rw [<- hl];exact (G2.mp hi).1
  rw [mZ,Bool.and_eq_false_iff];refine .inr (List.all_eq_false.mpr ⟨i,by simp [List.mem_range'];lia,?_⟩);rw [akt,hi,decide_eq_true 'a']
  simp
noncomputable def ary:List V->Hp->VK->Prop:=fun xs H Q=>∃ n,xs=[.int n]/\n.natAbs.log2<1920/\Q (.str (Str.ofString (toString n))) H
theorem aoR : QCall X (.type "str") ary:=⟨by
 intro pins s Y H xs us Q I r h;obtain ⟨n,rfl,hn,q⟩:=h
 cases r with
 | cons r1 r2=>
  cases r2
  obtain ⟨t,rfl⟩:=r1;exact PySem.P.str_of_int hn ⟨.str _,H,I.tok _,⟨_,rfl⟩,q⟩⟩
theorem aeY:∀ (k fuel n:Nat) (ds:List Char),n<10 ^ (k+1)->(Nat.toDigitsCore 10 fuel n ds).length<=k+1+ds.length
 | k,0,n,ds,_=>by simp [Nat.toDigitsCore]
 | 0,fuel+1,n,ds,h=>by
  unfold Nat.toDigitsCore
  have:n / 10=0:=by lia
  simp only [this,if_true,K4];lia
 | k+1,fuel+1,n,ds,h=>by
  unfold Nat.toDigitsCore;simp only
  split
  .simp;lia
  .have:=aeY k fuel (n / 10) (Nat.digitChar (n % 10)::ds) (by rw [Nat.div_lt_iff_lt_mul 'h'];rw [Nat.pow_succ] at h;exact h)
   simp at this ⊢
   lia
noncomputable def D5S:Str:=Str.ofString "0123456789"
theorem amD:D5S.cps.toList=[48,49,50,51,52,53,54,55,56,57]:=by decide +kernel
theorem aoS(c:Nat):decide (c∈D5S.cps.toList)=figO c:=by
 rw [amD];unfold figO;rw [aL,T5,decide_eq_true_eq,decide_eq_true_eq,decide_eq_true_eq];simp only [E7,jO,or_false];omega
theorem yW(c:Nat):(!(occurrences (Str.ofString "0123456789") ⟨#[c]⟩ 0 (Str.ofString "0123456789").length 1).isEmpty)=figO c:=by
 rw [aoQ];exact aoS c
noncomputable def rTupA (K:PySem.W.Frag):R2:=fun x y H Q=>∃ a b xs ys,x=.ref a/\y=.ref b/\C6 K H a xs/\C6 K H b ys/\ys≠[]/\xs.length+ys.length<=sizeLine/\∀ p H',Same H H'->C6 K H' p (xs++ys)->(H' p=some (.tup (xs++ys))\/xs=[]/\p=b)->Q (.ref p) H'
theorem arz(hK:X.K=K:=by rfl):QOp X (binaryOp .Add) (rTupA K):=by
 subst hK;refine ⟨?_⟩;sleep 0;obtain ⟨a,b,xs,ys,rfl,rfl,ha,hb,hy,hz,q⟩:=h
 by_cases hx:xs=[]
 .subst hx
  cases rx
  cases ry
  obtain ⟨its,r1,p1,_⟩:=I.tuple ha;obtain ⟨its2,r2,p2,_⟩:=I.tuple hb;obtain ⟨⟨cls,dd,data,sl⟩,ho,hc,n,hd⟩:=id p1;obtain ⟨⟨cls2,f7,data2,W5⟩,m7,Q9,n2,O5⟩:=id p2;simp only at hc hd Q9 O5;subst hc hd Q9 O5;exact concat_meets ⟨_,ho,rfl⟩ ⟨_,m7,rfl⟩ noFill_tuple_add seq_tuple_add PySem.F.slot_tuple_add PySem.F.entry_tuple_add (PySem.F.args_tuple_add_2 _ _)
   (tuple_addW0 a b its.toArray its2.toArray n n2 dd f7 sl W5 (by simp [r1.nil_iff.mpr rfl])) ⟨ho,m7,⟨.ref b,H,I,rfl,q b H (aQ H) hb (.inr ⟨rfl,rfl⟩)⟩⟩
 .exact aj5 pins s Y H _ _ v u Q I rx ry ⟨a,b,xs,ys,rfl,rfl,ha,hb,hx,hz,fun e=>absurd e hy,fun _ p np=>q p _ (Same.new np) (.of A5) (.inl A5)⟩
theorem arA : rTupA K (.ref a) (.ref b) H Q=∃ xs ys,C6 K H a xs/\C6 K H b ys/\ys≠[]/\xs.length+ys.length<=sizeLine/\∀ p H',Same H H'->C6 K H' p (xs++ys)->(H' p=some (.tup (xs++ys))\/xs=[]/\p=b)->Q (.ref p) H':=
 propext ⟨fun ⟨_,_,xs,ys,e1,e2,h⟩=>(by cases e1;cases e2;exact ⟨xs,ys,h⟩),fun ⟨xs,ys,h⟩=>⟨a,b,xs,ys,rfl,rfl,h⟩⟩
end L2
namespace L2
open PySem PySem.Spec PyProof.Rows
theorem arB{d:Value}(h:(us++[d]).length=3):∃ u1 u2,us=[u1,u2]:=by
 match us,h with
 | [a,b],_=>exact ⟨a,b,rfl⟩
 | [],h=>simp at h
 | [_],h=>simp at h
 | _::_::_::r,h=>simp at h
theorem kT(g:List Str)(z:Str):(valV (kvOf g) (Sum.inr z)).isSome=decide (z∈g):=by
 rw [<- xM];unfold valV;rw [Option.isSome_map,List.isSome_find?]
theorem oJ{y rest:List Nat}(h:z.cps.toList=pre++(y++rest)):cutS z (some (pre.length:Int)) (some ((pre.length:Int)+(y.length:Int)))=⟨y.toArray⟩:=by
 have hl:z.length=pre.length+(y.length+rest.length):=by
  have:=congrArg Y8 h
  simp [Str.length] at this ⊢
  lia
 apply Str.ext'
 apply nC.mp
 rw [agF,h];have e1:HT.sIx z.length 0 (some (pre.length:Int))=pre.length:=by rw [HT.sIx_nat];lia
 have e2:HT.sIx z.length z.length (some ((pre.length:Int)+(y.length:Int)))=pre.length+y.length:=by
  rw [show (pre.length:Int)+(y.length:Int)=((pre.length+y.length:Nat):Int) by lia,HT.sIx_nat];lia
 rw [e1,e2,List.drop_left,show pre.length+y.length-pre.length=y.length by lia,List.take_left]
theorem tQ{c:Nat}(h:z.cps.toList=pre++[c]):cutS z (some (pre.length:Int)) (some ((pre.length:Int)+2))=one c:=by
 have hl:z.length=pre.length+1:=by
  have:=congrArg Y8 h
  simp [Str.length] at this ⊢
  lia
 apply Str.ext'
 apply nC.mp
 rw [agF,h];have e1:HT.sIx z.length 0 (some (pre.length:Int))=pre.length:=by rw [HT.sIx_nat];lia
 have e2:HT.sIx z.length z.length (some ((pre.length:Int)+2))=pre.length+1:=by
  rw [show (pre.length:Int)+2=((pre.length+2:Nat):Int) by lia,HT.sIx_nat];lia
 rw [e1,e2,List.drop_left,show pre.length+1-pre.length=1 by lia];rfl
theorem tR{r:List Nat}{c:Nat} : G4 (pre++c::r) (pre.length:Int)=some c:=N9 (by rw [fP (B5 _),Nat.sub_self];rfl)
theorem afE:∀ (zs acc:List Str),Z0 (kvOf acc) (kvOf zs)=kvOf (G3 acc zs)
 | [],acc=>rfl
 | z::zs,acc=>by
  show Z0 (putK (kvOf acc) (Sum.inr z) (.bl true)) (kvOf zs)=kvOf (G3 (dd acc z) zs);rw [agD,afE zs]
noncomputable def ak0:Sp:=fun vs H Q _=>∃ (z:Str) (pre rest:List Nat),vs=[.str z,.int pre.length]/\z.length<=1000/\z.cps.toList=pre++rest/\Q (.str ⟨(rest.takeWhile figO).toArray⟩) H
theorem amE(h:(us++[]).length=3):∃ u1 u2 u3,us=[u1,u2,u3]:=by
 match us,h with
 | [a,b,c],_=>exact ⟨a,b,c,rfl⟩
 | [],h=>simp at h
 | [_],h=>simp at h
 | [_,_],h=>simp at h
 | _::_::_::_::r,h=>simp at h
theorem lenL(z:Str):z.cps.toList.length=z.length:=by simp [Str.length]
noncomputable def partG (g:List Str):List Nat->Option Str
 | []=>none
 | [c]=>if one c∈g then some (one c) else none
 | c::d::_=>if L4 c d∈g then some (L4 c d) else if one c∈g then some (one c) else none
theorem eE(g:List Str)(c:Nat):partG g [c]=if one c∈g then some (one c) else none:=rfl
theorem l7(g:List Str)(c d:Nat)(r:List Nat):partG g (c::d::r)=if L4 c d∈g then some (L4 c d) else if one c∈g then some (one c) else none:=rfl
noncomputable def partF (w:Bool) (g:List Str):List Nat->Option Str
 | []=>none
 | c::r=>if (w&&figO c)=true then some ⟨((c::r).takeWhile figO).toArray⟩ else partG g (c::r)
theorem cH(w:Bool)(g:List Str)(c:Nat)(r:List Nat):partF w g (c::r)=if (w&&figO c)=true then some ⟨((c::r).takeWhile figO).toArray⟩ else partG g (c::r):=rfl
theorem afF{g:List Str}{y:Str} : ∀ {l:List Nat},partG g l=some y->∃ rest,l=y.cps.toList++rest/\1<=y.length
 | [],h=>by cases h
 | [c],h=>by
  rw [eE] at h
  by_cases hc:one c∈g
  .rw [if_pos hc] at h;cases h;exact ⟨[],rfl,by show 1<=1;decide⟩
  .rw [if_neg hc] at h;cases h
 | c::d::r,h=>by
  rw [l7] at h
  by_cases h2:L4 c d∈g
  .rw [if_pos h2] at h;cases h;exact ⟨r,rfl,by show 1<=2;decide⟩
  .rw [if_neg h2] at h
   by_cases hc:one c∈g
   .rw [if_pos hc] at h;cases h;exact ⟨d::r,rfl,by show 1<=1;decide⟩
   .rw [if_neg hc] at h;cases h
theorem ahI{g:List Str}(h:∀ x,x∈g↔x∈g'):∀ l,partG g l=partG g' l
 | []=>rfl
 | [c]=>by
  rw [eE,eE]
  by_cases hc:one c∈g
  .rw [if_pos hc,if_pos ((h _).mp hc)]
  .rw [if_neg hc,if_neg (fun z=>hc ((h _).mpr z))]
 | c::d::r=>by
  rw [l7,l7]
  by_cases h2:L4 c d∈g
  .rw [if_pos h2,if_pos ((h _).mp h2)]
  .rw [if_neg h2,if_neg (fun z=>h2 ((h _).mpr z))]
   by_cases hc:one c∈g
   .rw [if_pos hc,if_pos ((h _).mp hc)]
   .rw [if_neg hc,if_neg (fun z=>hc ((h _).mpr z))]
theorem ahJ{w:Bool}{g:List Str}(h:∀ x,x∈g↔x∈g')(l:List Nat):partF w g l=partF w g' l:=by
 cases l with
 | nil=>rfl
 | cons c r=>rw [cH,cH,ahI h]
theorem afG{w:Bool}{g:List Str}{y:Str}{l:List Nat}(h:partF w g l=some y):∃ rest,l=y.cps.toList++rest/\1<=y.length:=by
 cases l with
 | nil=>cases h
 | cons c r=>
  rw [cH] at h
  by_cases hw:(w&&figO c)=true
  .rw [if_pos hw] at h;cases h;rw [T5] at hw;refine ⟨(c::r).dropWhile figO,(List.takeWhile_append_dropWhile).symm,?_⟩;show 1<=((c::r).takeWhile figO).length;rw [jH hw.2]
   simp
  .rw [if_neg hw] at h;exact afF h
noncomputable def cutFn (w:Bool) (g:List Str):Nat->List Nat->Nat×List Str
 | 0,_=>(0,[])
 | n+1,l=>match partF w g l with
  | none=>(0,[])
  | some y=>((cutFn w g n (l.drop y.length)).1+y.length,y::(cutFn w g n (l.drop y.length)).2)
noncomputable def cutF (w:Bool) (g:List Str) (l:List Nat):Nat×List Str:=cutFn w g l.length l
theorem afH(w:Bool)(g:List Str):∀ (n m:Nat) (l:List Nat),l.length<=n->l.length<=m->cutFn w g n l=cutFn w g m l
 | 0,0,_,_,_=>rfl
 | 0,m+1,l,h,_=>by
  have:l=[]:=j3.mp 'a'
  subst this;rfl
 | n+1,0,l,_,h=>by
  have:l=[]:=j3.mp 'a'
  subst this;rfl
 | n+1,m+1,l,h1,h2=>by
  cases e:partF w g l with
  | none=>show (match partF w g l with | none=>_ | some y=>_)=(match partF w g l with | none=>_ | some y=>_);rw [e]
  | some y=>
   obtain ⟨rest,e1,e2⟩:=afG e;have hd:(l.drop y.length).length=l.length-y.length:=X1
   have:=afH w g n m (l.drop y.length) 'a' 'a'
   show (match partF w g l with | none=>_ | some y=>_)=(match partF w g l with | none=>_ | some y=>_);rw [e]
   dsimp only
   rw [this]
theorem gT{w:Bool}{g:List Str}{l:List Nat}(h:partF w g l=none):cutF w g l=(0,[]):=by
 unfold cutF;cases hl:l.length with
 | zero=>rfl
 | succ n=>
  show (match partF w g l with | none=>_ | some y=>_)=_;rw [h]
theorem kU(w:Bool)(g:List Str):cutF w g []=(0,[]):=rfl
theorem eF{w:Bool}{g:List Str}{y:Str}{l:List Nat}(h:partF w g l=some y):∃ rest,l=y.cps.toList++rest/\cutF w g l=((cutF w g rest).1+y.length,y::(cutF w g rest).2)/\1<=y.length:=by
 obtain ⟨rest,e1,e2⟩:=afG h;refine ⟨rest,e1,?_,e2⟩;have el:l.length=y.length+rest.length:=by rw [e1,C4,lenL]
 have ed:l.drop y.length=rest:=by rw [e1,<- lenL,List.drop_left]
 unfold cutF;cases hl:l.length with
 | zero=>lia
 | succ k=>
  show (match partF w g l with | none=>_ | some y=>_)=_;rw [h]
  dsimp only
  rw [ed,afH w g k rest.length rest 'a' (B5 _)]
theorem afI{w:Bool}{g:List Str}(h:∀ x,x∈g↔x∈g')(l:List Nat):cutF w g l=cutF w g' l:=by
 have:∀ n l,cutFn w g n l=cutFn w g' n l:=by
  intro n
  induction n with
  | zero=>intro l;rfl
  | succ n ih=>
   intro l;show (match partF w g l with | none=>_ | some y=>_)=(match partF w g' l with | none=>_ | some y=>_);rw [ahJ h]
   cases partF w g' l with
   | none=>rfl
   | some y=>dsimp only;rw [ih]
 exact this _ _
theorem tS{w:Bool}{g:List Str} : ∀ (n:Nat) (l:List Nat),l.length<=n->(cutF w g l).1<=l.length/\(cutF w g l).2.length<=l.length/\∀ y∈(cutF w g l).2,∀ c∈y.cps.toList,c∈l
 | 0,l,h=>by
  have:l=[]:=j3.mp 'a'
  subst this;rw [kU];exact ⟨B5 _,B5 _,by simp⟩
 | n+1,l,h=>by
  cases e:partF w g l with
  | none=>rw [gT e];exact ⟨F9 _,F9 _,by simp⟩
  | some y=>
   obtain ⟨rest,e1,e2,e3⟩:=eF e;have hl:l.length=y.length+rest.length:=by rw [e1,C4,lenL]
   obtain ⟨a,b,c⟩:=tS (w:=w) (g:=g) n rest 'a';rw [e2];refine ⟨by dsimp only;lia,by dsimp only;rw [K4];lia,fun z hz x hx=>?_⟩;rw [e1]
   rcases E7.mp hz with r | r
   .rw [r] at hx;exact E1.mpr (.inl hx)
   .exact E1.mpr (.inr (c z r x hx))
noncomputable def W8 (w:Bool) (g:List Str) (z:Str):Prop:=(cutF w g z.cps.toList).1=z.length
noncomputable def ak1:Sp:=fun vs H Q _=>∃ (d:Addr) (z:Str) (g:List Str) (pre:List Nat) (c:Nat) (r:List Nat) (w:Bool) (y:Str),vs=[.ref d,.str z,.int pre.length,.bl w]/\H d=some (.dK (kvOf g))/\z.length<=1000/\z.cps.toList=pre++c::r/\partF w g (c::r)=some y/\Q (.str y) H
noncomputable def tT (K:PySem.W.Frag):Sp:=fun vs H Q _=>∃ (a:Addr) (z:Str) (ks:List Str) (w:Bool),vs=[.ref a,.str z,.bl w]/\D9 K H a (ks.map V.str)/\ks.length<=1000/\z.length<=1000/\W8 w ks z/\
 ∀ l H',H l=none->Same H H'->H' l=some (.lst ((cutF w ks z.cps.toList).2.map V.str))->Q (.ref l) H'
noncomputable abbrev K0:=Int×Int×List Int×Int
noncomputable def addM (U:List K0) (p:Int):List K0:=match U.getLast? with
 | none=>[(0,0,[p],0)]
 | some u=>U.dropLast++[(u.1,u.2.1,u.2.2.1++[p],u.2.2.2)]
noncomputable def addS (U:List K0) (s:Tr):List K0:=if s.1=0 then addM U s.2.1 else U++[(s.1,s.2.1,[],s.2.2)]
noncomputable def UnAt (H:Hp) (e:Addr×Addr) (u:K0):Prop:=H e.1=some (.tup [.int u.1,.int u.2.1,.ref e.2,.int u.2.2.2])/\H e.2=some (.lst (u.2.2.1.map V.int))
structure UnI(H0 H:Hp)(l:Addr)(es:List (Addr×Addr))(U:List K0):Prop where
 top:H l=some (.lst (es.map fun e=>V.ref e.1))
 row:Paired (UnAt H) es U
 nd:(l::es.map (·.2)).Nodup
 new:∀ a∈l::es.map (·.2),H0 a=none
 same:Same H0 H
theorem UnI.more{l:Addr}{es:List (Addr×Addr)}{U:List K0}(h:UnI H0 H l es U)(S:Same H H'):UnI H0 H' l es U:=⟨S _ _ h.top,M5 h.row fun _ _ e=>⟨S _ _ e.1,S _ _ e.2⟩,h.nd,h.new,h.same.trans S⟩
theorem UnI.live{l:Addr}{es:List (Addr×Addr)}{U:List K0}(h:UnI H0 H l es U)(ha:a∈es.map (·.2)):∃ xs,H a=some (.lst xs):=by
 obtain ⟨e,he,rfl⟩:=D8.mp ha;obtain ⟨i,hi,q⟩:=a0.mp he;obtain ⟨u,_,hu⟩:=Paired.at h.row (i:=i) (a:=e) (by rw [K8 hi,q]);exact ⟨_,hu.2⟩
theorem UnI.push{l m t:Addr}{es:List (Addr×Addr)}{U:List K0}(h:UnI H0 H l es U)(nm:H m=none){k w c:Int}(nt:A0 H m (.lst []) t=none) :
  UnI H0 (A0 (A0 (A0 H m (.lst [])) t (.tup [.int k,.int w,.ref m,.int c])) l (.lst ((es.map fun e=>V.ref e.1)++[V.ref t]))) l (es++[(t,m)]) (U++[(k,w,[],c)]):=by
 have nlm:l≠m:=fun e=>by have:=h.top;rw [e,nm] at this;cases this
 have nmt:m≠t:=fun e=>by rw [<- e,A5] at nt;cases nt
 have S:Same H (A0 (A0 H m (.lst [])) t (.tup [.int k,.int w,.ref m,.int c])):=(Same.new nm).trans (Same.new nt);have hl:=S _ _ h.top;have nlt:l≠t:=fun e=>by rw [<- e,(Same.new nm) _ _ h.top] at nt;cases nt
 have vM:=V8.mp h.nd;refine ⟨by rw [A5,E2];rfl,Paired.snoc (nU h.row fun e he u hu=>⟨?_,?_⟩) ⟨?_,?_⟩,?_,fun a ha=>?_,(h.same.trans S).put (h.new l O0)⟩
 .rw [B1 (fun q=>by have:=S _ _ hu.1;rw [q,hl] at this;cases this)];exact S _ _ hu.1
 .rw [B1 (fun q=>vM.1 (by rw [<- q];exact D8.mpr ⟨e,he,rfl⟩))];exact S _ _ hu.2
 .rw [B1 nlt.symm,A5]
 .rw [B1 nlm.symm,B1 nmt,A5];rfl
 .rw [E2];exact sM h.nd fun q=>by
   rcases E7.mp q with q | q
   .exact nlm q.symm
   .obtain ⟨xs,hx⟩:=h.live q;rw [nm] at hx;cases hx
 .rw [E2] at ha
  rcases E7.mp ha with q | q
  .rw [q];exact h.new l O0
  .rcases E1.mp q with q | q
   .exact h.new a (N4 _ q)
   .rw [F6.mp q];exact h.same.free nm
theorem UnI.mark{l:Addr}{es:List (Addr×Addr)}{e:Addr×Addr}{U:List K0}{u:K0}(h:UnI H0 H l (es++[e]) (U++[u]))(p:Int) :
  UnI H0 (A0 H e.2 (.lst (u.2.2.1.map V.int++[V.int p]))) l (es++[e]) (U++[(u.1,u.2.1,u.2.2.1++[p],u.2.2.2)]):=by
 obtain ⟨hr,he⟩:=nS h.row;have vM:=h.nd;have nl:l≠e.2:=fun q=>(V8.mp vM).1 (by rw [q];simp)
 have nn:∀ x∈es,x.2≠e.2:=fun x hx q=>by
  have:=(V8.mp vM).2
  rw [E2,bO] at this;exact this.2.2 x.2 (D8.mpr ⟨x,hx,rfl⟩) e.2 'c' q
 have nt:∀ {x:Addr×Addr} {v:K0},UnAt H x v->x.1≠e.2:=fun {x v} hx q=>by
  have:=hx.1;rw [q,he.2] at this;cases this
 refine ⟨by rw [B1 nl];exact h.top,Paired.snoc (nU hr fun x hx v hv=>⟨?_,?_⟩) ⟨?_,?_⟩,h.nd,h.new,h.same.put (h.new _ (N4 _ 'c'))⟩
 .rw [B1 (nt hv)];exact hv.1
 .rw [B1 (nn x hx)];exact hv.2
 .rw [B1 (nt he)];exact he.1
 .rw [A5,E2];rfl
noncomputable def IsUn (H:Hp) (l:Addr) (U:List K0):Prop:=∃ es:List (Addr×Addr),H l=some (.lst (es.map fun e=>V.ref e.1))/\Paired (fun e (u:K0)=>H e.1=some (.tup [.int u.1,.int u.2.1,.ref e.2,.int u.2.2.2])/\H e.2=some (.tup (u.2.2.1.map V.int))) es U
theorem IsUn.same{l:Addr}{U:List K0}(h:IsUn H l U)(S:Same H H'):IsUn H' l U:=
 let ⟨es,h1,h2⟩:=h
 ⟨es,S _ _ h1,M5 h2 fun _ _ e=>⟨S _ _ e.1,S _ _ e.2⟩⟩
noncomputable def E5 (R:List Rl):List Str:=keysP (D0 R)++X5 R
noncomputable def P1 (S:Str->List Tr) (ps:List Str):List K0:=(ps.flatMap S).foldl addS []
noncomputable def yX (C:Addr):Sp:=fun vs H Q _=>∃ (x j ll ml md:Addr) (g:Str->Str) (R:List Rl) (L M:List Str),vs=[.ref x]/\IsOrd C H x j ll ml md g R L M/\∀ l,H l=none->Q (.ref l) (A0 H l (.lst ((E5 R).map V.str)))
noncomputable def tU (C:Addr):Sp:=fun vs H Q _=>∃ (x j ll ml md:Addr) (p:Str) (g:Str->Str) (R:List Rl) (L M:List Str),vs=[.ref x,.str p]/\IsOrd C H x j ll ml md g R L M/\∀ r H',Same H H'->StepAt H' r (stepF R L M p)->Q (.ref r) H'
noncomputable def aiM (C:Addr):Sp:=fun vs H Q _=>∃ (x j ll ml md:Addr) (z:Str) (g:Str->Str) (R:List Rl) (L M:List Str),vs=[.ref x,.str z]/\IsOrd C H x j ll ml md g R L M/\(E5 R).length<=1000/\z.length<=1000/\W8 'f' (E5 R) z/\
 ∀ l H',H l=none->Same H H'->H' l=some (.lst ((cutF 'f' (E5 R) z.cps.toList).2.map V.str))->Q (.ref l) H'
theorem yY{R:List Rl}(h:p∉allKs R L M):stepF R L M p=[]:=by
 unfold stepF
 have:(putsL R L M).lookup p=none:=by
  rw [List.lookup_eq_none_iff];intro e he
  have:e.1∈allKs R L M:=by rw [<- agW];exact D8.mpr ⟨e,he,rfl⟩
  have ne:p≠e.1:=fun q=>h (by rw [q];exact this)
  simpa using ne
 rw [this];rfl
noncomputable def stepY (R:List Rl) (L M:List Str) (y:Str):List Tr:=if (hasW R "figures" && figO (y.cps.toList.headD 0))=true then [(1,((bW y.cps.toList:Nat):Int),0)] else stepF R L M y
theorem amF{R:List Rl}(h:hasW R "figures"=false)(L M:List Str):stepY R L M=stepF R L M:=by
 funext y
 unfold stepY;rw [h,jR,if_neg M4]
noncomputable def FigR (y:Str):Prop:=figO (y.cps.toList.headD 0)=true->PySem.NumText.AllDigits y.cps.toList
noncomputable def agZ (C:Addr):Sp:=fun vs H Q _=>∃ (x j ll ml md:Addr) (c:Nat) (r:List Nat) (y:Str) (g:Str->Str) (R:List Rl) (L M:List Str),vs=[.ref x,.str y]/\y.cps.toList=c::r/\y.length<=640/\IsOrd C H x j ll ml md g R L M/\(hasW R "figures"=true->FigR y)/\∀ r H',Same H H'->StepAt H' r (stepY R L M y)->Q (.ref r) H'
noncomputable def ag0 (K:PySem.W.Frag):Sp:=fun vs H Q _=>∃ (l:Addr) (p:Int) (H0:Hp) (es:List (Addr×Addr)) (U:List K0),vs=[.ref l,.int p]/\UnI H0 H l es U/\U.length<=10000/\(∀ u∈U,u.2.2.1.length<=10000)/\∀ es' H',UnI H0 H' l es' (addM U p)->Q .non H'
noncomputable def ag1 (C:Addr):Sp:=fun vs H Q _=>∃ (x l j ll ml md:Addr) (c:Nat) (r:List Nat) (y:Str) (g:Str->Str) (R:List Rl) (L M:List Str) (H0:Hp) (es:List (Addr×Addr)) (U:List K0),vs=[.ref x,.ref l,.str y]/\y.cps.toList=c::r/\y.length<=640/\IsOrd C H0 x j ll ml md g R L M/\(hasW R "figures"=true->FigR y)/\UnI H0 H l es U/\(stepY R L M y).length<=1000/\U.length<=9000/\(∀ u∈U,u.2.2.1.length<=9000)/\
 ∀ es' H',UnI H0 H' l es' ((stepY R L M y).foldl addS U)->Q .non H'
theorem amG{U:List K0}{p:Int} : (addM U p).length<=U.length+1:=by
 unfold addM;cases e:U.getLast? with
 | none=>simp
 | some u=>simp only [C4,List.length_dropLast,N3];lia
theorem ajr{U:List K0}{p:Int}(h:∀ u∈U,u.2.2.1.length<=n):∀ u∈addM U p,u.2.2.1.length<=n+1:=by
 unfold addM;cases e:U.getLast? with
 | none=>intro u hu;rw [F6.mp hu];simp
 | some v=>
  intro u hu
  rcases E1.mp hu with q | q
  .have:=h u ((List.dropLast_sublist U).subset q);lia
  .rw [F6.mp q]
   have:=h v (List.mem_of_getLast? e)
   simp only [C4,N3];lia
theorem amH{U:List K0}{s:Tr} : (addS U s).length<=U.length+1:=by
 unfold addS
 split
 .exact amG
 .simp
theorem ajs{U:List K0}{s:Tr}(h:∀ u∈U,u.2.2.1.length<=n):∀ u∈addS U s,u.2.2.1.length<=n+1:=by
 unfold addS
 split
 .exact ajr h
 .intro u hu
  rcases E1.mp hu with q | q
  .have:=h u q;lia
  .rw [F6.mp q];exact F9 _
theorem tV:∀ (ss:List Tr) (U:List K0),(ss.foldl addS U).length<=U.length+ss.length
 | [],U=>B5 _
 | s::ss,U=>by
  rw [List.foldl_cons,K4];have h1:=tV ss (addS U s);have h2:=amH (U:=U) (s:=s);lia
theorem tW:∀ (ss:List Tr) (U:List K0) (n:Nat),(∀ u∈U,u.2.2.1.length<=n)->∀ u∈ss.foldl addS U,u.2.2.1.length<=n+ss.length
 | [],U,n,h=>h
 | s::ss,U,n,h=>by
  intro u hu
  have:=tW ss (addS U s) (n+1) (ajs h) u hu
  rw [K4];lia
theorem ak2(f b:Bool)(j ll ml md:Addr):(ordF f b j ll ml md).lookup ("made" : Str)=some (V.ref md):=by
 unfold ordF;rw [N5,if_pos rfl]
noncomputable def cutH (H:Hp) (as:List Addr):Hp:=fun a=>if a∈as then none else H a
theorem oK(H:Hp)(as:List Addr):Same (cutH H as) H:=fun a o h=>by
 unfold cutH at h
 by_cases q:a∈as
 .rw [if_pos q] at h;cases h
 .rw [if_neg q] at h;exact h
theorem UnI.base{l:Addr}{es:List (Addr×Addr)}{U:List K0}(S:Same H0 H1)(h:UnI H1 H l es U):UnI H0 H l es U:=⟨h.top,h.row,h.nd,fun a ha=>S.free (h.new a ha),S.trans h.same⟩
theorem UnI.cut{l:Addr}{es:List (Addr×Addr)}{U:List K0}(h:UnI H0 H l es U):∃ H1,Same H0 H1/\UnI H1 H l es U/\∀ a xs,H a=some (.tup xs)->H1 a=some (.tup xs):=by
 refine ⟨cutH H (l::es.map (fun e=>e.2)),fun a o ha=>?_,⟨h.top,h.row,h.nd,fun a ha=>by unfold cutH;exact if_pos ha,oK _ _⟩,fun a xs ha=>?_⟩
 .unfold cutH;rw [if_neg (fun q=>by rw [h.new a q] at ha;cases ha)];exact h.same _ _ ha
 .unfold cutH;rw [if_neg fun q=>?_]
  .exact ha
  .rcases E7.mp q with q | q
   .rw [q,h.top] at ha;cases ha
   .obtain ⟨ys,hy⟩:=h.live q;rw [hy] at ha;cases ha
theorem ajt{α β:Type}{F:α->β->Prop}{m:List β}(h:Paired F [] m):m=[]:=by cases h;rfl
theorem oM{α:Type}{l:List α}(h:l≠[]):∃ l' x,l=l'++[x]:=⟨l.dropLast,l.getLast h,(List.dropLast_concat_getLast h).symm⟩
noncomputable def ak3 (C:Addr):Sp:=fun vs H Q _=>∃ (x j ll ml md:Addr) (z:Str) (g:Str->Str) (R:List Rl) (L M:List Str),vs=[.ref x,.str z]/\IsOrd C H x j ll ml md g R L M/\(E5 R).length<=1000/\z.length<=500/\W8 'f' (E5 R) z/\(∀ y,(stepY R L M y).length<=15)/\
 ∀ l H',H l=none->Same H H'->IsUn H' l (P1 (stepY R L M) (cutF 'f' (E5 R) z.cps.toList).2)->Q (.ref l) H'
noncomputable def yZ (n:Nat) (fr:St) (Pv:Nat->List V->Hp->Prop) (i:Nat) (ys:List V) (σ2:St) (H2:Hp):Prop:=i<=n/\ys.length<=i/\(∃ v0 v1 v2 v3,σ2=v0::v1::v2::v3::fr)/\Pv i ys H2
theorem arC(fr:St)(X7:compStart 4 ixs Y=none::none::none::none::fr)(Pv:Addr->Nat->List V->Hp->Prop)(h0:∀ D,H1 D=none->Pv D 0 [] (A0 H1 D (.lst [])))(hl:∀ D i ys H,H1 D=none->i<=xs.length->Pv D i ys H->D9 K H a xs)(hs:∀ D i x ys H,H1 D=none->i<xs.length->xs[i]?=some x->Pv D i ys H->H D=some (.lst ys)->ys.length<=i->∃ t v0 v1 v2 v3,x=.ref t/\C6 K H t [v0,v1,v2,v3]/\c (some v0::some v1::some v2::some v3::fr) H fun b H4=>
   if b=true then te (some v0::some v1::some v2::some v3::fr) H4 fun y H5=>H5 D=some (.lst ys)/\ys.length<sizeLine/\yZ xs.length fr (Pv D) (i+1) (ys++[y]) (some v0::some v1::some v2::some v3::fr) (A0 H5 D (.lst (ys++[y])))
   else H4 D=some (.lst ys)/\yZ xs.length fr (Pv D) (i+1) ys (some v0::some v1::some v2::some v3::fr) H4)(hd:∀ D ys H,H1 D=none->Pv D xs.length ys H->H D=some (.lst ys)->ys.length<=xs.length->Q (.ref D) H):cF (aO K a) 4 ixs (gTup K 4 (gCons (gName 0) (gCons (gName 1) (gCons (gName 2) (gCons (gName 3) gNil))))) c te Y Q H1:=by
 intro D hD;refine ⟨xs.length,yZ xs.length fr (Pv D),⟨F9 _,F9 _,⟨none,none,none,none,X7⟩,h0 D hD⟩,?_⟩;rintro i ys σ2 H2 ⟨hi,hy,⟨w0,w1,w2,w3,rfl⟩,p⟩ hDy;have q:=hl D i ys H2 hD hi p
 by_cases C9:i<xs.length
 .refine .inr ⟨C9,⟨xs,xs[i],q,by simp [C9]⟩,fun x H' y=>?_⟩;obtain ⟨e,y⟩:=y;subst e;obtain ⟨t,v0,v1,v2,v3,rfl,ht,z⟩:=hs D i x ys _ hD C9 (y xs q) p hDy hy;exact ⟨t,_,rfl,ht,rfl,_,_,rfl,_,_,rfl,_,_,rfl,_,_,rfl,rfl,z⟩
 .have e:i=xs.length:=by lia
  subst e;exact .inl ⟨⟨xs,q,B5 _⟩,hd D ys H2 hD p hDy hy⟩
theorem zA{w:Bool}{g:List Str} : ∀ (n:Nat) (l:List Nat),l.length<=n->∀ y∈(cutF w g l).2,1<=y.length
 | 0,l,h,y,hy=>by
  have:l=[]:=j3.mp 'a'
  subst this;rw [kU] at hy;cases hy
 | n+1,l,h,y,hy=>by
  cases e:partF w g l with
  | none=>rw [gT e] at hy;cases hy
  | some x=>
   obtain ⟨rest,e1,e2,e3⟩:=eF e;rw [e2] at hy
   rcases E7.mp hy with q | q
   .rw [q];exact e3
   .refine zA n rest ?_ y q
    have:=congrArg Y8 e1
    rw [C4,lenL] at this;lia
theorem ae1{S:Str->List Tr}{y:Str}(h:ps[i]?=some y):P1 S (ps.take (i+1))=(S y).foldl addS (P1 S (ps.take i)):=by
 unfold P1;rw [M8 h,o3,aJ,u7,mT,K9]
theorem tX{S:Str->List Tr}(hs:∀ y,(S y).length<=15):∀ (ps:List Str),(P1 S ps).length<=15*ps.length/\∀ u∈P1 S ps,u.2.2.1.length<=15*ps.length:=fun ps=>by
 have h0:(ps.flatMap S).length<=15*ps.length:=by
  induction ps with
  | nil=>exact B5 _
  | cons p ps ih=>
   rw [u7,C4,K4]
   have:=hs p
   lia
 have h1:=tV (ps.flatMap S) [];have h2:=tW (ps.flatMap S) [] 0 'c';unfold P1;rw [Y6] at h1;exact ⟨by lia,fun u hu=>by have:=h2 u hu;lia⟩
theorem zB{w:Bool}{g:List Str} : ∀ (n:Nat) (l:List Nat),l.length<=n->∀ y∈(cutF w g l).2,y.length<=l.length
 | 0,l,h,y,hy=>by
  have:l=[]:=j3.mp 'a'
  subst this;rw [kU] at hy;cases hy
 | n+1,l,h,y,hy=>by
  cases e:partF w g l with
  | none=>rw [gT e] at hy;cases hy
  | some x=>
   obtain ⟨rest,e1,e2,e3⟩:=eF e;rw [e2] at hy;have hl:=congrArg Y8 e1;rw [C4,lenL] at hl
   rcases E7.mp hy with q | q
   .rw [q];lia
   .have:=zB n rest 'a' y q
    lia
theorem ag2:∀ zs:List Str,(Str.join ⟨#[]⟩ zs).cps.toList=zs.flatMap fun p=>p.cps.toList
 | []=>by simp [Str.join,Str.empty]
 | [z]=>by simp [Str.join]
 | z::y::r=>by
  have e:(Str.join ⟨#[]⟩ (z::y::r)).cps.toList=z.cps.toList++(Str.join ⟨#[]⟩ (y::r)).cps.toList:=by
   show (z++⟨#[]⟩++Str.join ⟨#[]⟩ (y::r)).cps.toList=_;simp only [Str.cps_append,Array.toList_append]
   simp
  rw [e,ag2 (y::r)];rfl
theorem aju{k:Int}(h:Q2 ns k p):(∃ c,p=one c)\/∃ c d,p=L4 c d:=by
 obtain ⟨r,e,hl,_⟩:=h;have ext:∀ q:Str,p.cps.toList=q.cps.toList->p=q:=fun q h=>Str.ext' (nC.mp h)
 match r,hl with
 | [],_=>exact .inl ⟨_,ext (one _) e⟩
 | [d],_=>exact .inr ⟨_,d,ext (L4 _ d) e⟩
theorem tY{R:List Rl}(h:RulG ns ls ms R)(L M:List Str)(y:Str):(stepF R L M y).length<=15:=by
 unfold stepF;cases e:(putsL R L M).lookup y with
 | none=>exact F9 _
 | some s=>
  obtain ⟨l1,l2,el,_⟩:=List.lookup_eq_some_iff.mp e;have hm:(y,s)∈putsL R L M:=by rw [el];simp
  show s.length<=15;unfold putsL at hm
  rcases E1.mp hm with hm | hm
  .rcases E1.mp hm with hm | hm
   .rcases E1.mp hm with hm | hm
    .obtain ⟨a,_,q⟩:=D8.mp hm;rw [<- (Prod.mk.inj q).2];simp
    .obtain ⟨a,_,q⟩:=D8.mp hm;rw [<- (Prod.mk.inj q).2];simp
   .obtain ⟨_,_,hm⟩:=g0.mp hm;obtain ⟨a,_,q⟩:=D8.mp hm;rw [<- (Prod.mk.inj q).2];simp
  .unfold oE at hm;obtain ⟨z,hz,q⟩:=fT.mp hm
   by_cases hw:z.1=("as" : Str)
   .rw [if_pos hw] at q
    rcases h.each hz with rfl | rfl | o | o
    .exact absurd (show Str.ofString "row"=_ from hw) 'd'
    .exact absurd (show Str.ofString "marks"=_ from hw) 'd'
    .rcases o with ⟨e2,_⟩ | ⟨_,p,q1,qs,e2,_,_,hl⟩ | ⟨e2,_⟩
     .rw [e2] at hw;exact absurd hw 'd'
     .rw [e2] at q;have q:=Option.some.inj q;rw [<- (Prod.mk.inj q).2]
      simp;lia
     .rw [e2] at hw;exact absurd hw 'd'
    .exact absurd hw o.2.no.2.2.2.1
   .rw [if_neg hw] at q;cases q
theorem ak4{R:List Rl}(h:RulG ns ls ms R)(L M:List Str)(y:Str):(stepY R L M y).length<=15:=by
 unfold stepY
 split
 .simp
 .exact tY h L M y
theorem anj{p:Nat->Bool}{d:Nat} : ∀ {l:List Nat},d∈l.takeWhile p->p d=true
 | [],h=>by cases h
 | c::r,h=>by
  rw [List.takeWhile_cons] at h
  by_cases hc:p c=true
  .rw [if_pos hc] at h
   rcases E7.mp h with q | q
   .rw [q];exact hc
   .exact anj q
  .rw [if_neg hc] at h;cases h
theorem ak5{w:Bool}{g:List Str}{l:List Nat}{y:Str}(h:partF w g l=some y):w=true->FigR y:=by
 intro hw hf
 cases l with
 | nil=>cases h
 | cons c r=>
  rw [cH,hw,Bool.true_and] at h
  by_cases hc:figO c=true
  .rw [if_pos hc] at h;obtain rfl:=Option.some.inj h;intro d hd;have hd:d∈(c::r).takeWhile figO:=by simpa using hd
   have:=anj hd
   unfold figO at this;rw [T5,decide_eq_true_eq,decide_eq_true_eq] at this;exact this
  .exfalso
   rw [if_neg hc] at h;obtain ⟨rest,e,hl⟩:=afF h
   have:y.cps.toList.headD 0=c:=by
    cases hy:y.cps.toList with
    | nil=>rw [<- lenL,hy] at hl;simp at hl
    | cons d t=>rw [hy] at e;exact (o4.inj e).1.symm
   rw [this] at hf;exact hc hf
theorem zC{w:Bool}{g:List Str} : ∀ (n:Nat) (l:List Nat),l.length<=n->∀ y∈(cutF w g l).2,w=true->FigR y
 | 0,l,h,y,hy=>by
  have:l=[]:=j3.mp 'a'
  subst this;rw [kU] at hy;cases hy
 | n+1,l,h,y,hy=>by
  cases e:partF w g l with
  | none=>rw [gT e] at hy;cases hy
  | some x=>
   obtain ⟨rest,e1,e2,e3⟩:=eF e;rw [e2] at hy;have hl:=congrArg Y8 e1;rw [C4,lenL] at hl
   rcases E7.mp hy with q | q
   .rw [q];exact ak5 e
   .exact zC n rest 'a' y q
end L2
variable {F:PySem.Str->List L2.Tr}{R:List L2.Rl}{es:List (PySem.Addr×PySem.Addr)}{U:List L2.K0}
namespace L2
open PySem PySem.Spec PyProof.Rows
structure StepL(H:Hp)(r:Addr)(ss:List Tr):Prop where
 ex:∃ ts:List Addr,H r=some (.lst (ts.map V.ref))/\Paired (fun t s=>H t=some (tupT s)) ts ss
theorem StepL.same{ss:List Tr}(h:StepL H r ss)(S:Same H H'):StepL H' r ss:=
 let ⟨ts,h1,h2⟩:=h.ex
 ⟨ts,S _ _ h1,M5 h2 fun _ _ e=>S _ _ e⟩
theorem StepL.dput{d:Addr}{ss:List Tr}{o:HO}(h:StepL H r ss)(hd:H d=some (.dK kvs)):StepL (A0 H d o) r ss:=by
 obtain ⟨ts,h1,h2⟩:=h.ex;refine ⟨ts,?_,M5 h2 fun t s e=>?_⟩
 .rw [B1 (fun e=>by rw [e,hd] at h1;cases h1)];exact h1
 .rw [B1 (fun q=>by rw [q,hd] at e;cases e)];exact e
theorem StepL.one{t:Addr}{s:Tr}(h1:H r=some (.lst [.ref t]))(h2:H t=some (tupT s)):StepL H r [s]:=⟨[t],h1,.cons h2 .nil⟩
noncomputable def IsMk (H:Hp) (d:Addr) (ks:List Str) (F:Str->List Tr):Prop:=∃ ad:Str->Addr,H d=some (.dK (C1 ks fun y=>.ref (ad y)))/\∀ y∈ks,StepL H (ad y) (F y)
theorem IsMk.same{d:Addr}(h:IsMk H d ks F)(S:Same H H'):IsMk H' d ks F:=
 let ⟨ad,h1,h2⟩:=h
 ⟨ad,S _ _ h1,fun y hy=>(h2 y hy).same S⟩
structure MkI(H H2:Hp)(d:Addr)(P:List Str)(F:Str->List Tr):Prop where
 same:Same H H2
 made:IsMk H2 d (G3 [] P) F
theorem MkI.more{d:Addr}{P:List Str}(h:MkI H H2 d P F)(S:Same H2 H3):MkI H H3 d P F:=⟨h.same.trans S,h.made.same S⟩
theorem MkI.put{d:Addr}{P:List Str}(nd:H d=none)(h:MkI H H2 d P F)(hP:P.length<100000){l:Str}{p:Addr}(hp:StepL H2 p (F l)) :
  ∃ x,DPut H2 d (V.str l) (V.ref p) x/\MkI H x d (P++[l]) F:=by
 obtain ⟨ad,h1,h2⟩:=h.made;have hl:=dY P [];rw [Y6,Nat.zero_add] at hl;refine ⟨_,cE (k:=Sum.inr l) h1 (by rw [k9];exact L3 'a'),h.same.put nd,?_⟩;rw [yJ];refine ⟨fun y=>if y=l then p else ad y,?_,fun y hy=>?_⟩
 .rw [A5];have e:∀ t,(if t=l then V.ref p else V.ref (ad t))=V.ref (if t=l then p else ad t):=fun t=>by
   by_cases h:t=l
   .rw [if_pos h,if_pos h]
   .rw [if_neg h,if_neg h]
  unfold dd
  by_cases hl:l∈G3 [] P
  .rw [if_pos hl,nZ _ hl];exact congrArg (fun x=>some (HO.dK x)) (W1 fun t _=>e t)
  .rw [if_neg hl,eB _ hl];exact congrArg (fun x=>some (HO.dK x)) (W1 fun t _=>e t)
 .by_cases h:y=l
  .subst h;show StepL _ (if y=y then p else ad y) _;rw [if_pos rfl];exact hp.dput h1
  .show StepL _ (if y=l then p else ad y) _;rw [if_neg h];refine (h2 y ?_).dput h1;unfold dd at hy
   by_cases hl:l∈G3 [] P
   .rw [if_pos hl] at hy;exact hy
   .rw [if_neg hl] at hy
    rcases E1.mp hy with q | q
    .exact q
    .exact absurd (F6.mp q) h
noncomputable def zD (K:PySem.W.Frag):Sp:=fun vs H Q _=>∃ (a:Addr) (ts:List Addr) (R:List Rl) (w:Str),vs=[.ref a,.str w]/\IsRules H a ts R/\R.length<=100/\(∀ z∈R,z.2.length<=100)/\∀ l H',H l=none->Same H H'->H' l=some (.lst ((rowsW R w).flatten.map V.str))->Q (.ref l) H'
theorem tZ{w:Str}{z:Rl}(h:R[i]?=some z):(rowsW (R.take (i+1)) w).flatten=if z.1=w then (rowsW (R.take i) w).flatten++z.2 else (rowsW (R.take i) w).flatten:=by
 rw [yC h]
 by_cases e:z.1=w
 .rw [if_pos e,if_pos e,mP];simp
 .rw [if_neg e,if_neg e]
noncomputable def P6 (R:List Rl):List Str:=(M0 R).flatMap (·.2)
theorem ae3{z:Rl}(h:R[i]?=some z):P6 (R.take (i+1))=P6 (R.take i)++P6 [z]:=by
 unfold P6;rw [tG h,o3]
theorem W5{t:Addr}(hT:C6 K H t xs)(q:∀ p H',Same H H'->C6 K H' p (xs.take 2)->Q (.ref p) H'):rSlR K t none (some 2) H Q:=by
 by_cases h:xs.length<=2
 .refine rSlR.w hT ⟨rfl,?_⟩ (q t H (aQ H) (by rw [aH h];exact hT));rw [show ((2:Int))=((2:Nat):Int) from rfl,HT.sIx_nat];lia
 .refine rSlR.t hT (fun e=>?_) fun p np=>q p _ (Same.new np) (.of ?_)
  .have:=e.2
   rw [show ((2:Int))=((2:Nat):Int) from rfl,HT.sIx_nat] at this;lia
  .rw [A5,show cutV xs none (some 2)=_ from aS xs 2]
theorem aiN(xs ys:List Str):P7 (.tuple (xs.map .str)) (.tuple (ys.map .str))=decide (xs=ys):=by rw [P7,xJ]
theorem ajv{l:Str}{fs:List Str} : P6 [('e',l::fs)]=fs:=by
 unfold P6;rw [tH]
 simp
theorem ak6{z:Rl}(h:z.1≠("great" : Str)):P6 [z]=[]:=by
 unfold P6;rw [kP h];rfl
theorem ahM{z:Rl}{l:Str}(h:(z.1::z.2).take 2=['e',l]):∃ fs,z=('e',l::fs):=by
 obtain ⟨w,ps⟩:=z
 cases ps with
 | nil=>simp at h
 | cons y fs=>
  simp at h;obtain ⟨rfl,rfl⟩:=h;exact ⟨fs,rfl⟩
theorem agc{A:List Rl}{z:Rl}{l:Str}(h:(z.1::z.2).take 2≠['e',l]):E3 (A++[z]) l=E3 A l:=by
 by_cases hg:z.1='e'
 .obtain ⟨w,ps⟩:=z;obtain rfl:w='e':=hg
  cases ps with
  | nil=>
   unfold E3;rw [gO,show M0 [('e',[])]=[] by simp [M0],K9]
  | cons y fs=>
   rw [kQ,if_neg (fun e=>h (by rw [e];rfl))]
 .unfold E3;rw [gO,kP hg,K9]
theorem MkI.base{d:Addr}{P:List Str}(S:Same H H1)(h:MkI H1 H2 d P F):MkI H H2 d P F:=⟨S.trans h.same,h.made⟩
theorem MkI.cut{d:Addr}{P:List Str}(nd:H d=none)(h:MkI H H2 d P F):∃ B,Same H B/\B d=none/\MkI B H2 d P F/\∀ a o,a≠d->H2 a=some o->B a=some o:=by
 refine ⟨cutH H2 [d],fun a o ha=>?_,by unfold cutH;exact if_pos 'c',⟨oK _ _,h.made⟩,fun a o ne ha=>?_⟩
 .unfold cutH;rw [if_neg (fun e=>by rw [F6.mp e,nd] at ha;cases ha)];exact h.same _ _ ha
 .unfold cutH;rw [if_neg (fun e=>ne (F6.mp e))];exact ha
theorem RulG.over(G:RulG ns ls ms R)(hL:R6 R "row" ls)(hM:R6 R "marks" ms)(hp:p∈(rowsW R "over").flatten):stepF R ls ms p=[]:=by
 refine yY fun h=>?_
 obtain ⟨z,hz,e,hpz⟩:=mem_rowsW.mp hp;have ho:(p,("over" : Str))∈D0 R:=mem_pairs.mpr ⟨z,hz,by rw [W2.2.2 (.inr (.inr e))];exact hpz,by rw [e];decide +kernel⟩;have jo:=gP G.good.nc ho;have n1:("letter" : Str)≠"over"/\("mark" : Str)≠"over"/\("great" : Str)≠"over"/\("as" : Str)≠"over":=by decide +kernel
 have fin:∀ {j:Str},(p,j)∈D0 R->j≠"over"->False:=fun {j} hj hn=>hn ((gP G.good.nc hj).symm.trans jo)
 unfold allKs at h
 rcases E1.mp h with h | h
 .rcases E1.mp h with h | h
  .rcases E1.mp h with h | h
   .exact fin (mem_letter.mpr ((p8 hL).mp h)) n1.1
   .exact fin (mem_mark.mpr ((p8 hM).mp h)) n1.2.1
  .obtain ⟨y,_,hq⟩:=g0.mp h;obtain ⟨e2,he,_,hf⟩:=forms_mem.mp hq
   have:p∈(M0 R).flatMap (·.2):=g0.mpr ⟨e2,he,hf⟩
   rw [<- aT] at this;obtain ⟨⟨q,j⟩,hq2,rfl⟩:=D8.mp this;obtain ⟨h1,h2⟩:=Q1.mp hq2;exact fin h1 (by rw [show j='e' by simpa using h2];exact n1.2.2.1)
 .rw [<- gQ] at h;obtain ⟨⟨q,j⟩,hq,rfl⟩:=D8.mp h;obtain ⟨h1,h2⟩:=Q1.mp hq;exact fin h1 (by rw [show j=("as" : Str) by simpa using h2];exact n1.2.2.2)
theorem RulG.blank(G:RulG ns ls ms R)(hL:R6 R "row" ls)(hM:R6 R "marks" ms):stepF R ls ms " "=[]:=by
 refine yY fun h=>?_
 have X8:∀ p∈allKs R ls ms,p∈(D0 R).map (·.1):=fun p hp=>by
  unfold allKs at hp
  rcases E1.mp hp with hp | hp
  .rcases E1.mp hp with hp | hp
   .rcases E1.mp hp with hp | hp
    .exact D8.mpr ⟨_,mem_letter.mpr ((p8 hL).mp hp),rfl⟩
    .exact D8.mpr ⟨_,mem_mark.mpr ((p8 hM).mp hp),rfl⟩
   .obtain ⟨y,_,hp⟩:=g0.mp hp;obtain ⟨e,he,_,hf⟩:=forms_mem.mp hp
    have:p∈(M0 R).flatMap (·.2):=g0.mpr ⟨e,he,hf⟩
    rw [<- aT] at this;obtain ⟨q,hq,rfl⟩:=D8.mp this;exact D8.mpr ⟨q,(Q1.mp hq).1,rfl⟩
  .rw [<- gQ] at hp;obtain ⟨q,hq,rfl⟩:=D8.mp hp;exact D8.mpr ⟨q,(Q1.mp hq).1,rfl⟩
 exact G.good.nb (X8 _ h)
theorem zE(R:List Rl)(w:Str)(hf:∀ z∈R,z.1=w->z.2=[]):((R.map ruleD).any fun e=>P7 e (ruleD (w,[])))=hasW R w:=by
 unfold hasW;rw [List.any_map,aL,mV,mV];have key:∀ z:Rl,P7 (ruleD z) (ruleD (w,[]))=decide (z.1::z.2=[w]):=fun z=>by
  unfold ruleD;exact aiN _ _
 constructor
 .rintro ⟨z,hz,h⟩;refine ⟨z,hz,?_⟩;have h:P7 (ruleD z) (ruleD (w,[]))=true:=h;rw [key,decide_eq_true_eq] at h;exact decide_eq_true (o4.inj h).1
 .rintro ⟨z,hz,h⟩;have h:z.1=w:=by simpa using h
  refine ⟨z,hz,?_⟩;show P7 (ruleD z) (ruleD (w,[]))=true;rw [key,decide_eq_true_eq,h,hf z hz h]
theorem RulG.flag(G:RulG ns ls ms R){w:Str}(hw:flagW w):∀ z∈R,z.1=w->z.2=[]:=fun z hz e=>by
 have n:=hw.no
 rcases G.each hz with rfl | rfl | o | o
 .exact absurd e.symm n.1
 .exact absurd e.symm n.2.1
 .rcases o with ⟨e2,_⟩ | ⟨e2,_⟩ | ⟨e2,_⟩
  .exact absurd (e.symm.trans e2) n.2.2.1
  .exact absurd (e.symm.trans e2) n.2.2.2.1
  .exact absurd (e.symm.trans e2) n.2.2.2.2
 .exact o.1
theorem RulG.names(G:RulG ns ls ms R)(p:Str):p∈(D0 R).map (·.1)↔p∈ls++ms++asKs R++P6 R++(rowsW R "over").flatten:=by
 have app:p∈ls++ms++asKs R++P6 R++(rowsW R "over").flatten↔p∈ls\/p∈ms\/p∈asKs R\/p∈P6 R\/p∈(rowsW R "over").flatten:=by
  simp only [E1,or_assoc]
 rw [app];have gA:∀ q,q∈P6 R↔(q,'e')∈D0 R:=fun q=>by
  unfold P6;rw [<- aT,D8]
  constructor
  .rintro ⟨⟨x,j⟩,hx,rfl⟩;obtain ⟨h1,h2⟩:=Q1.mp hx;rw [show j='e' by simpa using h2] at h1;exact h1
  .exact fun h=>⟨_,Q1.mpr ⟨h,by simp⟩,rfl⟩
 have aA:∀ q,q∈asKs R↔(q,("as" : Str))∈D0 R:=fun q=>by
  rw [<- gQ,D8]
  constructor
  .rintro ⟨⟨x,j⟩,hx,rfl⟩;obtain ⟨h1,h2⟩:=Q1.mp hx;rw [show j=("as" : Str) by simpa using h2] at h1;exact h1
  .exact fun h=>⟨_,Q1.mpr ⟨h,by simp⟩,rfl⟩
 constructor
 .intro h;obtain ⟨⟨q,j⟩,hq,rfl⟩:=D8.mp h;obtain ⟨z,hz,ht,rfl⟩:=mem_pairs.mp hq;have jw:=oF (gN ht)
  rcases gN ht with e | e | e | e | e
  .rw [jw.2.2.1.mpr e] at hq;exact .inl (G.letter.mp hq)
  .rw [jw.2.2.2.1.mpr e] at hq;exact .inr (.inl (G.mark.mp hq))
  .rw [jw.1.mpr e] at hq;exact .inr (.inr (.inr (.inl ((gA _).mpr hq))))
  .rw [jw.2.1.mpr e] at hq;exact .inr (.inr (.inl ((aA _).mpr hq)))
  .exact .inr (.inr (.inr (.inr (mem_rowsW.mpr ⟨z,hz,e,by rw [W2.2.2 (.inr (.inr e))] at ht;exact ht⟩))))
 .rintro (h | h | h | h | h)
  .exact D8.mpr ⟨_,G.letter.mpr h,rfl⟩
  .exact D8.mpr ⟨_,G.mark.mpr h,rfl⟩
  .exact D8.mpr ⟨_,(aA p).mp h,rfl⟩
  .exact D8.mpr ⟨_,(gA p).mp h,rfl⟩
  .obtain ⟨z,hz,e,hp⟩:=mem_rowsW.mp h;exact D8.mpr ⟨(p,jobD z.1),mem_pairs.mpr ⟨z,hz,by rw [W2.2.2 (.inr (.inr e))];exact hp,rfl⟩,rfl⟩
theorem amI{w:Str} : (∀ z∈R,z.2.length<=n)->(rowsW R w).flatten.length<=n*R.length:=by
 intro h
 induction R with
 | nil=>exact F9 _
 | cons z R ih=>
  have i1:=ih fun y hy=>h y (N4 _ hy)
  have i2:=h z O0;have e:rowsW (z::R) w=rowsW [z] w++rowsW R w:=w8 [z] R w;rw [e,mP,C4,K4,Nat.mul_add,Nat.mul_one]
  have:(rowsW [z] w).flatten.length<=n:=by
   unfold rowsW
   by_cases hz:z.1=w
   .rw [mI (by simpa using hz)];simpa using i2
   .rw [mJ (by simpa using hz)];simp
  lia
noncomputable def aiO:Sp:=fun vs H Q _=>∃ (d:Addr) (z:Str) (ks:List Str) (f:Str->V) (w:Bool),vs=[.ref d,.bl w,.str z]/\H d=some (.dK (C1 ks f))/\z.length<=500/\W8 w ks z/\∀ l H',H l=none->Same H H'->H' l=some (.lst ((cutF w ks z.cps.toList).2.map V.str))->Q (.ref l) H'
noncomputable def kW (H:Hp) (e:Addr×Addr) (u:K0):Prop:=H e.1=some (.tup [.int u.1,.int u.2.1,.ref e.2,.int u.2.2.2])/\H e.2=some (.tup (u.2.2.1.map V.int))
structure UnJ(H0 H:Hp)(l:Addr)(es:List (Addr×Addr))(U:List K0):Prop where
 same:Same H0 H
 new:H0 l=none
 top:H l=some (.lst (es.map fun e=>V.ref e.1))
 row:Paired (kW H) es U
theorem UnJ.out{l:Addr}(h:UnJ H0 H l es U):IsUn H l U:=⟨es,h.top,h.row⟩
theorem kW.same{e:Addr×Addr}{u:K0}(h:kW H e u)(S:Same H H'):kW H' e u:=⟨S _ _ h.1,S _ _ h.2⟩
theorem UnJ.more{l:Addr}(h:UnJ H0 H l es U)(S:Same H H'):UnJ H0 H' l es U:=⟨h.same.trans S,h.new,S _ _ h.top,M5 h.row fun _ _ e=>e.same S⟩
theorem UnJ.base{l:Addr}(S:Same H0 H1)(h:UnJ H1 H l es U):UnJ H0 H l es U:=⟨S.trans h.same,S.free h.new,h.top,h.row⟩
theorem UnJ.cut{l:Addr}(h:UnJ H0 H l es U):∃ B,Same H0 B/\UnJ B H l es U/\∀ a o,a≠l->H a=some o->B a=some o:=by
 refine ⟨cutH H [l],fun a o ha=>?_,⟨oK _ _,by unfold cutH;exact if_pos 'c',h.top,h.row⟩,fun a o ne ha=>?_⟩
 .unfold cutH;rw [if_neg (fun e=>by rw [F6.mp e,h.new] at ha;cases ha)];exact h.same _ _ ha
 .unfold cutH;rw [if_neg (fun e=>ne (F6.mp e))];exact ha
theorem UnJ.lay{l:Addr}{es':List (Addr×Addr)}{U':List K0}(h:UnJ H0 H l es U)(r:Paired (kW H) es' U')(e:xs=es'.map fun e=>V.ref e.1):UnJ H0 (A0 H l (.lst xs)) l es' U':=by
 subst e;refine ⟨h.same.put h.new,h.new,A5,M5 r fun e u q=>⟨?_,?_⟩⟩
 .rw [B1 (fun x=>by have:=q.1;rw [x,h.top] at this;cases this)];exact q.1
 .rw [B1 (fun x=>by have:=q.2;rw [x,h.top] at this;cases this)];exact q.2
noncomputable def unD (u:K0):PyData:=.tuple [.int u.1,.int u.2.1,.tuple (u.2.2.1.map .int),.int u.2.2.2]
theorem aiP : ∀ {es:List (Addr×Addr)} {U:List K0},Paired (kW H) es U->DnAll K H (es.map fun e=>V.ref e.1) (U.map unD)
 | _,_,.nil=>.nil
 | _,_,.cons h t=>.cons (.tup (.of h.1) (.cons (.int _) (.cons (.int _) (.cons (.tup (.of h.2) g7) (.cons (.int _) .nil))))) (aiP t)
theorem IsUn.dn{l:Addr}(h:IsUn H l U):Dn K H (.ref l) (.list (U.map unD)):=
 let ⟨_,h1,h2⟩:=h
 .lst (.of h1) (aiP h2)
theorem aiQ{w:Bool}{g:List Str} : ∀ (n:Nat) (l:List Nat),l.length<=n->∀ y∈(cutF w g l).2,(w&&figO (y.cps.toList.headD 0))=true\/y∈g
 | 0,l,h,y,hy=>by
  have:l=[]:=j3.mp 'a'
  subst this;rw [kU] at hy;cases hy
 | n+1,l,h,y,hy=>by
  cases e:partF w g l with
  | none=>rw [gT e] at hy;cases hy
  | some x=>
   obtain ⟨rest,e1,e2,e3⟩:=eF e;rw [e2] at hy
   rcases E7.mp hy with q | q
   .subst q
    cases l with
    | nil=>cases e
    | cons c r=>
     rw [cH] at e
     by_cases hf:(w&&figO c)=true
     .rw [if_pos hf] at e;obtain rfl:=Option.some.inj e;refine .inl ?_;rw [T5] at hf;show (w&&figO (((c::r).takeWhile figO).headD 0))=true;rw [jH hf.2,hf.1];exact hf.2
     .rw [if_neg hf] at e;refine .inr ?_
      cases r with
      | nil=>
       rw [eE] at e
       by_cases h1:one c∈g
       .rw [if_pos h1] at e;rw [<- Option.some.inj e];exact h1
       .rw [if_neg h1] at e;cases e
      | cons d r=>
       rw [l7] at e
       by_cases h2:L4 c d∈g
       .rw [if_pos h2] at e;rw [<- Option.some.inj e];exact h2
       .rw [if_neg h2] at e
        by_cases h1:one c∈g
        .rw [if_pos h1] at e;rw [<- Option.some.inj e];exact h1
        .rw [if_neg h1] at e;cases e
   .refine aiQ n rest ?_ y q
    have:=congrArg Y8 e1
    rw [C4,lenL] at this;lia
noncomputable def stepW (w:Bool) (F:Str->List Tr) (y:Str):List Tr:=if (w&&figO (y.cps.toList.headD 0))=true then [(1,((bW y.cps.toList:Nat):Int),0)] else F y
noncomputable def fixS (y:Str) (s:Tr):Tr:=if s.1=1 then (1,((bW y.cps.toList:Nat):Int),0) else s
noncomputable def aiR (K:PySem.W.Frag):Sp:=fun vs H Q _=>∃ (d:Addr) (z:Str) (ks:List Str) (F:Str->List Tr) (w:Bool),vs=[.ref d,.bl w,.str z]/\IsMk H d ks F/\z.length<=500/\W8 w ks z/\(∀ y,(F y).length<=15)/\(∀ y,∀ s∈F y,s.1=0\/s.1=2)/\∀ l H',H l=none->Same H H'->IsUn H' l (P1 (stepW w F) (cutF w ks z.cps.toList).2)->Q (.ref l) H'
noncomputable def ak7 (K:PySem.W.Frag):Sp:=fun vs H Q _=>∃ (a:Addr) (ts:List Addr) (R:List Rl) (ns:List Int) (ls ms:List Str),vs=[.ref a]/\IsRules H a ts R/\RulG ns ls ms R/\R6 R "row" ls/\R6 R "marks" ms/\
 ∀ d ks H',H d=none->Same H H'->IsMk H' d ks (stepF R ls ms)->(∀ p,p∈ks↔p∈E5 R)->ks.length<=100000->Q (.ref d) H'
noncomputable def ag3 (K:PySem.W.Frag):Sp:=fun vs H Q _=>∃ (a d:Addr) (ts:List Addr) (R:List Rl) (ns:List Int) (ls ms P:List Str) (H0:Hp),vs=[.ref a,.ref d]/\H0 d=none/\IsRules H a ts R/\IsRules H0 a ts R/\RulG ns ls ms R/\R6 R "row" ls/\R6 R "marks" ms/\MkI H0 H d P (stepF R ls ms)/\(∀ p∈ls,p∈P)/\P.length<=10000/\
 ∀ H',MkI H0 H' d (P++P6 R) (stepF R ls ms)->Q .non H'
noncomputable def RunP (p:Str):Prop:=p.cps.toList≠[]/\∀ c∈p.cps.toList,figO c=true
noncomputable def eG (w:Bool) (ks:List Str) (p:Str):Prop:=p∈ks\/w=true/\RunP p
noncomputable def l8 (w:Bool) (ks:List Str) (p:Str):Prop:=p∈ks\/(w=true/\RunP p)/\p.length<=14
noncomputable abbrev flatP (ps:List Str):List Nat:=ps.flatMap fun p=>p.cps.toList
theorem oN(p:Str)(ps:List Str):flatP (p::ps)=p.cps.toList++flatP ps:=rfl
theorem ag4{w:Bool}(eZ:w=true->∀ p∈ks,∀ c∈p.cps.toList,figO c=false)(h2:∀ p∈ks,(∃ c,p=one c)\/∃ c d,p=L4 c d)(hw:w=true):∀ ps:List Str,(∀ p∈ps,eG w ks p)->∃ qs:List Str,(∀ p∈qs,eG w ks p)/\(flatP ps).dropWhile figO=flatP qs
 | [],_=>⟨[],by simp,rfl⟩
 | p::ps,h=>by
  rcases h p O0 with hp | ⟨_,hr⟩
  .refine ⟨p::ps,h,?_⟩
   have:=eZ hw p hp
   rcases h2 p hp with ⟨c,rfl⟩ | ⟨c,d,rfl⟩
   .show (c::flatP ps).dropWhile figO=_;rw [List.dropWhile_cons_of_neg (by rw [this c (by show c∈[c];simp)];simp)];rfl
   .show (c::d::flatP ps).dropWhile figO=_;rw [List.dropWhile_cons_of_neg (by rw [this c (by rw [p9];simp)];simp)];rfl
  .obtain ⟨qs,h3,h4⟩:=ag4 eZ h2 hw ps fun q hq=>h q (N4 _ hq)
   refine ⟨qs,h3,?_⟩;rw [oN,List.dropWhile_append_of_pos hr.2];exact h4
theorem afJ{w:Bool}(eZ:w=true->∀ p∈ks,∀ c∈p.cps.toList,figO c=false)(P:∀ c d e,one c∈ks->L4 c d∈ks->L4 d e∈ks->one e∈ks)(h2:∀ p∈ks,(∃ c,p=one c)\/∃ c d,p=L4 c d):∀ (n:Nat) (ps:List Str),(∀ p∈ps,eG w ks p)->(flatP ps).length<=n->(cutF w ks (flatP ps)).1=(flatP ps).length
 | n,[],_,_=>by rw [show flatP []=[] from rfl,kU];rfl
 | 0,p::ps,hp,hn=>by
  exfalso
  rw [oN,C4] at hn
  rcases hp p O0 with h | ⟨_,h,_⟩
  .rcases h2 p h with ⟨c,rfl⟩ | ⟨c,d,rfl⟩
   .rw [gS] at hn;simp at hn
   .rw [p9] at hn;simp at hn
  .have:=mO.mpr h
   lia
 | n+1,p::ps,hp,hn=>by
  have go:∀ (y:Str) (qs:List Str),(∀ q∈qs,eG w ks q)->1<=y.length->flatP (p::ps)=y.cps.toList++flatP qs->partF w ks (flatP (p::ps))=some y->(cutF w ks (flatP (p::ps))).1=(flatP (p::ps)).length:=fun y qs hq F8 el hpf=>by
   obtain ⟨rest,e1,e2,e3⟩:=eF hpf;have er:rest=flatP qs:=List.append_cancel_left (e1.symm.trans el);have ln:=congrArg Y8 el;rw [C4,lenL] at ln;have i1:=afJ eZ P h2 n qs hq 'a';rw [e2,er];show (cutF w ks _).1+y.length=_;rw [i1];lia
  have pF:∀ c l,one c∈ks\/(∃ d,L4 c d∈ks)->partF w ks (c::l)=partG ks (c::l):=fun c l h=>by
   rw [cH,if_neg];intro q;rw [T5] at q
   rcases h with h | ⟨d,h⟩
   .rw [eZ q.1 _ h c (by show c∈[c];simp)] at q;exact absurd q.2 'c'
   .rw [eZ q.1 _ h c (by rw [p9];simp)] at q;exact absurd q.2 'c'
  have R9:∀ q∈ps,eG w ks q:=fun q hq=>hp q (N4 _ hq)
  rcases hp p O0 with X9 | ⟨vN,hr⟩
  .rcases h2 p X9 with ⟨c,rfl⟩ | ⟨c,d,rfl⟩
   .have ef:flatP (one c::ps)=c::flatP ps:=rfl
    cases ps with
    | nil=>exact go (one c) [] 'c' (B5 1) rfl (by rw [ef,show flatP []=[] from rfl,pF c [] (.inl X9),eE,if_pos X9])
    | cons p2 qs=>
     have y4:∀ q∈qs,eG w ks q:=fun q hq=>R9 q (N4 _ hq)
     rcases R9 p2 O0 with U4 | ⟨vN,hr⟩
     .rcases h2 p2 U4 with ⟨d,rfl⟩ | ⟨d,e,rfl⟩
      .have iR:flatP (one c::one d::qs)=c::d::flatP qs:=rfl
       by_cases U1:L4 c d∈ks
       .exact go (L4 c d) qs y4 (by show 1<=2;decide) rfl (by rw [iR,pF _ _ (.inl X9),l7,if_pos U1])
       .exact go (one c) (one d::qs) R9 (B5 1) rfl (by rw [iR,pF _ _ (.inl X9),l7,if_neg U1,if_pos X9])
      .have iR:flatP (one c::L4 d e::qs)=c::d::e::flatP qs:=rfl
       by_cases U1:L4 c d∈ks
       .have he:=P c d e X9 U1 U4;exact go (L4 c d) (one e::qs) (fun q hq=>by rcases E7.mp hq with h | h;rw [h];exact .inl he;exact y4 q h) (by show 1<=2;decide) rfl (by rw [iR,pF _ _ (.inl X9),l7,if_pos U1])
       .exact go (one c) (L4 d e::qs) R9 (B5 1) rfl (by rw [iR,pF _ _ (.inl X9),l7,if_neg U1,if_pos X9])
     .obtain ⟨f,rr,hf⟩:∃ f rr,p2.cps.toList=f::rr:=by
       cases e:p2.cps.toList with
       | nil=>exact absurd e hr.1
       | cons f rr=>exact ⟨f,rr,rfl⟩
      have bG:figO f=true:=hr.2 f (by rw [hf];simp);have iR:flatP (one c::p2::qs)=c::f::(rr++flatP qs):=by rw [oN,oN,hf];rfl
      have U1:L4 c f∉ks:=fun h=>by
       have:=eZ vN _ h f (by rw [p9];simp)
       rw [bG] at this;cases this
      exact go (one c) (p2::qs) R9 (B5 1) rfl (by rw [iR,pF _ _ (.inl X9),l7,if_neg U1,if_pos X9])
   .have ef:flatP (L4 c d::ps)=c::d::flatP ps:=rfl;exact go (L4 c d) ps R9 (by show 1<=2;decide) rfl (by rw [ef,pF _ _ (.inr ⟨d,X9⟩),l7,if_pos X9])
  .obtain ⟨qs,h3,h4⟩:=ag4 eZ h2 vN (p::ps) hp;obtain ⟨f,rr,hf⟩:∃ f rr,p.cps.toList=f::rr:=by
    cases e:p.cps.toList with
    | nil=>exact absurd e hr.1
    | cons f rr=>exact ⟨f,rr,rfl⟩
   have bG:figO f=true:=hr.2 f (by rw [hf];simp);have ef:flatP (p::ps)=f::(rr++flatP ps):=by rw [oN,hf];rfl
   refine go ⟨((flatP (p::ps)).takeWhile figO).toArray⟩ qs h3 ?_ ?_ ?_
   .rw [<- lenL];show 1<=((flatP (p::ps)).takeWhile figO).length;rw [ef,jH bG]
    simp
   .show flatP (p::ps)=(flatP (p::ps)).takeWhile figO++flatP qs;rw [<- h4,List.takeWhile_append_dropWhile]
   .rw [ef,cH,vN,bG,Bool.and_self,if_pos rfl]
theorem oO(hp:p∈E5 R):p=" "\/p∈(D0 R).map (·.1):=by
 unfold E5 X5 at hp
 rcases E1.mp hp with h | h
 .exact .inr ((kK _ _).mp h)
 .by_cases hb:hasW R "blanks"=true
  .rw [if_pos hb] at h;exact .inl (F6.mp h)
  .rw [if_neg hb] at h;cases h
theorem zF(hp:p∈(D0 R).map (·.1)):p∈E5 R:=T3 _ ((kK _ _).mpr hp)
theorem uA:(" " : Str)=one 32:=by decide +kernel
theorem ag5(G:RulG ns ls ms R):∀ p∈E5 R,(∃ c,p=one c)\/∃ c d,p=L4 c d:=fun p hp=>by
 rcases oO hp with rfl | h
 .exact .inl ⟨32,uA⟩
 .obtain ⟨k,hk⟩:=G.pc h;exact aju hk
theorem aiS{c d:Nat}(h:L4 c d∈E5 R):L4 c d∈(D0 R).map (·.1):=by
 rcases oO h with e | h
 .rw [uA] at e
  have:=congrArg (fun q:Str=>q.cps.toList.length) e
  simp [p9,gS] at this
 .exact h
theorem ag6(G:RulG ns ls ms R):∀ c d e,one c∈E5 R->L4 c d∈E5 R->L4 d e∈E5 R->one e∈E5 R:=fun c d e h1 h2 h3=>by
 have h2:=aiS h2;have h3:=aiS h3
 rcases oO h1 with q | h1
 .exfalso
  rw [uA] at q
  have:c=32:=by
   have:=congrArg (fun q:Str=>q.cps.toList) q
   simpa [gS] using this
  subst this;obtain ⟨k,hk⟩:=G.pc h2;have ok:=hk.ok.1;unfold nP at ok;rw [T5,List.all_eq_true] at ok
  have:=ok.2 32 (by rw [p9];simp)
  exact absurd this 'h'
 .exact zF (G.closed h1 h2 h3)
theorem ak8(G:RulG ns ls ms R):hasW R "figures"=true->∀ p∈E5 R,∀ c∈p.cps.toList,figO c=false:=fun hw p hp c hc=>by
 rcases oO hp with rfl | h
 .rw [uA,gS] at hc;rw [F6.mp hc];decide
 .obtain ⟨⟨q,j⟩,hq,rfl⟩:=D8.mp h;obtain ⟨i,hi,e⟩:=a0.mp hq;exact (G.good.nc i q j (by rw [K8 hi,e])).2.2.1 hw c hc
theorem ajw(G:RulG ns ls ms R)(hz:z.cps.toList=flatP ps)(hp:∀ p∈ps,eG 'f' (E5 R) p):W8 'f' (E5 R) z:=by
 unfold W8;rw [hz,afJ (ak8 G) (ag6 G) (ag5 G) _ ps hp (B5 _),<- hz,lenL]
theorem aoT(h:n<10 ^ 12){y:Str}(hy:y.length<=2)(hyf:∀ c∈y.cps.toList,figO c=true):RunP (y++Str.ofString (toString (n:Int)))/\(y++Str.ofString (toString (n:Int))).length<=14:=by
 have e:(y++Str.ofString (toString (n:Int))).cps.toList=y.cps.toList++(Nat.toDigits 10 n).map Char.toNat:=by
  have e1:(Str.ofString (toString (n:Int))).cps.toList=(Nat.toDigits 10 n).map Char.toNat:=by
   rw [Str.ofString_eq_toList];show (toString (n:Int)).toList.map Char.toNat=_
   have:toString (n:Int)=Nat.repr n:=rfl
   rw [this];simp [Nat.repr]
  rw [Str.cps_append,Array.toList_append,e1]
 have hl:=aeY 11 (n+1) n [] h;refine ⟨⟨?_,fun c hc=>?_⟩,?_⟩
 .rw [e];intro q
  have:=(List.append_eq_nil_iff.mp q).2
  exact absurd (List.map_eq_nil_iff.mp this) Nat.toDigits_ne_nil
 .rw [e] at hc
  rcases E1.mp hc with hc | hc
  .exact hyf c hc
  .obtain ⟨x,hx,rfl⟩:=D8.mp hc;have hd:=Nat.isDigit_of_mem_toDigits 'h' 'h' hx;unfold Char.isDigit at hd;unfold figO;simp only [T5,decide_eq_true_eq,ge_iff_le] at hd ⊢
   exact ⟨hd.1,hd.2⟩
 .rw [<- lenL,e,C4,A6,lenL]
  have:(Nat.toDigits 10 n).length<=12:=by simpa [Nat.toDigits] using hl
  lia
theorem q_pow : QOp X (binaryOp .Pow) (rI CPow fun i j=>.int (i ^ j.toNat)):=⟨aqp⟩
noncomputable def aiT (K:PySem.W.Frag):Sp:=fun vs H Q _=>∃ (d c:Addr) (w:Bool) (ks:List Str) (f:Str->V) (cs:List Int),vs=[.ref d,.bl w,.ref c]/\H d=some (.dK (C1 ks f))/\1<=ks.length/\ks.length<=100000/\D9 K H c (cs.map V.int)/\cs.length<=30/\
 ∀ l H' (ps:List Str),H l=none->Same H H'->H' l=some (.lst (ps.map V.str))->(∀ p∈ps,l8 w ks p)->ps.length<=cs.length->Q (.ref l) H'
theorem ak9{E:List (Str×Str)}{rank:Str->Nat}(hr:∀ e∈E,rank e.1<rank e.2)(hE:∀ e∈E,e.1∈ts):∀ (n:Nat) (line:List Str),(ts.filter fun p=>!decide (p∈line)).length<=n->R5 E ts line->∃ L,R5 E ts L/\∀ p∈ts,p∈L:=by
 intro n
 induction n with
 | zero=>
  intro line h r;refine ⟨line,r,fun p hp=>?_⟩;have h0:=j3.mp (Nat.le_zero.mp h)
  have:=mK.mp h0 p hp
  simpa using this
 | succ n ih=>
  intro line h r
  by_cases hw:∃ p∈ts,p∉line
  .obtain ⟨q,hq⟩:=aiw hr hE hw;obtain ⟨h1,h2,_⟩:=gL hq;refine ih (line++[q]) ?_ (r.snoc hq);have e:(ts.filter fun p=>!decide (p∈line++[q]))=(ts.filter fun p=>!decide (p∈line)).filter fun p=>!decide (p=q):=by
    rw [List.filter_filter];refine List.filter_congr fun p _=>?_
    by_cases a:p∈line <;> by_cases b:p=q <;> simp [a,b]
   have L1:q∈ts.filter fun p=>!decide (p∈line):=Q1.mpr ⟨h1,by simp [h2]⟩
   have:((ts.filter fun p=>!decide (p∈line)).filter fun p=>!decide (p=q)).length<(ts.filter fun p=>!decide (p∈line)).length:=by
    refine Nat.lt_of_le_of_ne (mN _ _) fun e2=>?_
    have:=mQ.mp ((List.length_filter_eq_length_iff (p:=fun p=>!decide (p=q))).mp e2 |> fun h=>mQ.mpr h) q L1
    simp at this
   rw [e];lia
  .exact ⟨line,r,fun p hp=>Classical.byContradiction fun h=>hw ⟨p,hp,h⟩⟩
theorem RulG.lines(G:RulG ns ls ms R):R6 R "row" ls/\R6 R "marks" ms:=by
 have g:=G.good;obtain ⟨L,h1,h2⟩:=ak9 (rank:=fun x=>ls.idxOf x) g.a1 (fun e he=>(xX he).1) _ [] (B5 _) (R5.nil _ (toldL (rowsW R "row")));obtain ⟨M,h3,h4⟩:=ak9 (rank:=fun x=>ms.idxOf x) g.a2 (fun e he=>(xX he).1) _ [] (B5 _) (R5.nil _ (toldL (rowsW R "marks")));have e1:=G.lets ⟨h1,h2⟩;have e2:=G.mrks ⟨h3,h4⟩;rw [<- e1,<- e2];exact ⟨⟨h1,h2⟩,h3,h4⟩
theorem afK{y:Str} : ∀ s∈stepF R L M y,s.1=0\/s.1=2:=by
 unfold stepF;cases e:(putsL R L M).lookup y with
 | none=>intro s hs;cases hs
 | some t=>
  obtain ⟨l1,l2,el,_⟩:=List.lookup_eq_some_iff.mp e;have hm:(y,t)∈putsL R L M:=by rw [el];simp
  show ∀ s∈t,s.1=0\/s.1=2;have one:∀ {a:Tr},[a]=t->a.1=0\/a.1=2->∀ s∈t,s.1=0\/s.1=2:=fun {a} e h s hs=>by
   rw [<- e] at hs;rw [F6.mp hs];exact h
  unfold putsL at hm
  rcases E1.mp hm with hm | hm
  .rcases E1.mp hm with hm | hm
   .rcases E1.mp hm with hm | hm
    .obtain ⟨a,_,q⟩:=D8.mp hm;exact one (Prod.mk.inj q).2 (.inr rfl)
    .obtain ⟨a,_,q⟩:=D8.mp hm;exact one (Prod.mk.inj q).2 'g'
   .obtain ⟨_,_,hm⟩:=g0.mp hm;obtain ⟨a,_,q⟩:=D8.mp hm;exact one (Prod.mk.inj q).2 (.inr rfl)
  .unfold oE at hm;obtain ⟨z,hz,q⟩:=fT.mp hm
   by_cases hw:z.1=("as" : Str)
   .rw [if_pos hw,Option.map_eq_some_iff] at q;obtain ⟨p,_,q⟩:=q;rw [<- (Prod.mk.inj q).2];intro s hs;obtain ⟨b,_,rfl⟩:=D8.mp hs;unfold baseT
    by_cases hb:b∈L
    .rw [if_pos hb];exact .inr rfl
    .rw [if_neg hb];exact .inl rfl
   .rw [if_neg hw] at q;cases q
noncomputable def tRev (K:PySem.W.Frag) (te:TE) (tk:TO):TE:=fun Y H Q=>te Y H fun x H1=>tk Y H1 fun k H2=>k=some (-1)/\∃ a xs,x=.ref a/\D9 K H2 a xs/\∀ p,H2 p=none->Q (.ref p) (A0 H2 p (.lst xs.reverse))
theorem aoU{tk:TO} : tRev K te tk Y H Q=te Y H fun x H1=>tk Y H1 fun k H2=>k=some (-1)/\∃ a xs,x=.ref a/\D9 K H2 a xs/\∀ p,H2 p=none->Q (.ref p) (A0 H2 p (.lst xs.reverse)):=rfl
end L2
namespace PySem
end PySem
namespace L2
open PySem PySem.Spec PyProof.Rows
noncomputable def tLRev (ta:TA):TE:=fun Y H Q=>ta Y H fun vs H1=>∃ (l:Addr) (xs:List V),vs=[.ref l]/\H1 l=some (.lst xs)/\∀ p,H1 p=none->Q (.ref p) (A0 H1 p (.lst xs.reverse))
theorem aoV : tLRev ta Y H Q=ta Y H fun vs H1=>∃ (l:Addr) (xs:List V),vs=[.ref l]/\H1 l=some (.lst xs)/\∀ p,H1 p=none->Q (.ref p) (A0 H1 p (.lst xs.reverse)):=rfl
noncomputable def aV (U:List K0):Nat:=(U.map fun u=>u.2.2.1.length).sum
theorem ahO(U:List K0)(s:Tr):aV (addS U s)<=aV U+1:=by
 unfold addS
 by_cases h:s.1=0
 .rw [if_pos h]
  by_cases hU:U=[]
  .subst hU;unfold addM aV
   simp
  .obtain ⟨U',u,rfl⟩:=oM hU;unfold addM;rw [List.getLast?_append,List.getLast?_singleton];simp [aV];lia
 .rw [if_neg h];simp [aV]
theorem ae4:∀ (ss:List Tr) (U:List K0),aV (ss.foldl addS U)<=aV U+ss.length
 | [],U=>B5 _
 | s::ss,U=>by
  rw [List.foldl_cons,K4];have h1:=ae4 ss (addS U s);have h2:=ahO U s;lia
theorem ag7{S:Str->List Tr}(hs:∀ y,(S y).length<=15)(ps:List Str):aV (P1 S ps)<=15*ps.length:=by
 have h0:(ps.flatMap S).length<=15*ps.length:=by
  induction ps with
  | nil=>exact B5 _
  | cons p ps ih=>
   rw [u7,C4,K4]
   have:=hs p
   lia
 have h1:=ae4 (ps.flatMap S) [];unfold P1;have h2:aV []=0:=rfl;lia
theorem afL{α β:Type}{F:α->β->Prop} : ∀ {as:List α} {bs:List β},Paired F as bs->Paired F as.reverse bs.reverse
 | _,_,.nil=>.nil
 | _,_,.cons h t=>by
  rw [List.reverse_cons,List.reverse_cons];exact Paired.snoc (afL t) h
theorem aeh{α β:Type}{F:α->β->Prop} : ∀ {as:List α} {bs:List β} (h:Paired F as bs) (n:Nat),Paired F (as.take n) (bs.take n)
 | _,_,.nil,n=>by rw [List.take_nil,List.take_nil];exact .nil
 | _,_,.cons h t,0=>.nil
 | _,_,.cons h t,n+1=>.cons h (aeh t n)
theorem ag8(G:RulG ns ls ms R)(y7:∀ x,x∈ks↔x∈E5 R)(R9:∀ p∈ps,l8 'f' ks p) :
  (ps.map (·.length)).sum<=14*ps.length/\(Str.join (Str.ofString "") ps).length<=14*ps.length/\(Str.join (Str.ofString "") ps).cps.toList=flatP ps/\W8 'f' (E5 R) (Str.join (Str.ofString "") ps):=by
 have iS:∀ p∈ps,l8 'f' (E5 R) p:=fun p hp=>(R9 p hp).imp (y7 p).mp id
 have X9:∀ p∈ps,eG 'f' (E5 R) p:=fun p hp=>(iS p hp).imp id And.left
 have hp14:∀ p,l8 'f' (E5 R) p->p.length<=14:=fun p hp=>by
  rcases hp with h | ⟨_,h⟩
  .rcases ag5 G p h with ⟨c,rfl⟩ | ⟨c,d,rfl⟩
   .show 1<=14;decide
   .show 2<=14;decide
  .exact h
 have qN:(ps.map (·.length)).sum<=14*ps.length:=by
  clear R9 X9
  induction ps with
  | nil=>exact B5 _
  | cons p ps ih=>
   have:=ih fun q hq=>iS q (N4 _ hq)
   have:=hp14 p (iS p O0)
   simp only [K5,List.sum_cons,K4];lia
 have hzj:(Str.join (Str.ofString "") ps).cps.toList=flatP ps:=ag2 ps;have m9:(flatP ps).length=(ps.map (·.length)).sum:=by
  rw [List.length_flatMap];exact congrArg List.sum (fR fun p _=>lenL p)
 exact ⟨qN,by rw [<- lenL,hzj,m9];exact qN,hzj,ajw G hzj X9⟩
theorem RulG.known_len(G:RulG ns ls ms R):(E5 R).length<=1000:=by
 unfold E5;rw [C4];have h1:=yB (D0 R);have h2:=yU (n:=19) fun z hz=>G.zl hz
 have h3:(X5 R).length<=1:=by unfold X5;split <;> simp
 have h4:=G.len;lia
theorem RulG.known_pos(G:RulG ns ls ms R)(y7:∀ x,x∈ks↔x∈E5 R):1<=ks.length:=by
 have h0:=G.l0;obtain ⟨l,hl⟩:∃ l,l∈ls:=by
  cases ls with
  | nil=>simp at h0
  | cons l r=>exact ⟨l,O0⟩
 have:=(y7 l).mpr (zF (D8.mpr ⟨_,G.letter.mpr hl,rfl⟩))
 exact List.length_pos_of_mem this
theorem zG{S:Str->List Tr}(hs:∀ y,(S y).length<=15){w:Bool}{y:Str}(hy:y.length<=500) :
  (P1 S (cutF w ks y.cps.toList).2).length<=10000/\(∀ u∈P1 S (cutF w ks y.cps.toList).2,u.2.2.1.length<=10000)/\aV (P1 S (cutF w ks y.cps.toList).2)<=100000:=by
 have h1:=tX hs (cutF w ks y.cps.toList).2;have h2:=(tS (w:=w) (g:=ks) _ y.cps.toList (B5 _)).2.1;have h3:=ag7 hs (cutF w ks y.cps.toList).2;rw [lenL] at h2;exact ⟨by lia,fun u hu=>by have:=h1.2 u hu;lia,by lia⟩
end L2
namespace PySem.SeqAt
open AutoSeq1 (wpAny_loadPart')
open MeetsSeq MeetsSeq2 MeetsSeq3 SeqRoads2
noncomputable def RcLt (A:Around) (s:Shared) (y x:Value) (b:Bool):Prop:=
 ∀ (prog:Program) (w:World) (E:Value->Shared->Prop) (Q:Value->Shared->Prop),Q (.bool b) s->wpAny (model prog w) A (richCompare .Lt y x) Q E s
theorem ala{α:Type}[DecidableEq α][LT α][DecidableLT α](y8:∀ a:α,¬ a<a){xs ys:List α}(h1:i<xs.length)(h2:i<ys.length) :
  decide (xs.drop i<ys.drop i)=if decide (xs[i]=ys[i])=true then decide (xs.drop (i+1)<ys.drop (i+1)) else decide (xs[i]<ys[i]):=by
 rw [aG h1,aG h2]
 by_cases e:xs[i]=ys[i]
 .rw [if_pos (decide_eq_true e)];refine decide_eq_decide.mpr ?_;rw [aI,e];exact ⟨fun h=>h.elim (fun h=>absurd h (y8 _)) (fun h=>h.2),fun h=>.inr ⟨rfl,h⟩⟩
 .rw [if_neg (by simpa using e)];refine decide_eq_decide.mpr ?_;rw [aI];exact ⟨fun h=>h.elim id fun h=>absurd h.1 e,.inl⟩
theorem ank{α:Type}[LT α][DecidableEq α][DecidableLT α]{ys:List α}{m':Nat}(hx:m=m')(hy:n=ys.length)(hi:i=m):decide ([]<ys.drop i)=decide (m<n):=by
 refine decide_eq_decide.mpr ?_;cases e:ys.drop i with
 | nil=>
  have:=List.drop_eq_nil_iff.mp e
  exact ⟨fun h=>absurd h (fV _),fun h=>by lia⟩
 | cons a r=>
  have:i<ys.length:=by
   rcases Nat.lt_or_ge i ys.length with h | h
   .exact h
   .rw [mM h] at e;cases e
  exact ⟨fun _=>by lia,fun _=>mS _ _⟩
theorem alb{α:Type}[DecidableEq α][LT α][DecidableLT α](y8:∀ a:α,¬ a<a)(l b:Addr)(items items2:Array Value)(n n2:Nat)(dd f7:Option Addr)(sl W5:Array (Option Value))(xs ys:List α)(hx:items.size=xs.length)(hy:items2.size=ys.length)(k:Nat) :
  ∀ i:Nat,items.size-i=k->i<=items.size->i<=items2.size->Meets (Builtin.«list.__eq__.loop» ⟨[.ref l,.ref b,rawInt i,rawInt 0],[]⟩)
   (fun A R s=>s.heap.get? l=some { cls:=.type "list",dict:=dd,data:=.seq items n,slots:=sl }/\s.heap.get? b=some { cls:=.type "list",dict:=f7,data:=.seq items2 n2,slots:=W5 }/\
    (∀ j (h1:j<items.size) (h2:j<items2.size) (g1:j<xs.length) (g2:j<ys.length),EqAt A.in1 s items[j] items2[j] (decide (xs[j]=ys[j]))/\RcLt A.in1 s items[j] items2[j] (decide (xs[j]<ys[j])))/\
    R (.ok (.ret (.bool (decide (xs.drop i<ys.drop i))))) s):=by
 induction k with
 | zero=>
  intro i hk l1 l2 prog w A R s h;obtain ⟨hp,g,d,tk,os⟩:=s;obtain ⟨hl,hb,he,h⟩:=h
  wp_walk using wpAny_loadPart' hl,wpAny_loadPart' hb
  have cU:items[((i:Nat):Int).toNat]?=none:=by simp;lia
  rw [cU]
  wp_walk using wpAny_loadPart' hl,wpAny_loadPart' hb
  show R (.ok (.ret (.bool (decide (items.size<items2.size))))) _;have e:decide (xs.drop i<ys.drop i)=decide (items.size<items2.size):=by
   rw [mM (as:=xs) 'a'];exact ank hx hy 'a'
  rw [e] at h;exact h
 | succ k ih=>
  intro i hk l1 l2 prog w A R s h;obtain ⟨hp,g,d,tk,os⟩:=s;obtain ⟨hl,hb,he,h⟩:=h
  wp_walk using wpAny_loadPart' hl,wpAny_loadPart' hb
  have C9:i<items.size:=by lia
  have cU:items[((i:Nat):Int).toNat]?=some items[i]:=by simp [C9]
  by_cases qO:i<items2.size
  .have t8:items2[((i:Nat):Int).toNat]?=some items2[i]:=by simp [qO]
   have hc:((i:Int)+1)=((i+1:Nat):Int):=by push_cast;rfl
   rw [cU,t8];obtain ⟨h1,h2⟩:=he i C9 qO 'a' 'a';rw [ala y8 'a' 'a'] at h;refine wpAny_bind (h1 prog w _ _ ?_);cases f9:decide (xs[i]'(by lia)=ys[i]'(by lia)) with
   | true=>
    rw [f9,if_pos rfl] at h
    wp_walk
    rw [hc];exact ⟨plainId_quiet plain_eq_loop _,codeAny_builtin entry_eq_loop (by
     rw [Around.under_plainId plain_eq_loop _];exact ih (i+1) 'a' 'a' 'a' prog w A R _ ⟨hl,hb,he,h⟩)⟩
   | false=>
    rw [f9,if_neg 'h'] at h
    wp_walk using wpAny_loadPart' hl,wpAny_loadPart' hb
    rw [cU,t8];refine wpAny_bind (h2 prog w _ _ ?_)
    wp_walk
    exact h
  .have t8:items2[((i:Nat):Int).toNat]?=none:=by simp;lia
   rw [cU,t8]
   wp_walk using wpAny_loadPart' hl,wpAny_loadPart' hb
   show R (.ok (.ret (.bool (decide (items.size<items2.size))))) _;have e:decide (xs.drop i<ys.drop i)=decide (items.size<items2.size):=by
    rw [mM (as:=ys) 'a'];refine decide_eq_decide.mpr ?_;exact ⟨fun h=>absurd h (fV _),fun h=>by lia⟩
   rw [e] at h;exact h
theorem alc{α:Type}[DecidableEq α][LT α][DecidableLT α](y8:∀ a:α,¬ a<a)(l b:Addr)(items items2:Array Value)(n n2:Nat)(dd f7:Option Addr)(sl W5:Array (Option Value))(xs ys:List α)(hx:items.size=xs.length)(hy:items2.size=ys.length) :
  Meets (Builtin.«list.__lt__» ⟨[.ref l,.ref b],[]⟩)
   (fun A R s=>s.heap.get? l=some { cls:=.type "list",dict:=dd,data:=.seq items n,slots:=sl }/\s.heap.get? b=some { cls:=.type "list",dict:=f7,data:=.seq items2 n2,slots:=W5 }/\
    (∀ j (h1:j<items.size) (h2:j<items2.size) (g1:j<xs.length) (g2:j<ys.length),EqAt A.in1 s items[j] items2[j] (decide (xs[j]=ys[j]))/\RcLt A.in1 s items[j] items2[j] (decide (xs[j]<ys[j])))/\
    R (.ok (.ret (.bool (decide (xs<ys))))) s):=by
 intro prog w A R s h;obtain ⟨hp,g,d,tk,os⟩:=s;obtain ⟨hl,hb,he,h⟩:=h;have f3:=AutoSeq1.sub_list_list
 wp_walk using wpAny_loadPart' hl,wpAny_loadPart' hb
 exact ⟨plainId_quiet plain_eq_loop _,codeAny_builtin entry_eq_loop (by
  rw [Around.under_plainId plain_eq_loop _];exact alb y8 l b items items2 n n2 dd f7 sl W5 xs ys hx hy _ 0 rfl (F9 _) (F9 _) prog w A R _ ⟨hl,hb,he,h⟩)⟩
theorem ajx{α:Type}[DecidableEq α][LT α][DecidableLT α](y8:∀ a:α,¬ a<a)(l b:Addr)(items items2:Array Value)(n n2:Nat)(dd f7:Option Addr)(sl W5:Array (Option Value))(xs ys:List α)(hx:items.size=xs.length)(hy:items2.size=ys.length) :
  Meets (Builtin.«tuple.__lt__» ⟨[.ref l,.ref b],[]⟩)
   (fun A R s=>s.heap.get? l=some { cls:=.type "tuple",dict:=dd,data:=.seq items n,slots:=sl }/\s.heap.get? b=some { cls:=.type "tuple",dict:=f7,data:=.seq items2 n2,slots:=W5 }/\
    (∀ j (h1:j<items.size) (h2:j<items2.size) (g1:j<xs.length) (g2:j<ys.length),EqAt A.in1 s items[j] items2[j] (decide (xs[j]=ys[j]))/\RcLt A.in1 s items[j] items2[j] (decide (xs[j]<ys[j])))/\
    R (.ok (.ret (.bool (decide (xs<ys))))) s):=
 .of_wp fun prog w A R s h=>by
  obtain ⟨hp,g,d,tk,os⟩:=s;obtain ⟨hl,hb,he,h⟩:=h;have f2:=AutoSeq1.sub_tuple_tuple;have hZ:(items.toList.zip items2.toList).length=min items.size items2.size:=by simp
  wp_walk using wpAny_loadPart' hl,wpAny_loadPart' hb,wpAny_forIn_list _ (fun rest b s'=>b.1=none/\s'=⟨hp,g,d,tk,os⟩/\∃ i,rest=(items.toList.zip items2.toList).drop i/\i<=min items.size items2.size/\
   R (.ok (.ret (.bool (decide (xs.drop i<ys.drop i))))) ⟨hp,g,d,tk,os⟩) _
  case turn=>
   rintro ⟨y,x⟩ rest b s' ⟨f9,rfl,i,hz,hi,hR⟩;have C9:i<(items.toList.zip items2.toList).length:=by
    rcases Nat.lt_or_ge i (items.toList.zip items2.toList).length with h' | h'
    .exact h'
    .rw [mL h'] at hz;cases hz
   have hm:i<min items.size items2.size:=hZ ▸ C9;have h1:i<items.size:=T4 hm (fW _ _);have h2:i<items2.size:=T4 hm (mX _ _);rw [aG C9] at hz
   injection hz with hyx V4
   have vO:y=items[i]:=by have:=congrArg Prod.fst hyx;simpa using this
   have hx':x=items2[i]:=by have:=congrArg Prod.snd hyx;simpa using this
   subst vO hx';rw [ala y8 'a' 'a'] at hR;obtain ⟨q1,q2⟩:=he i h1 h2 'a' 'a';refine wpAny_bind (q1 prog w _ _ ?_);cases vO:decide (xs[i]'(by lia)=ys[i]'(by lia)) with
   | true=>
    rw [vO,if_pos rfl] at hR
    wp_walk
    exact ⟨rfl,rfl,i+1,V4,hm,hR⟩
   | false=>
    rw [vO,if_neg 'h'] at hR;refine wpAny_ite_split (fun _=>?_) (fun V5=>absurd rfl V5);refine wpAny_bind (wpAny_rule ?_);refine wpAny_bind (q2 prog w _ _ ?_)
    wp_walk
    exact ⟨_,rfl,hR⟩
  case fin=>
   rintro ⟨b1,b2⟩ s' ⟨f9,rfl,i,hz,hi,hR⟩;simp only at f9;subst f9;have lU:min items.size items2.size<=i:=by
    rcases Nat.lt_or_ge i (items.toList.zip items2.toList).length with h' | h'
    .rw [aG h'] at hz;cases hz
    .exact hZ ▸ h'
   have e:decide (xs.drop i<ys.drop i)=decide (items.size<items2.size):=by
    by_cases hc:items.size<=i
    .rw [mM (as:=xs) 'a'];exact ank hx hy 'a'
    .rw [mM (as:=ys) 'a'];refine decide_eq_decide.mpr ?_;exact ⟨fun h=>absurd h (fV _),fun h=>by lia⟩
   rw [e] at hR
   wp_walk
   exact ⟨_,rfl,by simpa [Builtin.Tuple.tupleCompareSizes] using hR⟩
  case h=>
   exact ⟨rfl,rfl,0,rfl,F9 _,h⟩
section
variable {A:Around} {s:Shared}
theorem RcLt.lists{α:Type}[DecidableEq α][LT α][DecidableLT α](y8:∀ a:α,¬ a<a){l:Addr}{xs ys:List α}(hl:s.heap.IsList l items)(hb:s.heap.IsList b items2)(hx:items.size=xs.length)(hy:items2.size=ys.length)(hu:A.units<cLine)(he:∀ j (h1:j<items.size) (h2:j<items2.size) (g1:j<xs.length) (g2:j<ys.length),EqAt A.in1 s items[j] items2[j] (decide (xs[j]=ys[j]))/\RcLt A.in1 s items[j] items2[j] (decide (xs[j]<ys[j]))):RcLt A s (.ref l) (.ref b) (decide (xs<ys)):=fun prog w E Q h=>by
 obtain ⟨⟨cls,dd,data,sl⟩,ho,hc,n,hd⟩:=id hl;obtain ⟨⟨cls2,f7,data2,W5⟩,m7,Q9,n2,O5⟩:=id hb;simp only at hc hd Q9 O5;subst hc hd Q9 O5;exact richCompare_meets_room (op:=.Lt) ⟨_,ho,rfl⟩ ⟨_,m7,rfl⟩ F.slot_list_lt F.entry_list_lt (F.args_list_lt_2 _ _) (alc y8 l b items items2 n n2 dd f7 sl W5 xs ys hx hy)
  ⟨ho,m7,he,show Value.bool (decide (xs<ys))≠Value.notImplemented/\Q (.bool (decide (xs<ys))) s from ⟨(fun x=>nomatch x),h⟩⟩ hu
theorem RcLt.tuples{α:Type}[DecidableEq α][LT α][DecidableLT α](y8:∀ a:α,¬ a<a){l:Addr}{xs ys:List α}(hl:s.heap.IsTuple l items)(hb:s.heap.IsTuple b items2)(hx:items.size=xs.length)(hy:items2.size=ys.length)(hu:A.units<cLine)(he:∀ j (h1:j<items.size) (h2:j<items2.size) (g1:j<xs.length) (g2:j<ys.length),EqAt A.in1 s items[j] items2[j] (decide (xs[j]=ys[j]))/\RcLt A.in1 s items[j] items2[j] (decide (xs[j]<ys[j]))):RcLt A s (.ref l) (.ref b) (decide (xs<ys)):=fun prog w E Q h=>by
 obtain ⟨⟨cls,dd,data,sl⟩,ho,hc,n,hd⟩:=id hl;obtain ⟨⟨cls2,f7,data2,W5⟩,m7,Q9,n2,O5⟩:=id hb;simp only at hc hd Q9 O5;subst hc hd Q9 O5;exact richCompare_meets_room (op:=.Lt) ⟨_,ho,rfl⟩ ⟨_,m7,rfl⟩ F.slot_tuple_lt F.entry_tuple_lt (F.args_tuple_lt_2 _ _) (ajx y8 l b items items2 n n2 dd f7 sl W5 xs ys hx hy)
  ⟨ho,m7,he,show Value.bool (decide (xs<ys))≠Value.notImplemented/\Q (.bool (decide (xs<ys))) s from ⟨(fun x=>nomatch x),h⟩⟩ hu
theorem RcLt.int_int(a:Int)(t:Tok)(b:Int)(u:Tok):RcLt A s (.int a t) (.int b u) (decide (a<b)):=fun prog w E Q h=>PySem.P.lt_int h
end
end PySem.SeqAt
namespace L2
open PySem PySem.Spec PyProof.Rows
theorem zH{its2:List Value}{xs ys:List Int}(r1:Vals (xs.map V.int) its)(r2:Vals (ys.map V.int) its2) :
  ∀ j (h1:j<its.toArray.size) (h2:j<its2.toArray.size) (g1:j<xs.length) (g2:j<ys.length),SeqAt.EqAt A s its.toArray[j] its2.toArray[j] (decide (xs[j]=ys[j]))/\SeqAt.RcLt A s its.toArray[j] its2.toArray[j] (decide (xs[j]<ys[j])):=by
 intro j h1 h2 g1 g2;obtain ⟨t,e1⟩:=tF (sI r1) (j:=j) (z:=xs[j]) 'c';obtain ⟨u,e2⟩:=tF (sI r2) (j:=j) (z:=ys[j]) 'c';have q1:its.toArray[j]=.int xs[j] t:=by have:=(G2.mp e1).2;simpa using this
 have q2:its2.toArray[j]=.int ys[j] u:=by have:=(G2.mp e2).2;simpa using this
 rw [q1,q2];refine ⟨?_,SeqAt.RcLt.int_int _ _ _ _⟩
 have:=SeqAt.EqAt.int_int (A:=A) (s:=s) xs[j] t ys[j] u
 rwa [show (xs[j]==ys[j])=decide (xs[j]=ys[j]) by rw [Bool.beq_eq_decide_eq]] at this
noncomputable def rLtR (K:PySem.W.Frag) (a b:Addr) (H:Hp) (Q:VK):Prop:=
 (∃ xs ys:List Int,D9 K H a (xs.map V.int)/\D9 K H b (ys.map V.int)/\Q (.bl (decide (xs<ys))) H)\/
 (∃ xs ys:List Int,C6 K H a (xs.map V.int)/\C6 K H b (ys.map V.int)/\Q (.bl (decide (xs<ys))) H)\/
 ∃ (as bs:List Addr) (xs ys:List (List Int)),D9 K H a (as.map V.ref)/\D9 K H b (bs.map V.ref)/\Paired (fun c x=>C6 K H c (x.map V.int)) as xs/\Paired (fun c x=>C6 K H c (x.map V.int)) bs ys/\Q (.bl (decide (xs<ys))) H
noncomputable def rLtK (K:PySem.W.Frag):V->V->Hp->VK->Prop
 | .int i,.int j,H,Q=>Q (.bl (decide (i<j))) H
 | .str i,.str j,H,Q=>Q (.bl (decide (i.cps.toList<j.cps.toList))) H
 | .ref a,.ref b,H,Q=>rLtR K a b H Q
 | _,_,_,_=>False
theorem q_ltK(hu:X.A.units+64<cLine)(hK:X.K=K:=by rfl):QOp X (compareOp .Lt) (rLtK K):=⟨by
 subst hK;sleep 0;have u0:X.A.units<cLine:=by lia
 have u1:X.A.in1.units<cLine:=by rw [show X.A.in1.units=X.A.units+1 from rfl];lia
 have u2:X.A.in1.in1.units<cLine:=by rw [show X.A.in1.in1.units=X.A.units+2 from rfl];lia
 cases x <;> cases y <;> try exact h.elim
 .exact op_lt pins s Y H _ _ v u Q I rx ry ⟨_,_,rfl,rfl,h⟩
 .exact agk pins s Y H _ _ v u Q I rx ry ⟨_,_,rfl,rfl,h⟩
 cases rx
 cases ry
 rcases h with ⟨xs,ys,h1,h2,q⟩ | ⟨xs,ys,h1,h2,q⟩ | ⟨as,bs,xs,ys,h1,h2,p1,p2,q⟩
 .obtain ⟨its,r1,l1,_⟩:=I.list h1;obtain ⟨its2,r2,l2,_⟩:=I.list h2;have e1:=r1.length;have e2:=r2.length;rw [A6] at e1 e2;exact SeqAt.RcLt.lists aN l1.isList l2.isList (by simpa using e1.symm) (by simpa using e2.symm) u0 (zH r1 r2) _ _ _ _ ⟨.bl _,H,I,rfl,q⟩
 .obtain ⟨its,r1,l1,_⟩:=I.tuple h1;obtain ⟨its2,r2,l2,_⟩:=I.tuple h2;have e1:=r1.length;have e2:=r2.length;rw [A6] at e1 e2;exact SeqAt.RcLt.tuples aN l1 l2 (by simpa using e1.symm) (by simpa using e2.symm) u0 (zH r1 r2) _ _ _ _ ⟨.bl _,H,I,rfl,q⟩
 .obtain ⟨its,r1,l1,_⟩:=I.list h1;obtain ⟨its2,r2,l2,_⟩:=I.list h2;have e1:=r1.length;have e2:=r2.length;rw [A6] at e1 e2;have f1:=Paired.length p1;have f2:=Paired.length p2;refine SeqAt.RcLt.lists (xs:=xs) (ys:=ys) (fun a=>List.lt_irrefl a) l1.isList l2.isList (by simp;lia) (by simp;lia) u0 (fun j h1 h2 g1 g2=>?_) _ _ _ _ ⟨.bl _,H,I,rfl,q⟩;have j1:j<as.length:=by lia
  have j2:j<bs.length:=by lia
  obtain ⟨v1,w1,z1⟩:=Vals.get (i:=j) (x:=.ref as[j]) r1 (by simp [j1]);obtain ⟨v2,w2,z2⟩:=Vals.get (i:=j) (x:=.ref bs[j]) r2 (by simp [j2]);have q1:its.toArray[j]=v1:=by have:=(G2.mp w1).2;simpa using this
  have q2:its2.toArray[j]=v2:=by have:=(G2.mp w2).2;simpa using this
  rw [q1,q2];obtain ⟨x1,y1,t1⟩:=Paired.at p1 (i:=j) (a:=as[j]) (by simp [j1]);obtain ⟨x2,y2,t2⟩:=Paired.at p2 (i:=j) (a:=bs[j]) (by simp [j2]);have o1:xs[j]=x1:=(G2.mp y1).2;have o2:ys[j]=x2:=(G2.mp y2).2;rw [o1,o2]
  constructor
  .obtain ⟨c1,us1,d1⟩:=(Dn.tup t1 g7).reads I rfl z1;obtain ⟨c2,us2,d2⟩:=(Dn.tup t2 g7).reads I rfl z2
   have:=SeqAt.eqAt_reads _ _ X.A.in1 s v1 v2 _ _ d1 d2 c1 c2 (by
    have hd:∀ zs:List Int,(PyData.tuple (zs.map bV)).depth=1:=fun zs=>by rw [g4,dX]
    have ui:X.A.in1.units=X.A.units+1:=rfl;rw [hd,hd];lia)
   rwa [P7,kD] at this
  .cases z1
   cases z2
   obtain ⟨i1,s1,m1,_⟩:=I.tuple t1;obtain ⟨i2,s2,m2,_⟩:=I.tuple t2;have k1:=s1.length;have k2:=s2.length;rw [A6] at k1 k2;exact SeqAt.RcLt.tuples aN m1 m2 (by simpa using k1.symm) (by simpa using k2.symm) u1 (zH s1 s2)⟩
section
variable {K:PySem.W.Frag} {H:Hp} {Q:VK}
theorem arD{i j:Int} : rLtK K (.int i) (.int j) H Q=Q (.bl (decide (i<j))) H:=rfl
theorem arE{i j:Str} : rLtK K (.str i) (.str j) H Q=Q (.bl (decide (i.cps.toList<j.cps.toList))) H:=rfl
theorem arF : rLtK K (.ref a) (.ref b) H Q=rLtR K a b H Q:=rfl
end
noncomputable def iDict (tl:TE):TI:=fun Y H R=>tl Y H fun x H1=>∃ a kvs,x=.ref a/\H1 a=some (.dK kvs)/\∀ o,R (cG a o kvs) (A0 H1 a (.frz o (.dK kvs)))
theorem aoW{l:Expr}(hl:PE X l tl):PI X tg l (iDict tl):=by
 intro pins s Y H R I h;refine B3 (hl pins s Y H _ I h) fun v s1 ⟨x,H1,I1,r1,q1⟩=>?_
 obtain ⟨a,kvs,rfl,e,q⟩:=q1
 cases r1
 obtain ⟨z,hd,vs,rel,dd⟩:=dk_of I1.hok e;obtain ⟨ep,K1⟩:=dd.dictAt;obtain ⟨o,es,ho,V4⟩:=id K1;refine wpAny_pyIter_dict hd K1 ?_;have NF:∀ o' v',X.H₀ a≠some (.frz o' v'):=fun o' v' z=>by
  have:=I1.base.frzs _ _ _ z
  rw [e] at this;cases this
 have I1':Inv X pins Y H1 { s1 with heap:=s1.heap.push { cls:=.type "dict_keyiterator",data:=.fields #[.ref a,.int 0 0,.int vs.length 0,.int ep 0] } }:=I1.kept (t':=s1.toks) fun b u e=>Heap.get?_push_of_some _ e
 have I2:=I1'.swap (u':=.frz o (.dK kvs)) e (fun _ q=>by cases q) (fun _ q=>by cases q) (fun _ q=>by cases q) NF ⟨Heap.get?_push_of_some _ ho,I1'.hok a _ e⟩;have T:Turn X.prog X.w X.K tg (cG a o kvs) [s1.heap.objs.size] s1.heap.objs.size (fun i h=>h.IsKeyIter s1.heap.objs.size a i vs.length ep):=agL a _ o kvs vs ep (fun h e=>⟨o,es,e,V4⟩) rel;have X7:A0 H1 a (.frz o (.dK kvs)) s1.heap.objs.size=none:=by rw [B1 (fun q=>by rw [<- q,I1.fresh] at e;cases e)];exact I1.fresh
 refine ⟨s1.heap.objs.size,[s1.heap.objs.size],_,_,_,rfl,I2,T,⟨_,Heap.get?_push_size _ rfl,rfl,rfl⟩,fun b hb=>?_,q o⟩;have e:b=s1.heap.objs.size:=by simpa using hb
 subst e;exact I1.fpOk (B5 _) X7
theorem ald{K:PySem.W.Frag}{l:Expr}(hl:QE X l tl):QI X tg l (iDict tl):=⟨aoW hl.out⟩
theorem amJ{R:It->Hp->Prop} : iDict tl Y H R=tl Y H fun x H1=>∃ a kvs,x=.ref a/\H1 a=some (.dK kvs)/\∀ o,R (cG a o kvs) (A0 H1 a (.frz o (.dK kvs))):=rfl
noncomputable def tThaw (te:TE):TE:=fun Y H Q=>∃ a kvs,H a=some (.dK kvs)/\te Y H fun v H'=>(∃ o,H' a=some (.frz o (.dK kvs)))/\Q v (A0 H' a (.dK kvs))
theorem aoX : tThaw te Y H Q=∃ a kvs,H a=some (.dK kvs)/\te Y H fun v H'=>(∃ o,H' a=some (.frz o (.dK kvs)))/\Q v (A0 H' a (.dK kvs)):=rfl
section
variable {X:Cx} {pos pos':Pos} {tg e elt:Expr} {ifs:List Expr} {wi:TI} {k:Nat} {ixs:List Nat} {sc:Scope} {N':List Str} {g:TG} {tA:TT} {te:TE} {x:Str}
noncomputable def anl (ts:TS):TS:=fun D Y H=>∃ a kvs,H a=some (.dK kvs)/\ts (D.thaw a kvs) Y H
theorem ae5(hN:X.N.Nodup)(hiN:X.N[n]?=some x)(hx:o7 X.env.scope x)(C:CompOk X.N X.env.scope.names sc N' k ixs)(hi:QI X tg e wi)(hg:∀ C zw zt fp pins,QG (N6 X sc N' C zw zt fp pins) tg g)(hc:∀ C zw zt fp pins,QIfs (N6 X sc N' C zw zt fp pins) ifs tA)(he:∀ C zw zt fp pins,QE (N6 X sc N' C zw zt fp pins) elt te)(pZ:swapsWith (.ListComp elt [⟨tg,e,ifs,0⟩] sc pos) (some (.Name x pos')) spos.line X.env=pure true:=by rfl)(L8:X.calm=true:=by rfl)(hf:X.fn x=true:=by rfl)(hs:∀ x,foldedSetIterable e X.env x=pure x:=by intro _;rfl) :
  QS X (.Assign [.Name x pos'] (.ListComp elt [⟨tg,e,ifs,0⟩] sc pos) spos) (anl (tAsg (tComp wi k ixs g tA te) (gName n))):=⟨by
 intro pins s Y H D I q;obtain ⟨a,kvs,e1,q⟩:=q;have NF:∀ o' v',X.H₀ a≠some (.frz o' v'):=fun o' v' z=>by
  have:=I.base.frzs _ _ _ z
  rw [e1] at this;cases this
 have thaw:∀ {σ':St} {H':Hp} {s':Shared},Inv X pins σ' H' s'->(∃ o,H' a=some (.frz o (.dK kvs)))->Inv X pins σ' (A0 H' a (.dK kvs)) s':=fun {σ' H' s'} I' ⟨o',e'⟩=>
  I'.swap e' (fun _ q=>by cases q) (fun _ q=>by cases q) (fun _ q=>by cases q) NF (I'.hok a _ e').2
 refine B3 ((gK hN hiN hx C hi hg hc he pZ L8 hf hs).out pins s Y H _ I q) fun f s7 q7=>?_
 cases f with
 | next=>obtain ⟨σ7,H7,I7,q7⟩:=q7;exact ⟨σ7,_,thaw I7 q7.1,q7.2⟩
 | cont=>obtain ⟨σ7,H7,I7,q7⟩:=q7;exact q7.elim
 | brk=>obtain ⟨σ7,H7,I7,q7⟩:=q7;exact q7.elim
 | ret v=>obtain ⟨x7,σ7,H7,I7,r7,q7⟩:=q7;exact ⟨x7,σ7,_,thaw I7 q7.1,r7,q7.2⟩⟩
theorem amK{ts:TS} : anl ts D Y H=∃ a kvs,H a=some (.dK kvs)/\ts (D.thaw a kvs) Y H:=rfl
end
theorem compD(fr:St)(X7:compStart 1 ixs Y=none::fr)(Pv:Addr->Nat->List V->Hp->Prop)(h0:∀ D,H1 D=none->Pv D 0 [] (A0 H1 D (.lst [])))(hl:∀ D i ys H,H1 D=none->i<=kvs.length->Pv D i ys H->H a=some (.frz o (.dK kvs)))(hs:∀ D i k v ys H,H1 D=none->i<kvs.length->kvs[i]?=some (k,v)->Pv D i ys H->H D=some (.lst ys)->ys.length<=i->c (some (kV k)::fr) H fun b H4=>
   if b=true then te (some (kV k)::fr) H4 fun y H5=>H5 D=some (.lst ys)/\ys.length<sizeLine/\CW kvs.length fr (Pv D) (i+1) (ys++[y]) (some (kV k)::fr) (A0 H5 D (.lst (ys++[y])))
   else H4 D=some (.lst ys)/\CW kvs.length fr (Pv D) (i+1) ys (some (kV k)::fr) H4)(hd:∀ D ys H,H1 D=none->Pv D kvs.length ys H->H D=some (.lst ys)->ys.length<=kvs.length->Q (.ref D) H):cF (cG a o kvs) 1 ixs (gName 0) c te Y Q H1:=by
 intro D hD;refine ⟨kvs.length,CW kvs.length fr (Pv D),⟨F9 _,F9 _,⟨none,X7⟩,h0 D hD⟩,?_⟩;rintro i ys σ2 H2 ⟨hi,hy,⟨v,rfl⟩,p⟩ hDy;have q:=hl D i ys H2 hD hi p
 by_cases C9:i<kvs.length
 .refine .inr ⟨C9,⟨q,C9⟩,fun x H' y=>?_⟩;obtain ⟨rfl,k,w,e,rfl⟩:=y;exact hs D i k w ys _ hD C9 e p hDy hy
 .have e:i=kvs.length:=by lia
  subst e;exact .inl ⟨⟨q,B5 _⟩,hd D ys H2 hD p hDy hy⟩
end L2
open L2 in
local macro_rules | `(tactic| walk_at "rd")=>`(tactic| simp only [↓am1,↓ap_c,↓an3,↓aqT,↓al5,↓an4,↓an5,↓aqU,↓an6,↓aqV,↓aqW,↓an7,↓ap_op,↓anY,↓ap_tB,↓aqR,↓aqQ,↓ap_or,↓an1,↓aqS,↓an2,↓an0,↓ap_if,↓al4,↓ap_cb,↓aob,↓aqZ,↓aoc,↓aq0,↓aq1,↓ap_sl,↓akl,↓aod,↓aq4,↓aon,↓al9,↓aol,↓aom,↓ama,↓amb,↓ap_bm,↓aq2,↓aqX,↓an9,↓an8,↓al7,↓aoa,↓ap_un,↓ap_rU,↓aqY,↓aq3,↓aoe,↓aof,↓aog,↓aoh,↓al6,↓aoi,↓al8,↓aoj,↓anZ,aok,aoo,amc,amd,ame,↓ad_ii,↓ad_ss,↓ad_rr,↓mu_ii,↓mu_ri,↓eq_ii,↓eq_ss,↓eq_bb,↓eq_rx,↓eq_xr,↓ne_ii,↓ne_ss,↓ne_bb,↓ne_rx,↓ne_xr,↓L2.lt_ii,↓L2.lt_ss,↓le_ii,↓le_ss,↓gt_ii,↓gt_ss,↓ge_ii,↓ge_ss,↓in_xs,↓in_xr,↓sl_s,↓sl_r,↓len_s,↓len_r,↓aq7,↓all_r,↓isi_t,↓ord_s,↓arc,↓ami,am7,↓amj,↓tup_r,↓aov,↓ard,↓are,↓aow,↓aox,↓aml,↓amm,↓aop,↓aoq,↓aoU,↓aoV,↓aoX,↓amK,↓amJ,↓arD,↓arE,↓arF,↓arA,↓aru,↓art,↓aoJ,↓akM,↓arv,↓arw,↓arx,↓any_r,↓amv,↓aoE,↓aoF,↓arj,↓aoG,↓amx,↓aoy,↓amr,↓aoA,↓amq,amf,agA,cxK,cxKn,cxKb,cxC,cxCn,cxCb,K5,List.map_nil,K4,Y6,Nat.sub_self,Nat.reduceAdd,Nat.reduceSub,Nat.zero_add,Nat.add_one_sub_one,List.replicate_zero,jN,K9,List.nil_append,mU,List.getElem?_cons_zero,List.getElem?_cons_succ,List.set_cons_zero,List.set_cons_succ,Option.some.injEq,Option.join_some,Option.join_none,exists_eq_left',exists_eq_left,exists_eq',exists_eq,reduceCtorEq,false_and,and_false,exists_false,exists_const,false_or,or_false,true_and,and_true,V.str.injEq,V.int.injEq,V.bl.injEq,V.ref.injEq,V.ty.injEq,o4.injEq,exists_and_left,exists_and_right,and_assoc,if_true,if_false,mY,Bool.not_true,Bool.not_false,ite_true,ite_false,Int.reduceLT,Int.reduceLE,F9])
namespace K41
open PySem PySem.Spec PyProof.Rows L2
set_option maxHeartbeats 4000000
noncomputable def top (i:Nat):Stmt:=PySem.Challenge.pw_sortlore_k41_compared.main.body.getD i (.Pass ⟨0,0,0,0⟩)
noncomputable abbrev aW:Stmt:=top 7
noncomputable abbrev g9:Stmt:=top 8
noncomputable abbrev aX:Stmt:=top 11
noncomputable abbrev T7:Stmt:=top 14
noncomputable abbrev uB:Stmt:=top 16
noncomputable abbrev oP:Stmt:=top 26
noncomputable abbrev uC:Stmt:=top 27
noncomputable abbrev eI:Stmt:=top 28
noncomputable abbrev q0:Stmt:=top 29
noncomputable abbrev cI:Stmt:=top 30
noncomputable abbrev cJ:Stmt:=top 31
noncomputable abbrev oQ:Stmt:=top 32
noncomputable abbrev eJ:Stmt:=top 33
noncomputable abbrev R7:Stmt:=top 34
noncomputable abbrev eK:Stmt:=jZ (top 35) 0
noncomputable abbrev gU:Stmt:=jZ (top 35) 1
noncomputable abbrev gW:Stmt:=jZ (top 35) 2
noncomputable abbrev eL:Stmt:=jZ (top 35) 3
noncomputable abbrev gX:Stmt:=top 17
noncomputable abbrev cK:Stmt:=top 18
noncomputable abbrev s_cut:Stmt:=top 19
noncomputable abbrev gY:Stmt:=jZ (top 35) 4
noncomputable abbrev eM:Stmt:=jZ (top 35) 5
noncomputable abbrev oR:Stmt:=top 37
noncomputable abbrev oS:Stmt:=top 38
noncomputable abbrev oT:Stmt:=top 39
noncomputable abbrev q9:Stmt:=top 40
noncomputable abbrev aY:Stmt:=top 41
noncomputable abbrev r8:Stmt:=top 43
noncomputable abbrev Z2:Stmt:=top 44
noncomputable abbrev oU:Stmt:=top 46
noncomputable abbrev cL:Stmt:=top 47
noncomputable abbrev W3:Stmt:=top 48
noncomputable abbrev gZ:Stmt:=top 49
noncomputable abbrev kX:Stmt:=top 50
noncomputable abbrev R8:Stmt:=top 51
noncomputable abbrev f6:Stmt:=top 52
noncomputable abbrev cM:Stmt:=top 53
noncomputable abbrev l9:Stmt:=top 54
noncomputable abbrev m5:Stmt:=top 55
noncomputable abbrev t5:Stmt:=top 56
noncomputable abbrev V3:Stmt:=top 57
noncomputable abbrev i0:Stmt:=top 58
noncomputable abbrev kY:Stmt:=top 59
noncomputable abbrev W9:Stmt:=top 60
noncomputable abbrev oV:Stmt:=top 61
noncomputable abbrev i3:Stmt:=top 62
noncomputable abbrev aZ:Stmt:=top 63
noncomputable abbrev oW:Stmt:=top 64
noncomputable abbrev s_law:Stmt:=top 65
noncomputable def visB (S:Scope) (x:Str):Bool:=decide (S.names.lookup x=some .local) || decide (S.names.lookup x=some .cell) || decide (S.names.lookup x=some .free)
theorem qvd{pos:Pos}{S:Scope}{x:Str}(hN:X.N=N)(hs:X.env.scope=S)(h:(decide (N[n]?=some x)&&visB S x && !(x==("__debug__" : Str)) && !(x==("__classdict__" : Str)))=true):QE X (.Name x pos) (tVar n):=by
 subst hN hs;simp only [visB,T5,Bool.or_eq_true,decide_eq_true_eq,mZ] at h;exact qe_v h.1.1.1 (h.1.1.2.elim (fun z=>z.elim .inl fun z=>.inr (.inl z)) fun z=>.inr (.inr z)) h.1.2 h.2
theorem len1{α:Type}{F:List α->Prop}(h:∀ a,F [a]):∀ us:List α,us.length=1->F us
 | [a],_=>h a
theorem len2{α:Type}{F:List α->Prop}(h:∀ a b,F [a,b]):∀ us:List α,us.length=2->F us
 | [a,b],_=>h a b
theorem len3{α:Type}{F:List α->Prop}(h:∀ a b c,F [a,b,c]):∀ us:List α,us.length=3->F us
 | [a,b,c],_=>h a b c
theorem len4{α:Type}{F:List α->Prop}(h:∀ a b c d,F [a,b,c,d]):∀ us:List α,us.length=4->F us
 | [a,b,c,d],_=>h a b c d
theorem len5{α:Type}{F:List α->Prop}(h:∀ a b c d e,F [a,b,c,d,e]):∀ us:List α,us.length=5->F us
 | [a,b,c,d,e],_=>h a b c d e
theorem G1{Q:List Str}{sc:Scope}(h1:sc.kind=.function:=by rfl)(h2:sc.isCoroutine=false:=by rfl)(h3:sc.isGenerator=false:=by rfl)(h4:N.Nodup:=by decide +kernel)(h5:N.take Q.length=Q:=by rfl)(h6:∀ x∈Q,sc.names.lookup x=some .local\/sc.names.lookup x=some .cell:=by decide +kernel)(h7:∀ y∈sc.names,y.2≠.free:=by decide +kernel):FnScope N Q sc:=⟨h1,h2,h3,h4,h5,h6,h7⟩
theorem T9{kn:List (Str×NameKind)}{sc:Scope}(h1:sc.kind=.function:=by rfl)(h2:∀ x∈sc.names,x.2≠.cell:=by decide +kernel)(h3:∀ x∈sc.names,x.2=.local->sc.names.lookup x.1=some .local:=by decide +kernel)(h4:∀ x∈sc.names,x.2=.free->kn.lookup x.1=some .cell\/kn.lookup x.1=some .free:=by decide +kernel)(h5:∀ x∈sc.names,x.2=.free->sc.names.lookup x.1=some .free:=by decide +kernel)(h6:N'.length=k+ixs.length:=by rfl)(h7:ixs.map (fun i=>N[i]?)=(N'.drop k).map some:=by decide +kernel)(h8:∀ x∈N'.drop k,(x,NameKind.free)∈sc.names:=by decide +kernel):CompOk N kn sc N' k ixs:=⟨h1,h2,h3,h4,h5,h6,h7,h8⟩
theorem hm(r:Room k A)(h:j<=k:=by decide):Room j A:=r.mono h
structure DF(K:PySem.W.Frag)(n:Str)(s:Stmt):Prop where
 ex:∃ (f:Addr) (oc:Value) (od:Option Addr) (kV dc pm:Value) (an:Option Addr) (cd ct:Value) (sl:Array (Option Value)),Q6 K mainGlobals n=some (some (.ref f))/\K.lookup f=some ⟨oc,od,.func (V9 n n (X4 s) (W6 s) (C3 s) .none kV dc pm an cd ct),sl⟩/\b8 K cd n=true/\X3 K (.ref f)=true
theorem df_mk{n:Str}{s:Stmt}{kV dc:Value}{sl:Array (Option Value)}(a:Q6 K mainGlobals n=some (some (.ref f)))(l:K.lookup f=some ⟨oc,od,.func (V9 n n (X4 s) (W6 s) (C3 s) .none kV dc pm an cd ct),sl⟩)(c:b8 K cd n=true)(k:X3 K (.ref f)=true):DF K n s:=⟨f,oc,od,kV,dc,pm,an,cd,ct,sl,a,l,c,k⟩
theorem DF.go{P:Program}{w:World}{base:Heap}{n:Str}{s:Stmt}(d:DF K n s)(X:K.In h)(G:h.Ns mainGlobals mg)(_:K.In base)(ok:∀ {f fd},FunD K n n s f fd->FnOk P w K mg base E6 k f fd ps sp)(hl:∀ (kV dc pm:Value) (an:Option Addr) (cd ct:Value) (us:List Value),us.length=ps.length->bindArgs (V9 n n (X4 s) (W6 s) (C3 s) .none kV dc pm an cd ct) ⟨us,[]⟩=pure (ps.zip us):=by first | exact fun _ _ _ _ _ _=>len1 fun _=>rfl | exact fun _ _ _ _ _ _=>len2 fun _ _=>rfl | exact fun _ _ _ _ _ _=>len3 fun _ _ _=>rfl | exact fun _ _ _ _ _ _=>len4 fun _ _ _ _=>rfl | exact fun _ _ _ _ _ _=>len5 fun _ _ _ _ _=>rfl):FO P w K mg base k n ps [] sp:=by
 obtain ⟨f,oc,od,kV,dc,pm,an,cd,ct,sl,a,l,c,kp⟩:=d.ex;exact ⟨_,_,ok (aR (st:=s) l c),o5 X G a,kp,[],.all (hl kV dc pm an cd ct),.nil⟩
structure Txt(P:Program)(w:World)(K:PySem.W.Frag)(mg:Str->Option Value)(C:Addr):Prop where
 cl:Cls K C
 na_figures:NoAttr K C "figures"
 na_behind:NoAttr K C "behind"
 na_jobs:NoAttr K C "jobs"
 na_letter_line:NoAttr K C "letter_line"
 na_mark_line:NoAttr K C "mark_line"
 na_made:NoAttr K C "made"
 b_any:mg "any"=none
 b_bool:mg "bool"=none
 b_dict:mg "dict"=none
 b_enumerate:mg "enumerate"=none
 b_int:mg "int"=none
 b_isinstance:mg "isinstance"=none
 b_len:mg "len"=none
 b_list:mg "list"=none
 b_min:mg "min"=none
 b_range:mg "range"=none
 b_str:mg "str"=none
 b_tuple:mg "tuple"=none
 b_zip:mg "zip"=none
 g_MARK:∃ t,mg "MARK"=some (.int 0 t)
 g_LETTER:∃ t,mg "LETTER"=some (.int 2 t)
 g_FIGURES:∃ t,mg "FIGURES"=some (.int 1 t)
 x_JOBS:∃ a,mg "JOBS"=some (.ref a)/\ModD P w K a [((Sum.inr ("row" : Str):C5),V.str "letter"),((Sum.inr ("marks" : Str):C5),V.str "mark"),((Sum.inr 'e':C5),V.str "great"),((Sum.inr ("as" : Str):C5),V.str "as"),((Sum.inr ("over" : Str):C5),V.str "over")]
 x_AGAIN:∃ a,mg "AGAIN"=some (.ref a)/\∀ H:Hp,C6 K H a [V.str "letter",V.str "mark",V.str "over"]
theorem ale{d:Value}(h:(us++[d]).length=4):∃ u1 u2 u3,us=[u1,u2,u3]:=by
 match us,h with
 | [a,b,c],_=>exact ⟨a,b,c,rfl⟩
 | [],h=>simp at h
 | [_],h=>simp at h
 | [_,_],h=>simp at h
 | _::_::_::_::r,h=>simp at h
theorem aoY(h:(us++[]).length=4):∃ u1 u2 u3 u4,us=[u1,u2,u3,u4]:=by
 match us,h with
 | [a,b,c,d],_=>exact ⟨a,b,c,d,rfl⟩
 | [],h=>simp at h
 | [_],h=>simp at h
 | [_,_],h=>simp at h
 | [_,_,_],h=>simp at h
 | _::_::_::_::_::r,h=>simp at h
inductive LvD where
 | tt (xs:List (List Int))
 | ii (xs:List Int)
 | ss (z:Str)
deriving DecidableEq
noncomputable def LvD.kind:LvD->Nat
 | .tt _=>0
 | .ii _=>1
 | .ss _=>2
noncomputable def LvD.lt:LvD->LvD->Bool
 | .tt xs,.tt ys=>decide (xs<ys)
 | .ii xs,.ii ys=>decide (xs<ys)
 | .ss x,.ss y=>decide (x.cps.toList<y.cps.toList)
 | _,_=>false
noncomputable def LvAt (H:Hp) (v:V):LvD->Prop
 | .tt xs=>∃ (a:Addr) (as:List Addr),v=.ref a/\H a=some (.lst (as.map V.ref))/\Paired (fun c (x:List Int)=>H c=some (.tup (x.map V.int))) as xs
 | .ii xs=>∃ a:Addr,v=.ref a/\H a=some (.lst (xs.map V.int))
 | .ss z=>v=.str z
theorem LvAt.same{v:V}{d:LvD}(h:LvAt H v d)(S:Same H H'):LvAt H' v d:=by
 cases d with
 | tt xs=>obtain ⟨a,as,e,h1,h2⟩:=h;exact ⟨a,as,e,S _ _ h1,M5 h2 fun _ _ e=>S _ _ e⟩
 | ii xs=>obtain ⟨a,e,h1⟩:=h;exact ⟨a,e,S _ _ h1⟩
 | ss z=>exact h
theorem zI : ∀ {as:List Addr} {xs:List (List Int)},Paired (fun c (x:List Int)=>H c=some (.tup (x.map V.int))) as xs->DnAll K H (as.map V.ref) (xs.map fun x=>PyData.tuple (x.map bV))
 | _,_,.nil=>.nil
 | _,_,.cons h t=>.cons (.tup (.of h) g7) (zI t)
theorem aiU:∀ xs ys:List (List Int),Y9 (xs.map fun x=>PyData.tuple (x.map bV)) (ys.map fun x=>PyData.tuple (x.map bV))=decide (xs=ys)
 | [],[]=>by simp [Y9]
 | [],_::_=>by simp [Y9]
 | _::_,[]=>by simp [Y9]
 | x::xs,y::ys=>by
  rw [K5,K5,Y9,P7,kD,aiU xs ys,aL]
  simp
theorem aiV:∀ xs:List (List Int),aM (xs.map fun x=>PyData.tuple (x.map bV))<=1
 | []=>F9 _
 | x::xs=>by
  rw [K5,aM,g4,dX]
  have:=aiV xs
  lia
theorem LvAt.ne{v:V}{d d':LvD}(h:LvAt H v d)(h':LvAt H v' d')(hk:d.kind=d'.kind)(q:Q (.bl (!decide (d=d'))) H):rNeU K v v' H Q:=by
 cases d with
 | tt xs=>cases d' with
  | tt ys=>
   obtain ⟨a,as,rfl,h1,h2⟩:=h;obtain ⟨b,bs,rfl,h3,h4⟩:=h';refine ⟨_,_,.lst (.of h1) (zI h2),.lst (.of h3) (zI h4),?_,?_⟩
   .have:=aiV xs
    rw [g4];lia
   .rw [P7,aiU,show decide (xs=ys)=decide (LvD.tt xs=LvD.tt ys) by simp];exact q
  | _=>cases hk
 | ii xs=>cases d' with
  | ii ys=>
   obtain ⟨a,rfl,h1⟩:=h;obtain ⟨b,rfl,h3⟩:=h';refine ⟨_,_,.lst (.of h1) g7,.lst (.of h3) g7,by rw [g4,dX];lia,?_⟩;rw [P7,kD,show decide (xs=ys)=decide (LvD.ii xs=LvD.ii ys) by simp];exact q
  | _=>cases hk
 | ss x=>cases d' with
  | ss y=>
   cases h;cases h';show Q (.bl (!decide (x=y))) H;rw [show decide (x=y)=decide (LvD.ss x=LvD.ss y) by simp];exact q
  | _=>cases hk
theorem LvAt.lt{v:V}{d d':LvD}(h:LvAt H v d)(h':LvAt H v' d')(hk:d.kind=d'.kind)(q:Q (.bl (d.lt d')) H):rLtK K v v' H Q:=by
 cases d with
 | tt xs=>cases d' with
  | tt ys=>
   obtain ⟨a,as,rfl,h1,h2⟩:=h;obtain ⟨b,bs,rfl,h3,h4⟩:=h';exact .inr (.inr ⟨as,bs,xs,ys,.of h1,.of h3,M5 h2 fun _ _ e=>.of e,M5 h4 fun _ _ e=>.of e,q⟩)
  | _=>cases hk
 | ii xs=>cases d' with
  | ii ys=>
   obtain ⟨a,rfl,h1⟩:=h;obtain ⟨b,rfl,h3⟩:=h';exact .inl ⟨xs,ys,.of h1,.of h3,q⟩
  | _=>cases hk
 | ss x=>cases d' with
  | ss y=>cases h;cases h';exact q
  | _=>cases hk
theorem aei : ∀ {es:List (Addr×Addr)} {U:List K0},Paired (fun e (u:K0)=>H1 e.1=some (.tup [.int u.1,.int u.2.1,.ref e.2,.int u.2.2.2])/\H1 e.2=some (.tup (u.2.2.1.map V.int))) es U->Paired (fun c (x:List Int)=>H1 c=some (.tup (x.map V.int))) (es.map (·.2)) (U.map fun u=>u.2.2.1)
 | _,_,.nil=>.nil
 | _,_,.cons h t=>.cons h.2 (aei t)
noncomputable def U0 (b:Bool) (U:List K0) (z:Str):List LvD:=[.tt (U.map fun u=>[u.1,u.2.1]),.tt ((if b=true then U.reverse else U).map fun u=>u.2.2.1),.ii (U.map fun u=>u.2.2.2),.ss z]
noncomputable def IsLooks (H:Hp) (l:Addr) (ds:List LvD):Prop:=∃ vs:List V,H l=some (.lst vs)/\Paired (LvAt H) vs ds
theorem IsLooks.same{l:Addr}{ds:List LvD}(h:IsLooks H l ds)(S:Same H H'):IsLooks H' l ds:=
 let ⟨vs,h1,h2⟩:=h
 ⟨vs,S _ _ h1,M5 h2 fun _ _ e=>e.same S⟩
noncomputable def cmpD (d d':LvD):Int:=if d=d' then 0 else if d.lt d'=true then -1 else 1
noncomputable def cmpF (n:Nat) (ds ds':List LvD):Int:=(((X2 cmpD ds ds').take n).find? fun v=>v≠0).getD 0
noncomputable def alf (C:Addr):Sp:=fun vs H Q _=>∃ (x j ll ml md:Addr) (z:Str) (g:Str->Str) (R:List Rl) (L M:List Str),vs=[.ref x,.str z]/\IsOrd C H x j ll ml md g R L M/\(E5 R).length<=1000/\z.length<=500/\W8 'f' (E5 R) z/\(∀ y,(stepY R L M y).length<=15)/\
 ∀ l H',H l=none->Same H H'->IsLooks H' l (U0 (hasW R "behind") (P1 (stepY R L M) (cutF 'f' (E5 R) z.cps.toList).2) z)->Q (.ref l) H'
noncomputable def W4 (R:List Rl) (L M:List Str) (z:Str):List LvD:=U0 (hasW R "behind") (P1 (stepY R L M) (cutF 'f' (E5 R) z.cps.toList).2) z
noncomputable def kZ (C:Addr):Sp:=fun vs H Q _=>∃ (x j ll ml md:Addr) (z z':Str) (n:Nat) (g:Str->Str) (R:List Rl) (L M:List Str),vs=[.ref x,.str z,.str z',.int n]/\n<=4/\IsOrd C H x j ll ml md g R L M/\(E5 R).length<=1000/\z.length<=500/\z'.length<=500/\W8 'f' (E5 R) z/\W8 'f' (E5 R) z'/\(∀ y,(stepY R L M y).length<=15)/\
 ∀ H',Same H H'->Q (.int (cmpF n (W4 R L M z) (W4 R L M z'))) H'
theorem ahR(b b':Bool)(U U':List K0)(z z':Str)(i:Nat)(d d':LvD)(h:(U0 b U z)[i]?=some d)(h':(U0 b' U' z')[i]?=some d'):d.kind=d'.kind:=by
 match i with
 | 0=>cases h;cases h';rfl
 | 1=>cases h;cases h';rfl
 | 2=>cases h;cases h';rfl
 | 3=>cases h;cases h';rfl
 | i+4=>simp [U0] at h
theorem uD{ds ds':List LvD}{d d':LvD}(hi:i<n)(h:ds[i]?=some d)(h':ds'[i]?=some d')(fA:∀ k<i,ds[k]?=ds'[k]?)(G9:d≠d'):cmpF n ds ds'=cmpD d d':=by
 have hz:(X2 cmpD ds ds')[i]?=some (cmpD d d'):=by rw [List.getElem?_zipWith,h,h']
 have hc:cmpD d d'≠0:=by
  unfold cmpD;rw [if_neg G9]
  split <;> decide
 have h0:∀ v∈(X2 cmpD ds ds').take i,v=0:=by
  intro v hv;obtain ⟨k,hk,e⟩:=rY.mp hv;have lV:k<i:=by lia
  have e2:(X2 cmpD ds ds')[k]?=some v:=by rw [K8 'a',e]
  rw [List.getElem?_zipWith,fA k lV] at e2
  cases q:ds'[k]? with
  | none=>rw [q] at e2;cases e2
  | some x=>
   rw [q] at e2
   have:cmpD x x=v:=by simpa using e2
   rw [<- this];exact if_pos rfl
 unfold cmpF;have e3:(X2 cmpD ds ds').take n=(X2 cmpD ds ds').take i++(cmpD d d'::((X2 cmpD ds ds').take n).drop (i+1)):=by
  have hl:i<((X2 cmpD ds ds').take n).length:=by
   have:=(G2.mp hz).1
   rw [E9];lia
  have e4:=V7 i ((X2 cmpD ds ds').take n);rw [List.take_take,bR (Nat.le_of_lt hi)] at e4
  conv=>lhs;rw [<- e4]
  rw [aG hl]
  have:((X2 cmpD ds ds').take n)[i]=cmpD d d':=by
   rw [List.getElem_take];exact (G2.mp hz).2
  rw [this]
 rw [e3,List.find?_append,List.find?_eq_none.mpr (fun v hv=>by simp [h0 v hv])];simp [hc]
theorem uE{ds ds':List LvD}(fA:∀ k<n,ds[k]?=ds'[k]?):cmpF n ds ds'=0:=by
 unfold cmpF
 have:((X2 cmpD ds ds').take n).find? (fun v=>v≠0)=none:=List.find?_eq_none.mpr fun v hv=>by
  obtain ⟨k,hk,e⟩:=rY.mp hv;have e2:(X2 cmpD ds ds')[k]?=some v:=by rw [K8 'a',e]
  rw [List.getElem?_zipWith,fA k 'a'] at e2
  cases q:ds'[k]? with
  | none=>rw [q] at e2;cases e2
  | some x=>
   rw [q] at e2
   have:cmpD x x=v:=by simpa using e2
   rw [<- this];simp [cmpD]
 rw [this];rfl
noncomputable def bareL (ss:List Tr):List Int:=(ss.filter fun s=>s.1=2).map (·.2.1)
theorem alg{ss:List Tr}(ha:H a=some (.dK kvs))(h:StepL H r ss):StepL (cutH H [a]) r ss:=by
 obtain ⟨ts,h1,h2⟩:=h.ex;have ne:∀ {c o},H c=some o->o≠.dK kvs->cutH H [a] c=some o:=fun {c o} e no=>by
  unfold cutH;rw [if_neg (fun q=>by rw [F6.mp q,ha] at e;exact no (Option.some.inj e).symm)];exact e
 exact ⟨ts,ne h1 'c',M5 h2 fun _ _ e=>ne e (by simp [tupT])⟩
noncomputable def anm (K:PySem.W.Frag):Sp:=fun vs H Q _=>∃ (d:Addr) (y:Str) (ks:List Str) (ad:Str->Addr) (ss:List Tr),vs=[.ref d,.str y]/\Rd H d (.dK (C1 ks fun y=>.ref (ad y)))/\y∈ks/\StepL H (ad y) ss/\ss.length<=15/\∀ l H',H l=none->Same H H'->H' l=some (.lst ((bareL ss).map V.int))->Q (.ref l) H'
theorem ae7{p:Addr}{x:Str}(hp:H2 p=some (.lst (ps.map V.str)))(hl:ps.length<=1000)(fB:m<=k)(fin:∀ l H3 (qs:List Str),Same H2 H3->H2 l=none->H3 l=some (.lst (qs.map V.str))->(∀ y∈qs,y∈ps\/y=x)->qs.length<=ps.length+1->Q (.ref l) H3) :
  rSlR K p none (some (m:Int)) H2 fun x1 H1=>1<=sizeLine/\∀ p2,H1 p2=none->rAddU K x1 (.ref p2) (A0 H1 p2 (.lst [V.str x])) fun x2 H1=>rSlR K p (some (k:Int)) none H1 fun y H2=>rAddU K x2 y H2 Q:=by
 refine rSlR.l (.of hp) fun a1 n1=>⟨by decide,fun a2 n2=>?_⟩
 rw [aS,<- u9] at n2 ⊢
 have S1:Same H2 (A0 H2 a1 (.lst ((ps.take m).map V.str))):=Same.new n1;have h1:A0 H2 a1 (.lst ((ps.take m).map V.str)) a1=some (.lst ((ps.take m).map V.str)):=A5;generalize A0 H2 a1 (.lst ((ps.take m).map V.str))=H3 at S1 h1 n2;have S2:Same H3 (A0 H3 a2 (.lst ([x].map V.str))):=Same.new n2;have h2:A0 H3 a2 (.lst ([x].map V.str)) a2=some (.lst ([x].map V.str)):=A5;show rAddU K (.ref a1) (.ref a2) (A0 H3 a2 (.lst ([x].map V.str))) _;generalize A0 H3 a2 (.lst ([x].map V.str))=H4 at S2 h2;refine rAddR.l (S2 _ _ h1) h2 (by simp only [A6,E9,N3];exact O8 'a') fun a3 n3=>?_
 rw [<- E2];have S3:Same H4 (A0 H4 a3 (.lst ((ps.take m++[x]).map V.str))):=Same.new n3;have h3:A0 H4 a3 (.lst ((ps.take m++[x]).map V.str)) a3=some (.lst ((ps.take m++[x]).map V.str)):=A5;generalize A0 H4 a3 (.lst ((ps.take m++[x]).map V.str))=H5 at S3 h3;have U5:=S1.trans (S2.trans S3);refine rSlR.l (.of (U5 _ _ hp)) fun a4 n4=>?_
 rw [p5,<- aK];refine rAddR.l (D1 h3 n4) A5 (by simp only [A6,C4,E9,X1,N3];exact O8 'a') fun a5 n5=>?_
 rw [<- E2];refine fin a5 _ (ps.take m++[x]++ps.drop k) (U5.trans ((Same.new n4).trans (Same.new n5))) ((U5.trans (Same.new n4)).free n5) A5 (fun y hy=>?_) (by simp only [C4,E9,X1,N3];lia)
 rcases E1.mp hy with h | h
 .rcases E1.mp h with h | h
  .exact .inl (jM h)
  .exact .inr (F6.mp h)
 .exact .inl (List.mem_of_mem_drop h)
theorem ahS{p:Addr}(hp:H2 p=some (.lst (ps.map V.str)))(hl:ps.length<=1000)(fB:m<=k)(fin:∀ l H3 (qs:List Str),Same H2 H3->H2 l=none->H3 l=some (.lst (qs.map V.str))->(∀ y∈qs,y∈ps)->qs.length<=ps.length+1->Q (.ref l) H3) :
  rSlR K p none (some (m:Int)) H2 fun x2 H1=>rSlR K p (some (k:Int)) none H1 fun y H2=>rAddU K x2 y H2 Q:=by
 refine rSlR.l (.of hp) fun a1 n1=>?_
 rw [aS,<- u9];have S1:Same H2 (A0 H2 a1 (.lst ((ps.take m).map V.str))):=Same.new n1;have h1:A0 H2 a1 (.lst ((ps.take m).map V.str)) a1=some (.lst ((ps.take m).map V.str)):=A5;generalize A0 H2 a1 (.lst ((ps.take m).map V.str))=H3 at S1 h1;refine rSlR.l (.of (S1 _ _ hp)) fun a4 n4=>?_
 rw [p5,<- aK];refine rAddR.l (D1 h1 n4) A5 (by simp only [A6,E9,X1];exact O8 'a') fun a5 n5=>?_
 rw [<- E2];refine fin a5 _ (ps.take m++ps.drop k) (S1.trans ((Same.new n4).trans (Same.new n5))) ((S1.trans (Same.new n4)).free n5) A5 (fun y hy=>?_) (by simp only [C4,E9,X1];lia)
 rcases E1.mp hy with h | h
 .exact jM h
 .exact List.mem_of_mem_drop h
noncomputable def ag9 (K:PySem.W.Frag):Sp:=fun vs H Q _=>∃ (d p:Addr) (c:Int) (ks ps:List Str) (F:Str->List Tr),vs=[.ref d,.ref p,.int c]/\IsMk H d ks F/\(∀ y,(F y).length<=15)/\1<=ks.length/\ks.length<=100000/\(∀ x∈ks,W0 x=true)/\H p=some (.lst (ps.map V.str))/\ps.length<=1000/\
 ∀ l H' (qs:List Str),H l=none->Same H H'->H' l=some (.lst (qs.map V.str))->(∀ q∈qs,q∈ps\/q∈ks)->qs.length<=ps.length+1->Q (.ref l) H'
theorem alh{ds ds':List LvD}(qP:n<=m)(h:cmpF n ds ds'≠0):cmpF m ds ds'=cmpF n ds ds':=by
 unfold cmpF at h ⊢
 have e:(X2 cmpD ds ds').take m=(X2 cmpD ds ds').take n++((X2 cmpD ds ds').take m).drop n:=by
  conv=>lhs;rw [<- V7 n ((X2 cmpD ds ds').take m),List.take_take,bR qP]
 rw [e,List.find?_append];cases e2:((X2 cmpD ds ds').take n).find? (fun v=>v≠0) with
 | none=>rw [e2] at h;exact absurd rfl h
 | some v=>rfl
theorem hG{α:Type}[DecidableEq α][LT α][DecidableLT α](ti:∀ a b:α,a=b\/a<b\/b<a):∀ xs ys:List α,xs=ys\/xs<ys\/ys<xs
 | [],[]=>.inl rfl
 | [],_::_=>.inr (.inl (mS _ _))
 | _::_,[]=>.inr (.inr (mS _ _))
 | x::xs,y::ys=>by
  rcases ti x y with e | e | e
  .rcases hG ti xs ys with h | h | h
   .exact .inl (by rw [e,h])
   .exact .inr (.inl (aI.mpr (.inr ⟨e,h⟩)))
   .exact .inr (.inr (aI.mpr (.inr ⟨e.symm,h⟩)))
  .exact .inr (.inl (aI.mpr (.inl e)))
  .exact .inr (.inr (aI.mpr (.inl e)))
theorem cN{α:Type}[LT α](ir:∀ a:α,¬ a<a):∀ xs:List α,¬ xs<xs
 | []=>fV _
 | x::xs=>fun h=>(aI.mp h).elim (ir x) fun h=>cN ir xs h.2
theorem hJ{α:Type}[LT α](tr:∀ a b c:α,a<b->b<c->a<c):∀ xs ys zs:List α,xs<ys->ys<zs->xs<zs
 | _,[],_,h,_=>absurd h (fV _)
 | _,_::_,[],_,h=>absurd h (fV _)
 | [],_::_,_::_,_,_=>mS _ _
 | x::xs,y::ys,z::zs,h1,h2=>by
  rw [aI] at h1 h2 ⊢
  rcases h1 with h1 | ⟨rfl,h1⟩
  .rcases h2 with h2 | ⟨rfl,h2⟩
   .exact .inl (tr _ _ _ h1 h2)
   .exact .inl h1
  .rcases h2 with h2 | ⟨rfl,h2⟩
   .exact .inl h2
   .exact .inr ⟨rfl,hJ tr _ _ _ h1 h2⟩
theorem lA(a b:Int):a=b\/a<b\/b<a:=by lia
theorem ali(a b:Nat):a=b\/a<b\/b<a:=by lia
theorem uag{d e:LvD}(hk:d.kind=e.kind):d=e\/d.lt e=true\/e.lt d=true:=by
 cases d with
 | tt xs=>cases e with
  | tt ys=>
   rcases hG (hG lA) xs ys with h | h | h
   .exact .inl (by rw [h])
   .exact .inr (.inl (decide_eq_true h))
   .exact .inr (.inr (decide_eq_true h))
  | _=>cases hk
 | ii xs=>cases e with
  | ii ys=>
   rcases hG lA xs ys with h | h | h
   .exact .inl (by rw [h])
   .exact .inr (.inl (decide_eq_true h))
   .exact .inr (.inr (decide_eq_true h))
  | _=>cases hk
 | ss x=>cases e with
  | ss y=>
   rcases hG ali x.cps.toList y.cps.toList with h | h | h
   .exact .inl (by rw [Str.ext' (nC.mp h)])
   .exact .inr (.inl (decide_eq_true h))
   .exact .inr (.inr (decide_eq_true h))
  | _=>cases hk
theorem uap(d:LvD):d.lt d=false:=by
 cases d with
 | tt xs=>exact decide_eq_false (cN (cN aN) xs)
 | ii xs=>exact decide_eq_false (cN aN xs)
 | ss x=>exact decide_eq_false (cN g3 _)
theorem uan{d e f:LvD}(h1:d.lt e=true)(h2:e.lt f=true):d.lt f=true:=by
 cases d <;> cases e <;> cases f <;> first | cases h1;done | cases h2;done | skip
 .exact decide_eq_true (hJ (hJ fun _ _ _=>Int.lt_trans) _ _ _ (of_decide_eq_true h1) (of_decide_eq_true h2))
 .exact decide_eq_true (hJ (fun _ _ _=>Int.lt_trans) _ _ _ (of_decide_eq_true h1) (of_decide_eq_true h2))
 .exact decide_eq_true (hJ (fun _ _ _=>Nat.lt_trans) _ _ _ (of_decide_eq_true h1) (of_decide_eq_true h2))
noncomputable def cmpL:List LvD->List LvD->Int
 | d::ds,e::es=>if d=e then cmpL ds es else cmpD d e
 | _,_=>0
theorem zJ:∀ (n:Nat) (ds es:List LvD),cmpF n ds es=cmpL (ds.take n) (es.take n)
 | 0,_,_=>by simp [cmpF,cmpL]
 | n+1,[],es=>by simp [cmpF,cmpL]
 | n+1,d::ds,[]=>by simp [cmpF,cmpL]
 | n+1,d::ds,e::es=>by
  have ih:=zJ n ds es;rw [List.take_succ_cons,List.take_succ_cons,cmpL];unfold cmpF at ih ⊢
  rw [List.zipWith_cons_cons,List.take_succ_cons,u8]
  by_cases h:d=e
  .rw [if_pos h,show cmpD d e=0 from if_pos h];exact ih
  .rw [if_neg h]
   have:cmpD d e≠0:=by
    unfold cmpD;rw [if_neg h]
    split <;> decide
   simp [this]
theorem alj{d e:LvD}(hk:d.kind=e.kind):cmpD e d=- cmpD d e:=by
 unfold cmpD
 by_cases h:d=e
 .rw [if_pos h,if_pos h.symm];rfl
 .rw [if_neg h,if_neg fun q=>h q.symm]
  rcases uag hk with q | q | q
  .exact absurd q h
  .have:e.lt d=false:=by
    cases z:e.lt d with
    | false=>rfl
    | true=>have:=uan q z;rw [uap] at this;cases this
   rw [q,this];rfl
  .have:d.lt e=false:=by
    cases z:d.lt e with
    | false=>rfl
    | true=>have:=uan q z;rw [uap] at this;cases this
   rw [q,this];rfl
theorem aha:∀ {ds es:List LvD},Paired (fun d e=>d.kind=e.kind) ds es->cmpL es ds=- cmpL ds es
 | _,_,.nil=>rfl
 | _,_,.cons (a:=d) (b:=e) h t=>by
  unfold cmpL
  by_cases q:d=e
  .rw [if_pos q,if_pos q.symm];exact aha t
  .rw [if_neg q,if_neg fun z=>q z.symm];exact alj h
theorem ahb(n:Nat)(z z':Str):Paired (fun d e=>d.kind=e.kind) ((W4 R L M z).take n) ((W4 R L M z').take n):=by
 have h:Paired (fun d e=>d.kind=e.kind) (W4 R L M z) (W4 R L M z'):=.cons rfl (.cons rfl (.cons rfl (.cons rfl .nil)));exact aeh h n
theorem forZs{Y:L2.St}(Pv:Nat->L2.St->Hp->Prop)(h0:Pv 0 Y H)(hl:∀ i Y H,Pv i Y H->H l1=some (.lst xs)/\H l2=some (.lst ys))(hs:∀ (P':Nat->L2.St->Hp->Prop) (B':L2.St->Hp->Prop),(∀ i Y H,Pv i Y H->P' i Y H)->∀ i x y t Y H,xs[i]?=some x->ys[i]?=some y->Pv i Y H->H t=none->g (.ref t) Y (A0 H t (.tup [x,y])) fun σ2 H2=>tb { D with nx:=P' (i+1),ct:=P' (i+1),bk:=B' } σ2 H2)(hd:∀ Y H,Pv (min xs.length ys.length) Y H->D.nx Y H):ForIt (nY l1 l2) g tb D Y H:=forZ Pv h0 hl (hs Pv _ fun _ _ _ h=>h) hd
noncomputable def sg {α:Type} [LT α] [DecidableLT α] (x y:α):Int:=(if decide (y<x)=true then 1 else 0)-(if decide (x<y)=true then 1 else 0)
theorem sg_ne{α:Type}[DecidableEq α][LT α][DecidableLT α](ir:∀ a:α,¬ a<a)(tr:∀ a b c:α,a<b->b<c->a<c)(ti:∀ a b:α,a=b\/a<b\/b<a){x y:α}(h:x≠y):sg x y=if x<y then -1 else 1:=by
 unfold sg
 rcases ti x y with e | e | e
 .exact absurd e h
 .have:¬ y<x:=fun q=>ir _ (tr _ _ _ e q)
  rw [if_neg (by simpa using this),if_pos (by simpa using e),if_pos e];rfl
 .have:¬ x<y:=fun q=>ir _ (tr _ _ _ e q)
  rw [if_pos (by simpa using e),if_neg (by simpa using this),if_neg this];rfl
theorem sg_eq{α:Type}[LT α][DecidableLT α](ir:∀ a:α,¬ a<a)(x:α):sg x x=0:=by
 unfold sg;rw [if_neg (by simpa using ir x)];rfl
theorem zK{α:Type}[LT α](ir:∀ a:α,¬ a<a){p s t:List α} : (p++s<p++t)↔s<t:=by
 induction p with
 | nil=>exact Iff.rfl
 | cons a p ih=>
  rw [mU,mU,aI];exact ⟨fun q=>q.elim (fun q=>absurd q (ir _)) fun q=>ih.mp q.2,fun q=>.inr ⟨rfl,ih.mpr q⟩⟩
theorem zL{α:Type}[LT α](ir:∀ a:α,¬ a<a){xs ys:List α}{x y:α}(hx:xs[i]?=some x)(hy:ys[i]?=some y)(he:∀ k<i,xs[k]?=ys[k]?)(G9:x≠y):xs≠ys/\(xs<ys↔x<y):=by
 obtain ⟨i1,e1⟩:=G2.mp hx;obtain ⟨i2,e2⟩:=G2.mp hy;have ep:xs.take i=ys.take i:=List.ext_getElem? fun k=>by
  by_cases hk:k<i
  .rw [jK hk,jK hk,he k hk]
  .rw [jL (by rw [E9];lia),jL (by rw [E9];lia)]
 have f1:xs=ys.take i++x::xs.drop (i+1):=by rw [<- ep,<- e1,<- aG i1,V7]
 have f2:ys=ys.take i++y::ys.drop (i+1):=by rw [<- e2,<- aG i2,V7]
 refine ⟨fun e=>?_,?_⟩
 .rw [e,hy] at hx;exact G9 (Option.some.inj hx).symm
 .have l0:(ys.take i++x::xs.drop (i+1)<ys.take i++y::ys.drop (i+1))↔x<y:=by
   rw [zK ir,aI];exact ⟨fun q=>q.elim id fun q=>absurd q.1 G9,.inl⟩
  rw [<- f1,<- f2] at l0;exact l0
theorem aoZ{α:Type}[LT α](ir:∀ a:α,¬ a<a){xs ys:List α}(he:∀ k,k<xs.length->k<ys.length->xs[k]?=ys[k]?):(xs=ys↔xs.length=ys.length)/\(xs<ys↔xs.length<ys.length):=by
 have ep:∀ m,m<=xs.length->m<=ys.length->xs.take m=ys.take m:=fun m h1 h2=>List.ext_getElem? fun k=>by
  by_cases hk:k<m
  .rw [jK hk,jK hk,he k 'a' 'a']
  .rw [jL (by rw [E9];lia),jL (by rw [E9];lia)]
 rcases mW xs.length ys.length with h | h | h
 .have e:=ep xs.length (B5 _) 'a';rw [K3] at e;have C9:xs<ys:=by
   have q:xs++[]<xs++ys.drop xs.length:=by
    rw [zK ir,aG h];exact mS _ _
   have e2:xs++ys.drop xs.length=ys:=by
    conv=>lhs;arg 1;rw [e]
    exact V7 _ _
   rw [K9,e2] at q;exact q
  exact ⟨⟨fun q=>by rw [q],fun q=>by lia⟩,fun _=>h,fun _=>C9⟩
 .have e:=ep xs.length (B5 _) 'a';rw [K3,h,K3] at e;subst e;exact ⟨⟨fun _=>rfl,fun _=>rfl⟩,fun q=>absurd q (cN ir _),fun q=>absurd q (g3 _)⟩
 .have e:=ep ys.length 'a' (B5 _);rw [K3] at e;have C9:¬ xs<ys:=fun q=>by
   have e2:ys++xs.drop ys.length=xs:=by
    conv=>lhs;arg 1;rw [<- e]
    exact V7 _ _
   have q2:ys++xs.drop ys.length<ys++[]:=by rw [e2,K9];exact q
   exact absurd ((zK ir).mp q2) (fV _)
  exact ⟨⟨fun q=>by rw [q],fun q=>by lia⟩,fun q=>absurd q C9,fun q=>by lia⟩
theorem alk{ds ds':List LvD}(h:cmpF n ds ds'=0)(l1:n<=ds.length)(l2:n<=ds'.length):∀ k,k<n->ds[k]?=ds'[k]?:=by
 intro i
 induction i using Nat.strongRecOn with
 | ind i ih=>
  intro hi;have q1:i<ds.length:=by lia
  have q2:i<ds'.length:=by lia
  by_cases hd:ds[i]=ds'[i]
  .rw [K8 q1,K8 q2,hd]
  .rw [uD hi (K8 q1) (K8 q2) (fun k hk=>ih k hk 'a') hd] at h;unfold cmpD at h;rw [if_neg hd] at h
   split at h <;> cases h
theorem zM{ds ds':List LvD}{d d':LvD}(h:cmpF n ds ds'=0)(h1:ds[n]?=some d)(h2:ds'[n]?=some d'):cmpF (n+1) ds ds'=cmpD d d':=by
 have l1:=(G2.mp h1).1;have l2:=(G2.mp h2).1;have he:=alk h 'a' 'a'
 by_cases hd:d=d'
 .rw [show cmpD d d'=0 from if_pos hd];refine uE fun k hk=>?_
  by_cases hk2:k=n
  .rw [hk2,h1,h2,hd]
  .exact he k 'a'
 .exact uD (Nat.lt_succ_self n) h1 h2 he hd
theorem oX:∀ a:List Int,¬ a<a:=cN aN
theorem lI_tr:∀ a b c:List Int,a<b->b<c->a<c:=hJ fun _ _ _=>Int.lt_trans
theorem zN:∀ a b:List Int,a=b\/a<b\/b<a:=hG lA
noncomputable def aiW (K:PySem.W.Frag):Sp:=fun vs H Q _=>∃ (r p:Addr) (c:Int) (ts:List Addr) (R:List Rl) (ns:List Int) (ls ms ps:List Str),vs=[.ref r,.ref p,.int c]/\IsRules H r ts R/\RulG ns ls ms R/\H p=some (.lst (ps.map V.str))/\ps.length<=1000/\
 ∀ l H' (qs:List Str),H l=none->Same H H'->H' l=some (.lst (qs.map V.str))->(∀ q∈qs,q∈ps\/q∈ms)->qs.length<=ps.length+1->Q (.ref l) H'
noncomputable def PutAt (H:Hp) (v v':V) (s:Int):Prop:=(∃ a b:Int,v=.int a/\v'=.int b/\s=sg a b)\/(∃ (p p':Addr) (xs ys:List Int),v=.ref p/\v'=.ref p'/\H p=some (.tup (xs.map V.int))/\H p'=some (.tup (ys.map V.int))/\s=sg xs ys)\/∃ z z':Str,v=.str z/\v'=.str z'/\s=sg z.cps.toList z'.cps.toList
noncomputable def spPut (K:PySem.W.Frag):Sp:=fun vs H Q _=>∃ (v v':V) (s:Int),vs=[v,v']/\PutAt H v v' s/\Q (.int s) H
noncomputable def zO (K:PySem.W.Frag):Sp:=fun vs H Q _=>∃ (a b t:Addr) (bh:Bool) (n:Nat) (U U':List K0) (z z':Str),vs=[.ref a,.ref b,.ref t,.bl bh,.int n]/\IsUn H a U/\IsUn H b U'/\H t=some (.tup [.str z,.str z'])/\1<=n/\n<=4/\U.length<=10000/\U'.length<=10000/\∀ H',Same H H'->Q (.int (cmpF n (U0 bh U z) (U0 bh U' z'))) H'
noncomputable def DiffI {α:Type} [LT α] [DecidableLT α] (bh:Bool) (xs ys:List α) (i:Nat) (s:Int):Prop:=
 (s=0/\∀ k<i,xs[k]?=ys[k]?)\/∃ j x y,j<i/\xs[j]?=some x/\ys[j]?=some y/\x≠y/\s=sg x y/\if bh=true then ∀ k,j<k->k<i->xs[k]?=ys[k]? else ∀ k<j,xs[k]?=ys[k]?
theorem DiffI.step{α:Type}[DecidableEq α][LT α][DecidableLT α](ir:∀ a:α,¬ a<a)(tr:∀ a b c:α,a<b->b<c->a<c)(ti:∀ a b:α,a=b\/a<b\/b<a){xs ys:List α}{s:Int}{x y:α}(h:DiffI bh xs ys i s)(hx:xs[i]?=some x)(hy:ys[i]?=some y) :
  DiffI bh xs ys (i+1) (if x≠y/\(s=0\/bh=true) then sg x y else s):=by
 have s0:∀ {a b:α},a≠b->sg a b≠0:=fun V5=>by
  rw [sg_ne ir tr ti V5]
  split <;> decide
 by_cases e:x=y
 .rw [if_neg fun q=>q.1 e];have ei:xs[i]?=ys[i]?:=by rw [hx,hy,e]
  rcases h with ⟨h1,h2⟩ | ⟨j,a,b,hj,ha,hb,V5,hs,h2⟩
  .refine .inl ⟨h1,fun k hk=>?_⟩
   by_cases iT:k=i
   .rw [iT];exact ei
   .exact h2 k 'a'
  .refine .inr ⟨j,a,b,by lia,ha,hb,V5,hs,?_⟩
   by_cases V6:bh=true
   .rw [if_pos V6] at h2 ⊢
    intro k k1 k2
    by_cases iT:k=i
    .rw [iT];exact ei
    .exact h2 k k1 'a'
   .rw [if_neg V6] at h2 ⊢
    exact h2
 .by_cases c:s=0\/bh=true
  .rw [if_pos ⟨e,c⟩];refine .inr ⟨i,x,y,Nat.lt_succ_self _,hx,hy,e,rfl,?_⟩
   by_cases V6:bh=true
   .rw [if_pos V6];intro k k1 k2;lia
   .rw [if_neg V6]
    rcases h with ⟨h1,h2⟩ | ⟨j,a,b,hj,ha,hb,V5,hs,h2⟩
    .exact h2
    .exact absurd (c.elim id fun q=>absurd q V6) (by rw [hs];exact s0 V5)
  .rw [if_neg fun q=>c q.2];have V6:¬ bh=true:=fun q=>c (.inr q)
   rcases h with ⟨h1,h2⟩ | ⟨j,a,b,hj,ha,hb,V5,hs,h2⟩
   .exact absurd (.inl h1) c
   .exact .inr ⟨j,a,b,by lia,ha,hb,V5,hs,by rw [if_neg V6] at h2 ⊢;exact h2⟩
theorem DiffI.fin{α:Type}[DecidableEq α][LT α][DecidableLT α](ir:∀ a:α,¬ a<a)(tr:∀ a b c:α,a<b->b<c->a<c)(ti:∀ a b:α,a=b\/a<b\/b<a){xs ys:List α}{s:Int}(hl:xs.length=ys.length)(h:DiffI bh xs ys xs.length s) :
  s=(if (if bh=true then xs.reverse else xs)=(if bh=true then ys.reverse else ys) then 0 else if (if bh=true then xs.reverse else xs)<(if bh=true then ys.reverse else ys) then -1 else 1):=by
 rcases h with ⟨h1,h2⟩ | ⟨j,a,b,hj,ha,hb,V5,hs,h2⟩
 .have e:xs=ys:=List.ext_getElem? fun k=>by
   by_cases hk:k<xs.length
   .exact h2 k hk
   .rw [jL 'a',jL 'a']
  rw [h1,e,if_pos rfl]
 .rw [hs,sg_ne ir tr ti V5]
  by_cases V6:bh=true
  .rw [if_pos V6] at h2;rw [if_pos V6,if_pos V6];obtain ⟨n1,n2⟩:=zL ir (xs:=xs.reverse) (ys:=ys.reverse) (i:=xs.length-1-j) (x:=a) (y:=b) (by rw [rZ 'a',show xs.length-1-(xs.length-1-j)=j by lia];exact ha) (by rw [rZ 'a',show ys.length-1-(xs.length-1-j)=j by lia];exact hb) (fun k hk=>by rw [rZ 'a',rZ 'a',<- hl];exact h2 _ 'a' 'a') V5;rw [if_neg n1]
   by_cases q:a<b
   .rw [if_pos q,if_pos (n2.mpr q)]
   .rw [if_neg q,if_neg fun z=>q (n2.mp z)]
  .rw [if_neg V6] at h2;rw [if_neg V6,if_neg V6];obtain ⟨n1,n2⟩:=zL ir ha hb h2 V5;rw [if_neg n1]
   by_cases q:a<b
   .rw [if_pos q,if_pos (n2.mpr q)]
   .rw [if_neg q,if_neg fun z=>q (n2.mp z)]
theorem alo{xs ys:List (List Int)}(h:xs≠ys):cmpD (.tt xs) (.tt ys)=if xs<ys then -1 else 1:=by
 unfold cmpD;rw [if_neg (fun e=>h (LvD.tt.inj e))];show (if decide (xs<ys)=true then (-1:Int) else 1)=_
 by_cases q:xs<ys
 .rw [if_pos q,if_pos (decide_eq_true q)]
 .rw [if_neg q,if_neg (fun z=>q (of_decide_eq_true z))]
theorem amL(xs ys:List (List Int)):cmpD (.tt xs) (.tt ys)=if xs=ys then 0 else if xs<ys then -1 else 1:=by
 by_cases h:xs=ys
 .rw [if_pos h,h];exact if_pos rfl
 .rw [if_neg h];exact alo h
theorem amM(xs ys:List Int):cmpD (.ii xs) (.ii ys)=if xs=ys then 0 else if xs<ys then -1 else 1:=by
 unfold cmpD
 by_cases h:xs=ys
 .rw [if_pos h,h];exact if_pos rfl
 .rw [if_neg h,if_neg (fun e=>h (LvD.ii.inj e))];show (if decide (xs<ys)=true then (-1:Int) else 1)=_
  by_cases q:xs<ys
  .rw [if_pos q,if_pos (decide_eq_true q)]
  .rw [if_neg q,if_neg (fun z=>q (of_decide_eq_true z))]
theorem amN(x y:Str):cmpD (.ss x) (.ss y)=sg x.cps.toList y.cps.toList:=by
 unfold cmpD
 by_cases h:x=y
 .rw [h,if_pos rfl,sg_eq (cN g3)]
 .have h2:x.cps.toList≠y.cps.toList:=fun e=>h (Str.ext' (nC.mp e))
  rw [if_neg (fun e=>h (LvD.ss.inj e)),sg_ne (cN g3) (hJ fun _ _ _=>Nat.lt_trans) (hG ali) h2];show (if decide (x.cps.toList<y.cps.toList)=true then (-1:Int) else 1)=_
  by_cases q:x.cps.toList<y.cps.toList
  .rw [if_pos q,if_pos (decide_eq_true q)]
  .rw [if_neg q,if_neg (fun z=>q (of_decide_eq_true z))]
noncomputable def alp:Sp:=fun vs H Q _=>∃ i k:Int,vs=[.int i,.int k]/\Q (.bl (decide (i=k))) H
section
variable {P:Program} {w:World} {K:PySem.W.Frag} {mg:Str->Option Value} {base:Heap} {C:Addr}
theorem sc_told:FnScope ["rows", "seen", "row", "piece"] ["rows"] (C3 aW):=G1
abbrev VS(N:List Str)(s:Stmt)(x:Str)(n:Nat):Prop:=∀ {X:Cx} {pos:Pos},X.N=N->X.env.scope=C3 s->QE X (.Name x pos) (tVar n)
theorem vq{s:Stmt}{x:Str}(h:(decide (N[n]?=some x)&&visB (C3 s) x && !(x==("__debug__" : Str)) && !(x==("__classdict__" : Str)))=true:=by decide +kernel):VS N s x n:=fun hN hs=>qvd hN hs h
theorem vi{s:Stmt}{x:Str}{pos:Pos}(h:VS N s x n)(h1:X.N=N:=by rfl)(h2:X.env.scope=C3 s:=by rfl):QE X (.Name x pos) (tVar n):=h h1 h2
abbrev LS(s:Stmt)(x:Str):Prop:=o7 (C3 s) x
theorem lq{s:Stmt}{x:Str}(h:(C3 s).names.lookup x=some .local\/(C3 s).names.lookup x=some .cell:=by decide +kernel):LS s x:=h
abbrev uF:List Str:=["rows", "seen", "row", "piece"]
theorem vaa:VS uF aW "rows" 0:=vq
theorem vab:VS uF aW "seen" 1:=vq
theorem vac:VS uF aW "row" 2:=vq
theorem vad:VS uF aW "piece" 3:=vq
theorem vae:LS aW "seen":=lq
theorem vaf:LS aW "row":=lq
theorem vag:LS aW "piece":=lq
theorem ao0(F:FunD K "told" "told" aW f fd)(T:Txt P w K mg C):FnOk P w K mg base E6 1 f fd ["rows"] anc:=by
 refine F.ok sc_told ?_ ?_
 .rintro _ _ _ _ ⟨a,rs,zss,rfl,_⟩;rfl
 .intro cdv A outer s H vs Q E hr h;have C2:=hu_of hr;have hu:=hr.units;refine ⟨_,QSs.out (A8 (C7 (n:=1) sc_told.nd rfl vae gI)
   (A8 (L6 PassesOwn.never (P5 (K:=K) (vi vaa)) (D3 (n:=2) sc_told.nd rfl vaf 'g') (A7 (L6 PassesOwn.never (P5 (K:=K) (vi vac)) (D3 (n:=3) sc_told.nd rfl vag 'g') (A7 (e9 C2 (vi vab) (vi vad) qe_bl)))))
   (A7 (E4 (qe_cT (k8 (K:=K) (calm:=true)) T.b_list j9 (qa_c (vi vab) A3)))))),?_⟩
  obtain ⟨a,rs,zss,rfl,hR,hz,q⟩:=h;walk_at "rd";intro d nd;have hlz:∀ n:Nat,n<=100000->n<sizeLine:=fun n h=>L3 'a'
  refine ⟨⟨_,.of (D1 hR.top nd)⟩,forL (xs:=rs.map V.ref) (fun i Y H2=>∃ (u v:Option V),Y=[some (.ref a),some (.ref d),u,v]/\Same H H2/\H2 d=some (.dK (kvOf (toldL (zss.take i)))))
   ⟨none,none,rfl,Same.new nd,by rw [A5];rfl⟩ (by rintro i Y H2 _ ⟨_,_,_,S,_⟩;exact .of (S _ _ hR.top)) ?_ ?_⟩
  .rintro i x Y H2 hx ⟨u,v,rfl,S,hd⟩;obtain ⟨r,hr,rfl⟩:=G0 hx;obtain ⟨zs,lW,D7⟩:=Paired.at hR.row hr;have hcount:(toldL (zss.take i)).length+zs.length<=100000:=by
    have h1:zss.take (i+1)=zss.take i++[zs]:=by rw [t9,lW];rfl
    have h2:=nR (zss.take i);have h3:(zss.take (i+1)).flatten.length<=zss.flatten.length:=by
     conv=>rhs;rw [<- V7 (i+1) zss]
     rw [mP,C4];lia
    rw [h1,mP,C4] at h3;simp at h3;simp at h2 hz h3 ⊢
    lia
   walk_at "rd";refine ⟨⟨_,.of (S _ _ D7)⟩,forL (xs:=zs.map V.str) (fun j Y H3=>∃ (v:Option V),Y=[some (.ref a),some (.ref d),some (.ref r),v]/\Same H H3/\H3 d=some (.dK (kvOf (G3 (toldL (zss.take i)) (zs.take j)))))
    ⟨v,rfl,S,hd⟩ (by rintro j Y H3 _ ⟨_,_,S3,_⟩;exact .of (S3 _ _ D7)) ?_ ?_⟩
   .rintro j y Y H3 hy ⟨v,rfl,S3,Y0⟩;obtain ⟨z,eY,rfl⟩:=G0 hy;walk_at "rd";refine ⟨_,cE (k:=Sum.inr z) Y0 ?_,S3.put nd,?_⟩
    .unfold kvOf;rw [A6];refine hlz _ ?_
     have:=dY (zs.take j) (toldL (zss.take i))
     rw [E9] at this;lia
    .rw [A5,agD,amg eY]
   .rintro Y H3 ⟨v,rfl,S3,Y0⟩;walk_at "rd";refine ⟨S3,?_⟩;rw [Y0,akn lW,A6,K3]
  .rintro Y H2 ⟨u,v,rfl,S,hd⟩;walk_at "rd";refine rListR.d (.of hd) fun l nl=>?_
   refine q l _ (S.free nl) (fun b o h=>D1 (S b o h) nl) ?_;rw [A5,ako,A6];rw [show rs.length=zss.length from Paired.length hR.row,K3]
theorem sc_followers:FnScope ["rows", "after", "piece", "row", "one", "other"] ["rows"] (C3 g9):=G1
abbrev lB:List Str:=["rows", "after", "piece", "row", "one", "other"]
theorem vah:VS lB g9 "rows" 0:=vq
theorem zP:VS lB g9 "after" 1:=vq
theorem vaj:VS lB g9 "piece" 2:=vq
theorem vak:VS lB g9 "row" 3:=vq
theorem vam:VS lB g9 "one" 4:=vq
theorem van:VS lB g9 "other" 5:=vq
theorem vao:LS g9 "after":=lq
theorem vap:LS g9 "piece":=lq
theorem vaq:LS g9 "row":=lq
theorem var:LS g9 "one":=lq
theorem vas:LS g9 "other":=lq
theorem ahd(F:FunD K "followers" "followers" g9 f fd)(T:Txt P w K mg C)(G_told:FO P w K mg base 1 "told" ["rows"] [] anc):FnOk P w K mg base E6 2 f fd ["rows"] spFol:=by
 refine F.ok sc_followers ?_ ?_
 .rintro _ _ _ _ ⟨a,rs,zss,rfl,_⟩;rfl
 .intro cdv A outer s H vs Q E hr h;have C2:=hu_of hr;have hu:=hr.units;refine ⟨_,QSs.out (A8 (C7 (n:=1) sc_followers.nd rfl vao gI)
   (A8 (L6 PassesOwn.never (P5 (K:=K) (C8 G_told (hm hr) (qa_c (vi vah) A3))) (D3 (n:=2) sc_followers.nd rfl vap 'g') (A7 (e9 C2 (vi zP) (vi vaj) (M7 A3))))
   (A8 (L6 PassesOwn.never (P5 (K:=K) (vi vah)) (D3 (n:=3) sc_followers.nd rfl vaq 'g') (A7 (L6 PassesOwn.never (sX T.b_zip (qa_c (vi vak) (qa_c (L9 (K:=K) (vi vak) (I0 A4) O4) A3))) (k5 (K:=K) (n:=2) (O2 ((D3 (n:=4) sc_followers.nd rfl var 'g')) (O2 ((D3 (n:=5) sc_followers.nd rfl vas 'g')) k4))) (A7 (O9 (qe_mB (K:=K) Q5 U9 U8 V0 (e8 C2 (vi zP) (vi vam)) (qa_c (vi van) A3)))))))
   (A7 (E4 (vi zP)))))),?_⟩
  obtain ⟨a,rs,zss,rfl,hR,hz,q⟩:=h;walk_at "rd";intro d nd;have S0:Same H (A0 H d (.dK [])):=Same.new nd;refine ⟨a,rs,zss,rfl,hR.same S0,hz,fun l H1 nl S1 hl=>?_⟩;have Y1:H1 d=some (.dK []):=S1 _ _ A5;have S01:=S0.trans S1;have A9:(toldL zss).length<=100000:=K6 (nR zss) hz;have tnd:=kJ zss;refine ⟨l,rfl,⟨_,.of hl⟩,forL (xs:=(toldL zss).map V.str) (fun i Y H2=>∃ (u v w x:Option V) (ad:Str->Addr),Y=[some (.ref a),some (.ref d),u,v,w,x]/\SameBut d H1 H2/\H2 d=some (.dK (C1 ((toldL zss).take i) fun t=>.ref (ad t)))/\DL H1 H2 ((toldL zss).take i) ad fun _=>[])
   ⟨none,none,none,none,fun _=>0,rfl,uam _ _,Y1,⟨fun t h=>by simp at h,fun t h=>by simp at h,fun t h=>by simp at h⟩⟩ (fun i Y H2 _ ⟨_,_,_,_,_,_,S,_⟩=>.of (S _ _ (fun e=>by rw [e,Y1] at hl;cases hl) hl)) ?_ ?_⟩
  .rintro i x Y H2 hx ⟨u,v,w,y,ad,rfl,S,hd,dl⟩;obtain ⟨z,hk,rfl⟩:=G0 hx;have hi:i<(toldL zss).length:=(G2.mp hk).1;have Q3:=xZ tnd hk;walk_at "rd";refine fun p np=>⟨_,cE (k:=Sum.inr z) (D1 hd np) (by rw [k9,E9];exact L3 'a'),?_⟩
   have n1:H1 p=none:=S.free np (fun e=>by rw [e,hd] at np;cases np);refine ⟨(S.put n1).at,fun t=>if t=z then p else ad t,?_,?_⟩
   .rw [A5,eB _ Q3,M8 hk];have e:(fun t=>if t=z then V.ref p else V.ref (ad t))=fun t=>V.ref (if t=z then p else ad t):=by funext t;split <;> rfl
    rw [e]
   .rw [M8 hk];exact ((dl.more Q3 np n1).congr fun t _=>by split <;> rfl).put Y1
  .rintro Y H2 ⟨u,v,w,y,ad,rfl,S,hd,dl⟩;rw [A6,K3] at hd dl;have S2:Same H H2:=S.same S01 nd;walk_at "rd";have dl0:DL H H2 (toldL zss) ad fun _=>[]:=dl.old S01
   refine ⟨⟨_,.of (S2 _ _ hR.top)⟩,forL (xs:=rs.map V.ref) (fun i Y H3=>∃ (v w x:Option V),Y=[some (.ref a),some (.ref d),u,v,w,x]/\Same H H3/\H3 d=some (.dK (C1 (toldL zss) fun t=>.ref (ad t)))/\DL H H3 (toldL zss) ad (G6 (edges (zss.take i))))
    ⟨v,w,y,rfl,S2,hd,dl0⟩ (by rintro i Y H3 _ ⟨_,_,_,_,S,_⟩;exact .of (S _ _ hR.top)) ?_ ?_⟩
   .rintro i x Y H3 hx ⟨v,w,y,rfl,S3,Y0,bH⟩;obtain ⟨r,hr,rfl⟩:=G0 hx;obtain ⟨zs,lW,D7⟩:=Paired.at hR.row hr;have fC:=S3 _ _ D7;have L1:∀ x∈zs,x∈toldL zss:=fun x hx=>(xW _ _).mpr (List.mem_flatten.mpr ⟨zs,N2 lW,hx⟩)
    walk_at "rd";refine rSlR.l (.of fC) fun p np=>?_
    have ecut:cutV (zs.map V.str) (some 1) none=zs.tail.map V.str:=by
     have:=p5 (zs.map V.str) 1
     rw [show ((1:Nat):Int)=1 from rfl] at this;rw [this,<- aK,List.drop_one]
    rw [ecut];have np0:H p=none:=S3.free np;have nad:∀ t∈toldL zss,ad t≠p:=fun t ht e=>by have:=bH.row t ht;rw [e,np] at this;cases this
    have nadr:∀ t∈toldL zss,ad t≠r:=fun t ht e=>by have:=bH.new t ht;rw [e,D7] at this;cases this
    have ndp:d≠p:=fun e=>by rw [<- e,Y0] at np;cases np
    have nadd:∀ t∈toldL zss,ad t≠d:=fun t ht e=>by have:=bH.row t ht;rw [e,Y0] at this;cases this
    refine ⟨p,rfl,⟨_,D1 fC np⟩,⟨_,A5⟩,forZ (xs:=zs.map V.str) (ys:=zs.tail.map V.str) (fun j Y H4=>∃ (w x:Option V),Y=[some (.ref a),some (.ref d),u,some (.ref r),w,x]/\Same H H4/\H4 p=some (.lst (zs.tail.map V.str))/\H4 d=some (.dK (C1 (toldL zss) fun t=>.ref (ad t)))/\DL H H4 (toldL zss) ad (G6 (edges (zss.take i)++(V2 zs).take j)))
     ⟨w,y,rfl,S3.put np0,A5,D1 Y0 np,?_⟩ (by rintro j Y H4 ⟨_,_,_,S,hp,_⟩;exact ⟨S _ _ D7,hp⟩) ?_ ?_⟩
    .rw [j4,K9];exact bH.same (Same.new np)
    .rintro j xv yv t Y H4 hxv hyv ⟨w,v,rfl,S4,fD,Y2,lX⟩ nt;obtain ⟨x,hx,rfl⟩:=G0 hxv;obtain ⟨y,hy,rfl⟩:=G0 hyv;have lY:=L1 x (N2 hx);have vP:H t=none:=S4.free nt;have hlx:=lX.row x lY;have hE:(V2 zs)[j]?=some (x,y):=agO hx hy;walk_at "rd";refine ⟨_,.of A5,rfl,_,_,rfl,_,_,rfl,rfl,V.ref (ad x),.inl ⟨_,Sum.inr x,.inl (D1 Y2 nt),rfl,by rw [O3,if_pos lY]⟩,Q7 (D1 hlx nt),appOk (D1 hlx nt) ?_ ⟨(S4.put vP).put (lX.new x lY),?_,?_,?_⟩⟩
     .rw [A6];refine L3 ?_;have h1:(G6 (edges (zss.take i)++(V2 zs).take j) x).length<=(edges (zss.take i)++(V2 zs).take j).length:=by
       unfold G6;rw [A6];exact mN _ _
      have h2:=agP (zss.take i);have h3:(zss.take i).flatten.length<=zss.flatten.length:=by
       conv=>rhs;rw [<- V7 i zss]
       rw [mP,C4];lia
      have h4:zs.length<=zss.flatten.length:=List.Sublist.length_le (List.sublist_flatten_of_mem (N2 lW));rw [C4,E9,xY] at h1;lia
     .rw [B1 (nad x lY).symm];exact D1 fD nt
     .rw [B1 (nadd x lY).symm];exact D1 Y2 nt
     .have h1:=(lX.same (Same.new (u:=.tup [V.str x,V.str y]) nt)).app lY (G6 (edges (zss.take i)++(V2 zs).take j) x++[y]);rw [E2] at h1;refine h1.congr fun t _=>?_
      rw [M8 hE,<- R3,ams]
      by_cases e:t=x
      .rw [if_pos e,if_pos e.symm,e]
      .rw [if_neg e,if_neg (fun z=>e z.symm)]
    .rintro Y H4 ⟨w,x,rfl,S4,fD,Y2,lX⟩;walk_at "rd";refine ⟨S4,Y2,?_⟩;rw [ajg lW];rw [aH (l:=V2 zs) (by rw [xY,A6,A6];exact B5 _)] at lX;exact lX
   .rintro Y H3 ⟨v,w,y,rfl,S3,Y0,bH⟩;rw [A6,show rs.length=zss.length from Paired.length hR.row,K3] at bH;walk_at "rd";exact q d ad H3 nd S3 Y0 bH
theorem sc_count_ahead:FnScope ["after", "ahead", "piece", "other"] ["after"] (C3 aX):=G1
abbrev uG:List Str:=["after", "ahead", "piece", "other"]
theorem zQ:VS uG aX "after" 0:=vq
theorem zR:VS uG aX "ahead" 1:=vq
theorem vav:VS uG aX "piece" 2:=vq
theorem vaw:VS uG aX "other" 3:=vq
theorem vax:LS aX "ahead":=lq
theorem vay:LS aX "piece":=lq
theorem vaz:LS aX "other":=lq
theorem afg(F:FunD K "count_ahead" "count_ahead" aX f fd)(T:Txt P w K mg C):FnOk P w K mg base E6 1 f fd ["after"] akA:=by
 refine F.ok sc_count_ahead ?_ ?_
 .rintro _ _ _ _ ⟨d,ts,ad,E,rfl,_⟩;rfl
 .intro cdv A outer s H vs Q E hr h;have C2:=hu_of hr;have hu:=hr.units;refine ⟨_,QSs.out (A8 (C7 (n:=1) sc_count_ahead.nd rfl vax gI)
   (A8 (xT PassesOwn.never (vi zQ) (D3 (n:=2) sc_count_ahead.nd rfl vay 'g') (A7 (e9 C2 (vi zR) (vi vav) A4)))
   (A8 (xT PassesOwn.never (vi zQ) (D3 (n:=2) sc_count_ahead.nd rfl vay 'g') (A7 (L6 PassesOwn.never (P5 (K:=K) (e8 C2 (vi zQ) (vi vav))) (D3 (n:=3) sc_count_ahead.nd rfl vaz 'g') (A7 (akq C2 (vi zR) (vi vaw) A4 ara)))))
   (A7 (E4 (vi zR)))))),?_⟩
  obtain ⟨d,ts,ad,E,rfl,hd,tnd,A9,hElen,D7,hE,q⟩:=h;walk_at "rd";intro c nc;have ndc:d≠c:=fun e=>by rw [e,nc] at hd;cases hd
  refine ⟨_,D1 hd nc,fun o=>forD (fun i Y H2=>∃ (u v:Option V),Y=[some (.ref d),some (.ref c),u,v]/\H2 d=some (.frz o (.dK (C1 ts fun t=>.ref (ad t))))/\SameBut d H H2/\H2 c=some (.dK (C1 (ts.take i) fun _=>.int 0)))
   ⟨none,none,rfl,A5,(SameBut.put (uam _ _) nc).at,by rw [B1 ndc.symm,A5];rfl⟩ (by rintro i Y H2 ⟨_,_,_,h,_⟩;exact h) ?_ ?_⟩
  .rintro i k v Y H2 hk ⟨u,w,rfl,hf,S,hc⟩;obtain ⟨t,ht,rfl,rfl⟩:=sZ hk;have hi:i<ts.length:=(G2.mp ht).1;walk_at "rd";refine ⟨_,cE (k:=Sum.inr t) hc (by rw [k9,E9];exact L3 'a'),?_,S.put nc,?_⟩
   .rw [B1 ndc];exact hf
   .rw [A5,eB _ (xZ tnd ht),M8 ht];exact congrArg (fun x=>some (HO.dK x)) (W1 fun t _=>by split <;> rfl)
  .rintro Y H2 ⟨u,w,rfl,hf,S,hc⟩;rw [k9,K3] at hc;have S2:Same H (A0 H2 d (.dK (C1 ts fun t=>.ref (ad t)))):=S.thaw hd;have O5:A0 H2 d (.dK (C1 ts fun t=>.ref (ad t))) d=some (.dK (C1 ts fun t=>.ref (ad t))):=A5;have Q9:A0 H2 d (.dK (C1 ts fun t=>.ref (ad t))) c=some (.dK (C1 ts fun _=>.int 0)):=by rw [B1 ndc.symm];exact hc
   generalize A0 H2 d (.dK (C1 ts fun t=>.ref (ad t)))=H3 at S2 O5 Q9;walk_at "rd";refine ⟨_,O5,fun o=>forD (fun i Y H4=>∃ (u v:Option V),Y=[some (.ref d),some (.ref c),u,v]/\H4 d=some (.frz o (.dK (C1 ts fun t=>.ref (ad t))))/\SameBut d H H4/\H4 c=some (.dK (C1 ts fun t=>.int (cntIn E (ts.take i) t:Nat))))
    ⟨u,w,rfl,A5,fun b o hb h=>by rw [B1 hb];exact S2 b o h,?_⟩ (by rintro i Y H2 ⟨_,_,_,h,_⟩;exact h) ?_ ?_⟩
   .rw [B1 ndc.symm,Q9];exact congrArg (fun x=>some (HO.dK x)) (W1 fun t _=>by rw [j4,akz];rfl)
   .rintro i k v Y H4 hk ⟨u,w,rfl,hf,S4,cV⟩;obtain ⟨t,ht,rfl,rfl⟩:=sZ hk;have qQ:t∈ts:=N2 ht;have hl4:H4 (ad t)=some (.lst ((G6 E t).map V.str)):=S4 _ _ (fun e=>by have:=D7 t qQ;rw [e,hd] at this;cases this) (D7 t qQ);walk_at "rd";refine ⟨V.ref (ad t),.inl ⟨_,Sum.inr t,.inr ⟨o,hf⟩,rfl,by rw [O3,if_pos qQ]⟩,ad t,rfl,⟨_,.of hl4⟩,forL (xs:=(G6 E t).map V.str) (fun j Y H5=>∃ (v:Option V),Y=[some (.ref d),some (.ref c),some (kV (Sum.inr t)),v]/\H5 d=some (.frz o (.dK (C1 ts fun t=>.ref (ad t))))/\SameBut d H H5/\
     H5 c=some (.dK (C1 ts fun q=>.int (cntIn E (ts.take i) q+((G6 E t).take j).count q:Nat)))) ⟨w,rfl,hf,S4,by rw [cV];rfl⟩ (fun j Y H5 _ ⟨_,_,_,S5,_⟩=>.of (S5 _ _ (fun e=>by have:=D7 t qQ;rw [e,hd] at this;cases this) (D7 t qQ))) ?_ ?_⟩
    .rintro j v5 Y H5 hv5 ⟨v,rfl,hf5,S5,i8⟩;obtain ⟨y,vQ,rfl⟩:=G0 hv5;have fE:y∈ts:=by
      have:=N2 vQ
      unfold G6 at this;obtain ⟨e,he,rfl⟩:=D8.mp this;exact (hE e (Q1.mp he).1).2
     walk_at "rd";refine ⟨V.int (cntIn E (ts.take i) y+((G6 E t).take j).count y:Nat),.inl ⟨_,Sum.inr y,.inl i8,rfl,by rw [O3,if_pos fE]⟩,_,_,rfl,rfl,_,cE (k:=Sum.inr y) i8 (by rw [k9];exact L3 'a'),?_,S5.put nc,?_⟩
     .rw [B1 ndc];exact hf5
     .rw [A5,nZ _ fE];refine congrArg (fun x=>some (HO.dK x)) (W1 fun q _=>?_);rw [M8 vQ,List.count_append,List.count_singleton]
      by_cases e:q=y
      .rw [if_pos e,e,if_pos 'c'];exact congrArg V.int 'a'
      .rw [if_neg e,if_neg (by simpa using fun z:y=q=>e z.symm)];rfl
    .rintro Y H5 ⟨v,rfl,hf5,S5,i8⟩;walk_at "rd";refine ⟨hf5,S5,?_⟩;rw [A6,K3] at i8;rw [i8];refine congrArg (fun x=>some (HO.dK x)) (W1 fun q _=>?_);rw [M8 ht,aje (xZ tnd ht)]
   .rintro Y H4 ⟨u,w,rfl,hf,S4,cV⟩;rw [k9,K3] at cV;walk_at "rd";refine q c _ nc (S4.thaw hd) ?_;rw [B1 ndc.symm,cV];exact congrArg (fun x=>some (HO.dK x)) (W1 fun t _=>by rw [aky (fun e he=>(hE e he).1)])
theorem sc_lined_up:FnScope ["rows", "after", "ahead", "pieces", "numbers", "free", "line", "number", "other"] ["rows"] (C3 T7):=G1
abbrev cO:List Str:=["rows", "after", "ahead", "pieces", "numbers", "free", "line", "number", "other"]
theorem vaA:VS cO T7 "rows" 0:=vq
theorem zS:VS cO T7 "after" 1:=vq
theorem vaC:VS cO T7 "ahead" 2:=vq
theorem oY:VS cO T7 "pieces" 3:=vq
theorem vaE:VS cO T7 "numbers" 4:=vq
theorem uH:VS cO T7 "free" 5:=vq
theorem zT:VS cO T7 "line" 6:=vq
theorem zU:VS cO T7 "number" 7:=vq
theorem zV:VS cO T7 "other" 8:=vq
theorem vaJ:LS T7 "after":=lq
theorem vaK:LS T7 "ahead":=lq
theorem vaL:LS T7 "pieces":=lq
theorem vaM:LS T7 "numbers":=lq
theorem vaN:LS T7 "free":=lq
theorem vaO:LS T7 "line":=lq
theorem vaP:LS T7 "number":=lq
theorem vaQ:LS T7 "other":=lq
theorem ahV(F:FunD K "lined_up" "lined_up" T7 f fd)(T:Txt P w K mg C)(G_followers:FO P w K mg base 2 "followers" ["rows"] [] spFol)(G_count_ahead:FO P w K mg base 1 "count_ahead" ["after"] [] akA):FnOk P w K mg base E6 3 f fd ["rows"] akB:=by
 refine F.ok sc_lined_up ?_ ?_
 .rintro _ _ _ _ ⟨a,rs,zss,rank,rfl,_⟩;rfl
 .intro cdv A outer s H vs Q E hr h;have C2:=hu_of hr;have hu:=hr.units;refine ⟨_,QSs.out (A8 (C7 (n:=1) sc_lined_up.nd rfl vaJ (C8 G_followers (hm hr) (qa_c (vi vaA) A3)))
   (A8 (C7 (n:=2) sc_lined_up.nd rfl vaK (C8 G_count_ahead (hm hr) (qa_c (vi zS) A3)))
   (A8 (C7 (n:=3) sc_lined_up.nd rfl vaL (qe_cT (k8 (K:=K) (calm:=true)) T.b_list j9 (qa_c (vi zS) A3)))
   (A8 (C7 (n:=4) sc_lined_up.nd rfl vaM (qe_cT (akw (K:=K) (calm:=true)) T.b_dict akm (qa_c (k7  (T9:CompOk ["rows", "after", "ahead", "pieces", "numbers", "free", "line", "number", "other"] (C3 T7).names _ ["number", "piece"] 2 []) (oB T.b_enumerate (qa_c (vi oY) A3)) (fun _ _ _ _ _=>(k5 (K:=K) (n:=2) (O2 (D3 (n:=0) (show List.Nodup (["number", "piece"]:List Str) by decide +kernel) rfl (Or.inl rfl)) (O2 (D3 (n:=1) (show List.Nodup (["number", "piece"]:List Str) by decide +kernel) rfl (Or.inl rfl)) k4)))) (fun _ _ _ _ _=>k6) (fun _ _ _ _ _=>(K7 (qa_c (qv 1) (qa_c (qv 0) A3))))) A3)))
   (A8 (gK (n:=5) sc_lined_up.nd rfl vaN (T9:CompOk ["rows", "after", "ahead", "pieces", "numbers", "free", "line", "number", "other"] (C3 T7).names _ ["piece", "numbers", "ahead"] 1 [4,2]) (P5 (K:=K) (vi oY)) (fun _ _ _ _ _=>D3 (n:=0) (show List.Nodup (["piece", "numbers", "ahead"]:List Str) by decide +kernel) rfl (Or.inl rfl)) (fun _ _ _ _ _=>(dZ (D6 (q_eq (K:=K) hu) (e8 C2 (qv 2) (qv 0)) A4))) (fun _ _ _ _ _=>(e8 C2 (qv 1) (qv 0))))
   (A8 (C7 (n:=6) sc_lined_up.nd rfl vaO (M7 A3))
   (A8 (nV PassesOwn.never (W7 (K:=K) (vi uH)) (A8 (C7 (n:=7) sc_lined_up.nd rfl vaP (qe_cB (ars (calm:=true)) T.b_min aq5 (qa_c (vi uH) A3)))
   (A8 (O9 (qe_mB (K:=K) Q5 PySem.F.slot_list_remove PySem.F.type_list_remove akN (vi uH) (qa_c (vi zU) A3)))
   (A8 (O9 (qe_mB (K:=K) Q5 U9 U8 V0 (vi zT) (qa_c (qe_ix (K:=K) (vi oY) (vi zU)) A3)))
   (A7 (L6 PassesOwn.never (P5 (K:=K) (e8 C2 (vi zS) (qe_ix (K:=K) (vi oY) (vi zU)))) (D3 (n:=8) sc_lined_up.nd rfl vaQ 'g') (A8 (akq C2 (vi vaC) (vi zV) A4 arb)
   (A7 (qs_if (D6 (q_eq (K:=K) hu) (e8 C2 (vi vaC) (vi zV)) A4) (A7 (O9 (qe_mB (K:=K) Q5 U9 U8 V0 (vi uH) (qa_c (e8 C2 (vi vaE) (vi zV)) A3)))) F7)))))))))
   (A8 (qs_if (D6 q_lt (qe_cB (q_len (K:=K)) T.b_len P3 (qa_c (vi zT) A3)) (qe_cB (q_len (K:=K)) T.b_len P3 (qa_c (vi oY) A3))) (A7 sU) F7)
   (A7 (E4 (vi zT))))))))))),?_⟩
  obtain ⟨a,rs,zss,rank,rfl,hR,hz,y9,q⟩:=h;walk_at "rd";have A9:(toldL zss).length<=100000:=K6 (nR zss) hz;have hElen:(edges zss).length<=100000:=K6 (agP zss) hz;have tnd:=kJ zss;have etold:∀ e∈edges zss,e.1∈toldL zss/\e.2∈toldL zss:=fun e he=>xX he
  refine ⟨a,rs,zss,rfl,hR,hz,fun d ad H1 nd S1 hd dl=>?_⟩;generalize vR:toldL zss=ts at *;generalize hEE:edges zss=E at *;refine ⟨d,ts,ad,E,rfl,hd,tnd,A9,hElen,dl.row,etold,fun c H2 nc S2 hc=>?_⟩;walk_at "rd";refine rListR.d (.of (S2 _ _ hd)) fun w nw=>?_
  rw [amt];have X0:=S1.trans S2;have ncH:H c=none:=S1.free nc;have O5:=S2 _ _ hd;have ncd:c≠d:=fun e=>by rw [e,hd] at nc;cases nc
  have nac:∀ t∈ts,ad t≠c:=fun t ht e=>by have:=dl.row t ht;rw [e,nc] at this;cases this
  have vS:A0 H2 w (.lst (ts.map V.str)) w=some (.lst (ts.map V.str)):=A5;have Sw:Same H2 (A0 H2 w (.lst (ts.map V.str))):=Same.new nw;generalize A0 H2 w (.lst (ts.map V.str))=H3 at vS Sw ⊢
  have idx:∀ {i:Nat} {z:Str},ts[i]?=some z->ts.idxOf z=i:=fun {i z} h=>by
   obtain ⟨hi,rfl⟩:=G2.mp h;exact List.Nodup.idxOf_getElem tnd i hi
  refine ⟨w,rfl,⟨_,vS⟩,compE (xs:=ts.map V.str) [] rfl (fun D i ys H4=>∃ qs:List Addr,ys=qs.map V.ref/\Same H3 H4/\Paired (fun q t=>H4 q=some (.tup [.str t,.int (ts.idxOf t:Nat)])) qs (ts.take i)) (fun D nD=>⟨[],rfl,Same.new nD,.nil⟩) (by rintro D i ys H4 nD _ ⟨_,_,S,_⟩;exact S _ _ vS) ?_ ?_⟩
  .rintro D i x t ys H4 nD hi hx ⟨qs,rfl,S,P4⟩ hD hy nt;obtain ⟨z,hz,rfl⟩:=G0 hx;rw [A6] at hi hy;walk_at "rd";refine ⟨by decide,fun p np=>⟨D1 (D1 hD nt) np,by rw [A6];exact L3 'a',kN.put (by rw [A6];exact hi) (by rw [A6];exact hy) ⟨qs++[p],by rw [E2];rfl,((S.trans (Same.new nt)).trans (Same.new np)).put nD,?_⟩⟩⟩;rw [M8 hz];refine Paired.snoc (M5 P4 fun q t' h=>?_) ?_
   .rw [B1 (fun e=>by rw [e,hD] at h;cases h)];exact D1 (D1 h nt) np
   .rw [B1 (fun e=>by rw [e,D1 hD nt] at np;cases np),A5,idx hz]
  rintro D ys H4 nD ⟨qs,rfl,S34,P4⟩ hD hy;rw [A6,K3] at P4;refine ⟨rfl,D,qs,_,rfl,.of hD,aiB (f:=fun t=>.int (ts.idxOf t:Nat)) P4,fun nm nnm=>?_⟩;rw [show Z0 [] (C1 ts fun t=>V.int (ts.idxOf t:Nat))=C1 ts fun t=>V.int (ts.idxOf t:Nat) from agU (pre:=[]) (by simpa using tnd)];have S5:Same H2 (A0 H4 nm (.dK (C1 ts fun t=>V.int (ts.idxOf t:Nat)))):=(Sw.trans S34).trans (Same.new nnm);have cW:A0 H4 nm (.dK (C1 ts fun t=>V.int (ts.idxOf t:Nat))) w=some (.lst (ts.map V.str)):=D1 (S34 _ _ vS) nnm;have qP:A0 H4 nm (.dK (C1 ts fun t=>V.int (ts.idxOf t:Nat))) nm=some (.dK (C1 ts fun t=>V.int (ts.idxOf t:Nat))):=A5;have cV:H4 c=some (.dK (C1 ts fun t=>.int (J8 E [] t:Nat))):=S34 _ _ (Sw _ _ hc);have ncn:c≠nm:=fun e=>by rw [<- e,cV] at nnm;cases nnm
  generalize A0 H4 nm (.dK (C1 ts fun t=>V.int (ts.idxOf t:Nat)))=H5 at S5 cW qP ⊢
  have i8:=S5 _ _ hc;have qR:=S5 _ _ O5;have t6:∀ t∈ts,H5 (ad t)=some (.lst ((G6 E t).map V.str)):=fun t ht=>S5 _ _ (S2 _ _ (dl.row t ht))
  have U5:=X0.trans S5;have ncw:c≠w:=fun e=>by rw [e,cW] at i8;cases i8
  refine ⟨w,rfl,⟨_,.of cW⟩,compL (xs:=ts.map V.str) [some (.ref nm),some (.ref c)] rfl (fun D i ys H6=>∃ fr:List Int,ys=fr.map V.int/\Same H5 H6/\FS (ts.take i) [] (fun q=>J8 E [] q=0) fr) (fun D nD=>⟨[],rfl,Same.new nD,FS.nil _⟩) (by rintro D i ys H6 nD _ ⟨_,_,S,_⟩;exact .of (S _ _ cW)) ?_ ?_⟩
  .rintro D i x ys H6 nD hi hx ⟨fr,rfl,S,F⟩ hD hy;obtain ⟨z,hz,rfl⟩:=G0 hx;have hzt:z∈ts:=N2 hz;have vT:i<ts.length:=(G2.mp hz).1;rw [A6] at hy;have hs:=F.snoc (i:=i) (q:=z) (by rw [E9];lia) 'c';rw [<- M8 hz] at hs;walk_at "rd";refine ⟨V.int (J8 E [] z:Nat),.inl ⟨_,Sum.inr z,.inl (S _ _ i8),rfl,by rw [O3,if_pos hzt]⟩,?_⟩
   try walk_at "rd"
   refine iteD (fun h0=>⟨V.int (ts.idxOf z:Nat),.inl ⟨_,Sum.inr z,.inl (S _ _ qP),rfl,by rw [O3,if_pos hzt]⟩,hD,by rw [A6];exact L3 'a',CW.put hi (by rw [A6];exact hy) ⟨fr++[(i:Int)],by rw [E2,idx hz];rfl,S.put nD,hs.1 'a'⟩⟩) fun h0=>⟨hD,nO hi (by rw [A6];exact hy) ⟨fr,rfl,S,hs.2 'a'⟩⟩
  rintro f ys H6 nf ⟨fr,rfl,S56,F0⟩ hf6 hy;rw [A6,K3] at F0;intro ln nln;have nln5:H5 ln=none:=S56.free nln;have m9:f≠ln:=fun e=>by rw [e,nln] at hf6;cases hf6
  have frlen:∀ {line fr z},FS ts line z fr->fr.length<=ts.length:=fun {line fr z} F=>by
   have h1:∀ n∈fr,n∈(List.range ts.length).map fun (n:Nat)=>(n:Int):=fun n hn=>by
    obtain ⟨m,q,e,h2,_⟩:=(F.2 n).mp hn;exact D8.mpr ⟨m,jP.mpr (G2.mp h2).1,e.symm⟩
   have:=afB F.1 h1
   simpa using this
  refine nW (fun m Y H7=>∃ (u v:Option V) (line:List Str) (fr:List Int),Y=[some (.ref a),some (.ref d),some (.ref c),some (.ref w),some (.ref nm),some (.ref f),some (.ref ln),u,v]/\SameBut c H5 H7/\
    H7 c=some (.dK (C1 ts fun t=>.int (J8 E line t:Nat)))/\H7 f=some (.lst (fr.map V.int))/\FS ts line (fun q=>J8 E line q=0) fr/\H7 ln=some (.lst (line.map V.str))/\R5 E ts line/\m=ts.length-line.length) ts.length
   ⟨none,none,[],fr,rfl,fun b o _ h=>D1 (S56 _ _ h) nln,D1 (S56 _ _ i8) nln,D1 hf6 nln,F0,A5,R5.nil _ _,rfl⟩ ?_
  rintro m Y H7 ⟨u,v,line,fr,rfl,B7,qS,vU,F,fF,run,rfl⟩;have S07:Same H H7:=B7.same U5 ncH;walk_at "rd";refine ⟨_,xP vU,?_⟩
  by_cases cX:fr=[]
  .have cS:∀ p∈ts,p∈line:=fun p hp=>Classical.byContradiction fun hn=>by
    obtain ⟨q',hq⟩:=aiw (line:=line) y9 (fun e he=>(etold e he).1) ⟨p,hp,hn⟩;obtain ⟨h1,h2,h3⟩:=gL hq;obtain ⟨k,hk⟩:=List.mem_iff_getElem?.mp h1
    have:=(F.2 (k:Int)).mpr ⟨k,q',rfl,hk,h2,h3⟩
    rw [cX] at this
    cases this
   have hsl:=sY tnd run cS;rw [cX];refine iteF ?_
   try walk_at "rd"
   refine ⟨line.length,.inl ⟨_,.of fF,by rw [A6]⟩,ts.length,.inl ⟨_,.of (B7 _ _ ncw.symm cW),by rw [A6]⟩,?_⟩
   try walk_at "rd"
   exact iteD (fun h=>absurd h 'a') fun _=>q ln line H7 (U5.free nln5) S07 fF run cS
  rw [show (!(fr.map V.int).isEmpty)=true by cases fr with | nil=>exact absurd rfl cX | cons=>rfl];refine iteT ⟨fun σ' H'=>∃ (u v:Option V) (line':List Str) (fr:List Int),σ'=[some (.ref a),some (.ref d),some (.ref c),some (.ref w),some (.ref nm),some (.ref f),some (.ref ln),u,v]/\SameBut c H5 H'/\
    H' c=some (.dK (C1 ts fun t=>.int (J8 E line' t:Nat)))/\H' f=some (.lst (fr.map V.int))/\FS ts line' (fun q=>J8 E line' q=0) fr/\H' ln=some (.lst (line'.map V.str))/\R5 E ts line'/\ts.length-line'.length<ts.length-line.length,?_,?_⟩
  .rintro σ' H' ⟨u,v,line',fr',rfl,h1,h2,h3,h4,h5,h6,h7⟩;exact ⟨_,h7,⟨_,_,rfl⟩,h1,line',h2,fr',h3,h4,h5,h6,rfl⟩
  try walk_at "rd"
  refine ⟨fr,vU,cX,fun M hM iQ=>?_⟩;obtain ⟨mm,p,rfl,hpm,i9⟩:=ahA F hM iQ;obtain ⟨z0,U4,R1⟩:=gL i9;have hll:line.length<ts.length:=by
   have h1:(line++[p]).Nodup:=(run.snoc i9).nodup;have h3:=agQ h1 fun x hx=>(run.snoc i9).sub hx
   rw [C4,N3] at h3;lia
  have F1:=F.take tnd hpm
  try walk_at "rd"
  refine ⟨Q7 vU,arr vU hM ?_⟩;have hwf:w≠f:=fun e=>by rw [e,nf] at cW;cases cW
  have hcf:c≠f:=fun e=>by rw [e,nf] at i8;cases i8
  have qT:c≠ln:=fun e=>by rw [e,nln5] at i8;cases i8
  have B8:SameBut c H5 (A0 H7 f (.lst ((fr.erase (mm:Int)).map V.int))):=B7.put nf;have bI:A0 H7 f (.lst ((fr.erase (mm:Int)).map V.int)) ln=some (.lst (line.map V.str)):=by rw [B1 m9.symm];exact fF
  have hf8:A0 H7 f (.lst ((fr.erase (mm:Int)).map V.int)) f=some (.lst ((fr.erase (mm:Int)).map V.int)):=A5;have hc8:A0 H7 f (.lst ((fr.erase (mm:Int)).map V.int)) c=some (.dK (C1 ts fun t=>.int (J8 E line t:Nat))):=by rw [B1 hcf];exact qS
  generalize A0 H7 f (.lst ((fr.erase (mm:Int)).map V.int))=H8 at B8 bI hf8 hc8 ⊢
  have atp:G4 (ts.map V.str) (mm:Int)=some (V.str p):=N9 (by rw [T8,hpm];rfl);refine ⟨Q7 bI,_,.inl (.of (B8 _ _ ncw.symm cW)),V.str p,atp,appOk bI (by rw [A6];exact L3 'a') ?_⟩;have B9:SameBut c H5 (A0 H8 ln (.lst (line.map V.str++[V.str p]))):=B8.put nln5;have vV:A0 H8 ln (.lst (line.map V.str++[V.str p])) ln=some (.lst ((line++[p]).map V.str)):=by rw [A5,E2];rfl
  have hf9:A0 H8 ln (.lst (line.map V.str++[V.str p])) f=some (.lst ((fr.erase (mm:Int)).map V.int)):=by rw [B1 m9];exact hf8
  have hc9:A0 H8 ln (.lst (line.map V.str++[V.str p])) c=some (.dK (C1 ts fun t=>.int (J8 E line t:Nat))):=by rw [B1 qT];exact hc8
  generalize A0 H8 ln (.lst (line.map V.str++[V.str p]))=H9 at B9 vV hf9 hc9 ⊢
  refine ⟨_,.inl (.of (B9 _ _ ncw.symm cW)),V.str p,atp,V.ref (ad p),.inl ⟨_,Sum.inr p,.inl (B9 _ _ ncd.symm qR),rfl,by rw [O3,if_pos z0]⟩,ad p,rfl,⟨_,.of (B9 _ _ (nac p z0) (t6 p z0))⟩,
   forL (xs:=(G6 E p).map V.str) (fun j Y H7=>∃ (x:Option V) (fr:List Int),Y=[some (.ref a),some (.ref d),some (.ref c),some (.ref w),some (.ref nm),some (.ref f),some (.ref ln),some (.int (mm:Int)),x]/\SameBut c H5 H7/\
    H7 c=some (.dK (C1 ts fun t=>.int ((J8 E line t:Nat)-(((G6 E p).take j).count t:Nat))))/\H7 f=some (.lst (fr.map V.int))/\FS ts (line++[p]) (fun q=>J8 E line q=((G6 E p).take j).count q) fr/\H7 ln=some (.lst ((line++[p]).map V.str)))
   ⟨v,_,rfl,B9,?_,hf9,F1.congr fun q=>'c',vV⟩ (by rintro j Y H7 _ ⟨_,_,_,B,_⟩;exact .of (B _ _ (nac p z0) (t6 p z0))) ?_ ?_⟩
  .rw [hc9];exact congrArg (fun x=>some (HO.dK x)) (W1 fun t _=>congrArg V.int 'c')
  .rintro j v5 Y Q4 hv5 ⟨x,fr,rfl,B,z8,iU,F,iV⟩;obtain ⟨y,hy,rfl⟩:=G0 hv5;have fE:y∈ts:=by
    have:=N2 hy
    unfold G6 at this;obtain ⟨e,he,rfl⟩:=D8.mp this;exact (etold e (Q1.mp he).1).2
   have iP:((G6 E p).take j).count y<J8 E line y:=by
    have h1:=aiv (E:=E) (q:=y) U4;have h2:(G6 E p).count y=((G6 E p).take (j+1)).count y+((G6 E p).drop (j+1)).count y:=by rw [<- List.count_append,V7]
    rw [M8 hy,List.count_append,List.count_singleton,if_pos 'c'] at h2;lia
   have hyb:y∉line++[p]:=fun hm=>by
    rcases E1.mp hm with hm | hm
    .have:=amC run hm;lia
    .rw [F6.mp hm] at iP;lia
   obtain ⟨my,lZ⟩:=List.mem_iff_getElem?.mp fE;have qU:∀ q,((G6 E p).take (j+1)).count q=((G6 E p).take j).count q+if y=q then 1 else 0:=fun q=>by
    rw [M8 hy,List.count_append,List.count_singleton]
    by_cases e:y=q
    .rw [if_pos e,if_pos (by simpa using e)]
    .rw [if_neg e,if_neg (by simpa using e)]
   have turn:=F.turn (z':=fun q=>J8 E line q=((G6 E p).take (j+1)).count q) tnd (y:=y) (fun q hq=>by rw [qU,if_neg (fun e=>hq e.symm),Nat.add_zero]) 'a' lZ hyb;have Q3:C1 ts (fun t=>V.int (if t=y then (J8 E line y:Nat)-(((G6 E p).take j).count y:Nat)-1 else (J8 E line t:Nat)-(((G6 E p).take j).count t:Nat)))=C1 ts (fun t=>V.int ((J8 E line t:Nat)-(((G6 E p).take (j+1)).count t:Nat))):=W1 fun q _=>by
    rw [qU]
    by_cases e:q=y
    .rw [if_pos e,e,if_pos rfl];exact congrArg V.int 'a'
    .rw [if_neg e,if_neg (fun z=>e z.symm)];exact congrArg V.int 'a'
   walk_at "rd";refine ⟨_,.inl ⟨_,Sum.inr y,.inl z8,rfl,by rw [O3,if_pos fE]⟩,_,_,rfl,rfl,_,cE (k:=Sum.inr y) z8 (by rw [k9];exact L3 'a'),?_⟩;have cY:A0 Q4 c (.dK (putK (C1 ts fun t=>V.int ((J8 E line t:Nat)-(((G6 E p).take j).count t:Nat))) (Sum.inr y) (V.int ((J8 E line y:Nat)-(((G6 E p).take j).count y:Nat)-1)))) c=some (.dK (C1 ts (fun t=>V.int ((J8 E line t:Nat)-(((G6 E p).take (j+1)).count t:Nat))))):=by
    rw [A5,nZ _ fE,<- Q3];refine congrArg (fun x=>some (HO.dK x)) (W1 fun q _=>?_)
    by_cases e:q=y
    .rw [if_pos e,if_pos e]
    .rw [if_neg e,if_neg e]
   have B11:SameBut c H5 (A0 Q4 c (.dK (putK (C1 ts fun t=>V.int ((J8 E line t:Nat)-(((G6 E p).take j).count t:Nat))) (Sum.inr y) (V.int ((J8 E line y:Nat)-(((G6 E p).take j).count y:Nat)-1))))):=B.at;have cZ:A0 Q4 c (.dK (putK (C1 ts fun t=>V.int ((J8 E line t:Nat)-(((G6 E p).take j).count t:Nat))) (Sum.inr y) (V.int ((J8 E line y:Nat)-(((G6 E p).take j).count y:Nat)-1)))) f=some (.lst (fr.map V.int)):=by rw [B1 hcf.symm];exact iU
   have iW:A0 Q4 c (.dK (putK (C1 ts fun t=>V.int ((J8 E line t:Nat)-(((G6 E p).take j).count t:Nat))) (Sum.inr y) (V.int ((J8 E line y:Nat)-(((G6 E p).take j).count y:Nat)-1)))) ln=some (.lst ((line++[p]).map V.str)):=by rw [B1 qT.symm];exact iV
   generalize A0 Q4 c (.dK (putK (C1 ts fun t=>V.int ((J8 E line t:Nat)-(((G6 E p).take j).count t:Nat))) (Sum.inr y) (V.int ((J8 E line y:Nat)-(((G6 E p).take j).count y:Nat)-1))))=bJ at cY B11 cZ iW ⊢
   refine ⟨V.int ((J8 E line y:Nat)-(((G6 E p).take (j+1)).count y:Nat)),.inl ⟨_,Sum.inr y,.inl cY,rfl,by rw [O3,if_pos fE]⟩,?_⟩
   try walk_at "rd"
   have hfl2:=frlen F;refine iteD (fun h0=>⟨Q7 cZ,V.int (ts.idxOf y:Nat),.inl ⟨_,Sum.inr y,.inl (B11 _ _ ncn.symm qP),rfl,by rw [O3,if_pos fE]⟩,appOk cZ (by rw [A6];exact L3 'a') ?_⟩) fun h0=>?_
   .refine ⟨B11.put nf,?_,fr++[(my:Int)],?_,turn.1 'a',?_⟩
    .rw [B1 hcf];exact cY
    .rw [A5,E2,idx lZ];rfl
    .rw [B1 m9.symm];exact iW
   .exact ⟨B11,cY,fr,cZ,turn.2 'a',iW⟩
  .rintro Y Q4 ⟨x,fr,rfl,B,z8,iU,F,iV⟩;rw [A6,K3] at z8 F;have fG:∀ q,J8 E line q=J8 E (line++[p]) q+(G6 E p).count q:=fun q=>aiv (E:=E) (q:=q) U4
   refine ⟨⟨_,_,rfl⟩,B,line++[p],?_,fr,iU,F.congr fun q=>?_,iV,run.snoc i9,by rw [C4,N3];lia⟩
   .rw [z8];exact congrArg (fun x=>some (HO.dK x)) (W1 fun q _=>congrArg V.int (by have:=fG q;lia))
   .have:=fG q
    lia
theorem ahe:FnScope ["sign"] ["sign"] (C3 uB):=G1
abbrev ahW:List Str:=["sign"]
theorem vaR:VS ahW uB "sign" 0:=vq
theorem ahf(F:FunD K "is_figure" "is_figure" uB f fd)(T:Txt P w K mg C):FnOk P w K mg base E6 1 f fd ["sign"] kO:=by
 refine F.ok ahe ?_ ?_
 .rintro _ _ _ _ ⟨c,rfl,_⟩;rfl
 .intro cdv A outer s H vs Q E hr h;have C2:=hu_of hr;have hu:=hr.units;refine ⟨_,QSs.out (A7 (E4 (amh q_le q_le G5 (vi vaR) G5))),?_⟩;obtain ⟨c,rfl,q⟩:=h;walk_at "rd";have e1:(Str.ofString "0").cps.toList=[48]:=by decide +kernel
  have e2:(Str.ofString "9").cps.toList=[57]:=by decide +kernel
  rw [e1,e2];simp only [arl];refine iteN (fun h1=>?_) fun h1=>?_
  .have e:figO c=!decide (57<c):=by
    unfold figO;rw [decide_eq_true (by lia:48<=c)]
    by_cases h2:c<=57
    .rw [decide_eq_true h2,decide_eq_false (by lia:¬ 57<c)];rfl
    .rw [decide_eq_false h2,decide_eq_true (by lia:57<c)];rfl
   rw [e] at q;exact q
  .have e:figO c=false:=by unfold figO;rw [decide_eq_false (by lia:¬ 48<=c)];rfl
   rw [e] at q;exact q
theorem ahX:FnScope ["rules", "word"] ["rules", "word"] (C3 oP):=G1
abbrev ajy:List Str:=["rules", "word"]
theorem vaS:VS ajy oP "rules" 0:=vq
theorem ahY(F:FunD K "has_rule" "has_rule" oP f fd)(T:Txt P w K mg C):FnOk P w K mg base E6 1 f fd ["rules", "word"] (spHas K):=by
 refine F.ok ahX ?_ ?_
 .rintro _ _ _ _ ⟨a,ts,R,w,rfl,_⟩;rfl
 .intro cdv A outer s H vs Q E hr h;have C2:=hu_of hr;have hu:=hr.units;refine ⟨_,QSs.out (A7 (E4 (qe_cB (q_any (calm:=true)) T.b_any am2 (qa_c (k7  (T9:CompOk ["rules", "word"] (C3 oP).names _ ["rule", "word"] 1 [1]) (P5 (K:=K) (vi vaS)) (fun _ _ _ _ _=>D3 (n:=0) (show List.Nodup (["rule", "word"]:List Str) by decide +kernel) rfl (Or.inl rfl)) (fun _ _ _ _ _=>k6) (fun _ _ _ _ _=>(gH (q_eq (K:=K) hu) (qe_ix (K:=K) (qv 0) A4) (qv 1)))) A3)))),?_⟩;obtain ⟨a,ts,R,w,rfl,hR,hl,q⟩:=h;walk_at "rd";refine ⟨⟨_,.of hR.top⟩,compL (xs:=ts.map V.ref) [some (.str w)] rfl (fun D i ys H4=>ys=((R.take i).map fun z=>decide (z.1=w)).map V.bl/\Same H H4) (fun D nD=>⟨rfl,Same.new nD⟩) (by rintro D i ys H4 nD _ ⟨_,S⟩;exact .of (S _ _ hR.top)) ?_ ?_⟩
  .rintro D i x ys H4 nD hi hx ⟨rfl,S⟩ hD hy;obtain ⟨t,ht,rfl⟩:=G0 hx;obtain ⟨z,hz,D7⟩:=Paired.at hR.row ht;have t8:i<R.length:=(G2.mp hz).1;walk_at "rd";refine ⟨_,.inr (.of (S _ _ D7)),V.str z.1,T6 _ _,?_⟩;walk_at "rd";refine ⟨hD,by rw [A6,A6,E9];exact L3 'a',CW.put hi hy ⟨?_,S.put nD⟩⟩;rw [t9,hz]
   simp
  rintro D ys H4 nD ⟨rfl,S⟩ hD hy;rw [A6,hR.len,K3] at hD;refine ⟨_,rfl,hD,?_⟩;have e:((R.map fun z=>decide (z.1=w)).any id)=hasW R w:=by
   unfold hasW;rw [List.any_map];rfl
  rw [e];exact q H4 S
theorem afh:FnScope ["rule"] ["rule"] (C3 uC):=G1
abbrev age:List Str:=["rule"]
theorem lC:VS age uC "rule" 0:=vq
theorem afi(F:FunD K "pieces_told" "pieces_told" uC f fd)(T:Txt P w K mg C):FnOk P w K mg base E6 1 f fd ["rule"] (akD K):=by
 refine F.ok afh ?_ ?_
 .rintro _ _ _ _ ⟨t,z,rfl,_⟩;rfl
 .intro cdv A outer s H vs Q E hr h;have C2:=hu_of hr;have hu:=hr.units;obtain ⟨a_JOBS,m_JOBS,M_JOBS⟩:=T.x_JOBS;refine ⟨_,QSs.out (A8 (qs_if (D6 (q_eq (K:=K) hu) (qe_ix (K:=K) (vi lC) A4) G5) (A7 (E4 (L9 (K:=K) (vi lC) (I0 A4) O4))) F7)
   (A8 (qs_if (D6 (q_eq (K:=K) hu) (qe_ix (K:=K) (vi lC) A4) G5) (A7 (E4 (L9 (K:=K) (vi lC) (I0 A4) (I0 A4)))) F7)
   (A7 (E4 (aiq (D6 (q_inM M_JOBS) (qe_ix (K:=K) (vi lC) A4) (sS m_JOBS)) (L9 (K:=K) (vi lC) (I0 A4) O4) (K7 A3)))))),?_⟩
  obtain ⟨t,z,rfl,ht,q⟩:=h;have hT:C6 K H t ((z.1::z.2).map V.str):=.of ht;have A9:1<=((z.1::z.2).map V.str).length:=by rw [A6,K4];lia
  walk_at "rd";refine ⟨_,.inr hT,V.str z.1,T6 _ _,?_⟩;walk_at "rd";refine iteD (fun e=>?_) fun n1=>⟨_,.inr hT,V.str z.1,T6 _ _,?_⟩
  .refine rSlR.t hT (p7 (k:=2) 'h' A9) fun p np=>q p _ (Same.new np) (.of ?_)
   rw [A5,show ((2:Int))=((2:Nat):Int) from rfl,p5,K5,List.drop_succ_cons,<- aK];unfold M9;rw [if_pos e]
  walk_at "rd";refine iteD (fun e=>?_) fun n2=>⟨_,.inr hT,V.str z.1,T6 _ _,?_⟩
  .refine rSlR.t hT (p7 (k:=1) 'h' A9) fun p np=>q p _ (Same.new np) (.of ?_)
   have ecut:cutV ((z.1::z.2).map V.str) (some 1) (some 2)=(z.2.take 1).map V.str:=by
    unfold cutV
    cases z.2 with
    | nil=>rfl
    | cons y r=>
     have e1:HT.sIx ((z.1::y::r).map V.str).length 0 (some 1)=1:=by
      rw [show ((1:Int))=((1:Nat):Int) from rfl,HT.sIx_nat,A6,K4,K4];lia
     have e2:HT.sIx ((z.1::y::r).map V.str).length ((z.1::y::r).map V.str).length (some 2)=2:=by
      rw [show ((2:Int))=((2:Nat):Int) from rfl,HT.sIx_nat,A6,K4,K4];lia
     rw [e1,e2];rfl
   rw [A5,ecut];unfold M9;rw [if_neg n1,if_pos e]
  walk_at "rd"
  by_cases hj:gM z.1
  .rw [yD hj];refine iteT (rSlR.t hT (p7 (k:=1) 'h' A9) fun p np=>q p _ (Same.new np) (.of ?_));rw [A5,K5,xQ];unfold M9;have h3:z.1=("row" : Str)\/z.1=("marks" : Str)\/z.1=("over" : Str):=by
    rcases hj with h | h | h | h | h
    .exact .inl h
    .exact .inr (.inl h)
    .exact absurd h n1
    .exact absurd h n2
    .exact .inr (.inr h)
   rw [if_neg n1,if_neg n2,if_pos h3]
  .rw [amy hj];refine iteF fun p np=>q p _ (Same.new np) (.of ?_)
   rw [A5];unfold M9;rw [if_neg n1,if_neg n2,if_neg (fun h=>hj (by
    rcases h with h | h | h
    .exact .inl h
    .exact .inr (.inl h)
    .exact .inr (.inr (.inr (.inr h)))))]
   rfl
theorem ahZ:FnScope ["jobs", "piece", "job", "figures"] ["jobs", "piece", "job", "figures"] (C3 eI):=G1
abbrev uI:List Str:=["jobs", "piece", "job", "figures"]
theorem vaU:VS uI eI "jobs" 0:=vq
theorem zW:VS uI eI "piece" 1:=vq
theorem vaW:VS uI eI "job" 2:=vq
theorem vaX:VS uI eI "figures" 3:=vq
theorem ah0(F:FunD K "is_clash" "is_clash" eI f fd)(T:Txt P w K mg C)(G_is_figure:FO P w K mg base 1 "is_figure" ["sign"] [] kO):FnOk P w K mg base E6 2 f fd ["jobs", "piece", "job", "figures"] akE:=by
 refine F.ok ahZ ?_ ?_
 .rintro _ _ _ _ ⟨d,p,j,fg,ks,g,rfl,_⟩;rfl
 .intro cdv A outer s H vs Q E hr h;have C2:=hu_of hr;have hu:=hr.units;obtain ⟨a_AGAIN,m_AGAIN,M_AGAIN⟩:=T.x_AGAIN;refine ⟨_,QSs.out (A8 (qs_if (QW.pt (p0 (D6 (q_in (K:=K) hu) (vi zW) (vi vaU)) (v8 (QW.pt (qw_or (D6 (q_ne (K:=K) hu) (e8 C2 (vi vaU) (vi zW)) (vi vaW)) (kH (D6 (sV (K:=K) hu) (vi vaW) (sS m_AGAIN)))))))) (A7 (E4 qe_bl)) F7)
   (A7 (E4 (xO (vi vaX) (am3 (qe_cB (q_any (calm:=true)) T.b_any am2 (qa_c (k7  (T9:CompOk ["jobs", "piece", "job", "figures"] (C3 eI).names _ ["sign"] 1 []) (aq9 (vi zW)) (fun _ _ _ _ _=>D3 (n:=0) (show List.Nodup (["sign"]:List Str) by decide +kernel) rfl (Or.inl rfl)) (fun _ _ _ _ _=>k6) (fun _ _ _ _ _=>(C8 G_is_figure (hm hr) (qa_c (qv 0) A3)))) A3))))))),?_⟩
  obtain ⟨d,p,j,fg,ks,g,rfl,hd,hp,h1,h2,q⟩:=h;walk_at "rd";have tail:(if fg=true then cF (kE p) 1 [] (gName 0) tYes (tCall kO [] E0 (tCons (tVar 0) tNil)) [some (V.ref d),some (V.str p),some (V.str j),some (V.bl fg)] (fun x H1=>rAnyB true [x] H1 Q) H else Q (V.bl false) H):=by
   by_cases hf:fg=true
   .rw [if_pos hf];refine compS [] rfl (fun D i ys H4=>ys=((p.cps.toList.take i).map figO).map V.bl/\Same H H4) (fun D nD=>⟨rfl,Same.new nD⟩) ?_ ?_
    .rintro D i x ys H4 nD hi hx ⟨rfl,S⟩ hD hy;walk_at "rd";refine ⟨x,rfl,hD,?_,CW.put hi hy ⟨?_,S.put nD⟩⟩
     .rw [A6,A6,E9];exact L3 (by have:p.cps.size=p.length:=rfl;lia)
     .rw [t9,hx]
      simp
    .rintro D ys H4 nD ⟨rfl,S⟩ hD hy;walk_at "rd";refine ⟨_,hD,?_⟩;have e:((p.cps.toList.take p.cps.size).map figO).any id=false:=by
      rw [List.any_eq_false];intro b hb;obtain ⟨c,hc,rfl⟩:=D8.mp hb;rw [h2 hf c (jM hc)];decide
     rw [e];exact q H4 S
   .rw [if_neg hf];exact q H (aQ H)
  refine rInR.d (c9 (k:=Sum.inr p) hd) ⟨_,rfl,?_⟩;rw [O3,bS]
  by_cases hk:p∈ks
  .obtain ⟨e1,e2⟩:=h1 hk;rw [if_pos hk];refine iteT ⟨V.str (g p),.inl ⟨_,Sum.inr p,.inl hd,rfl,by rw [O3,if_pos hk]⟩,?_⟩;walk_at "rd";rw [decide_eq_true e1];refine iteF (rInR.l (.inr (M_AGAIN _)) rfl rfl ⟨_,rfl,?_⟩);have e3:dW (.str j) [V.str "letter",V.str "mark",V.str "over"]=true:=by
    have:=xN j oC
    rw [decide_eq_true e2] at this;exact this
   rw [e3];exact iteF tail
  .rw [if_neg hk];exact iteF tail
theorem sc_jobs_of:FnScope ["rules", "figures", "jobs", "rule", "piece"] ["rules"] (C3 q0):=G1
abbrev oZ:List Str:=["rules", "figures", "jobs", "rule", "piece"]
theorem zX:VS oZ q0 "rules" 0:=vq
theorem vaZ:VS oZ q0 "figures" 1:=vq
theorem uJ:VS oZ q0 "jobs" 2:=vq
theorem zY:VS oZ q0 "rule" 3:=vq
theorem va2:VS oZ q0 "piece" 4:=vq
theorem va3:LS q0 "figures":=lq
theorem va4:LS q0 "jobs":=lq
theorem va5:LS q0 "rule":=lq
theorem va6:LS q0 "piece":=lq
theorem ajz(F:FunD K "jobs_of" "jobs_of" q0 f fd)(T:Txt P w K mg C)(G_has_rule:FO P w K mg base 1 "has_rule" ["rules", "word"] [] (spHas K))(G_pieces_told:FO P w K mg base 1 "pieces_told" ["rule"] [] (akD K))(G_is_clash:FO P w K mg base 2 "is_clash" ["jobs", "piece", "job", "figures"] [] akE):FnOk P w K mg base E6 3 f fd ["rules"] (am9 K):=by
 refine F.ok sc_jobs_of ?_ ?_
 .rintro _ _ _ _ ⟨a,ts,R,g,rfl,_⟩;rfl
 .intro cdv A outer s H vs Q E hr h;have C2:=hu_of hr;have hu:=hr.units;obtain ⟨a_JOBS,m_JOBS,M_JOBS⟩:=T.x_JOBS;refine ⟨_,QSs.out (A8 (C7 (n:=1) sc_jobs_of.nd rfl va3 (C8 G_has_rule (hm hr) (qa_c (vi zX) (qa_c G5 A3))))
   (A8 (C7 (n:=2) sc_jobs_of.nd rfl va4 gI)
   (A8 (L6 PassesOwn.never (P5 (K:=K) (vi zX)) (D3 (n:=3) sc_jobs_of.nd rfl va5 'g') (A7 (L6 PassesOwn.never (gJ (K:=K) (C8 G_pieces_told (hm hr) (qa_c (vi zY) A3))) (D3 (n:=4) sc_jobs_of.nd rfl va6 'g') (A8 (qs_if (W7 (K:=K) (C8 G_is_clash (hm hr) (qa_c (vi uJ) (qa_c (vi va2) (qa_c (ais M_JOBS (sS m_JOBS) (qe_ix (K:=K) (vi zY) A4)) (qa_c (vi vaZ) A3)))))) (A7 sU) F7)
   (A7 (e9 C2 (vi uJ) (vi va2) (ais M_JOBS (sS m_JOBS) (qe_ix (K:=K) (vi zY) A4))))))))
   (A8 (qs_if (W7 (K:=K) (C8 G_has_rule (hm hr) (qa_c (vi zX) (qa_c G5 A3)))) (A7 (e9 C2 (vi uJ) G5 G5)) F7)
   (A7 (E4 (vi uJ))))))),?_⟩
  obtain ⟨a,ts,R,g,rfl,hR,hl,L5,hnc,qV,q⟩:=h;walk_at "rd";refine ⟨a,ts,R, "figures",rfl,hR,hl,fun H1 S1=>?_⟩;generalize hasW R "figures"=fg at hnc;intro d nd;have vW:H d=none:=S1.free nd;have S2:Same H (A0 H1 d (.dK [])):=fun b o h=>D1 (S1 b o h) nd
  refine ⟨⟨_,.of (S2 _ _ hR.top)⟩,forL (xs:=ts.map V.ref) (fun i Y H2=>∃ (u v:Option V),Y=[some (.ref a),some (.bl fg),some (.ref d),u,v]/\Same H H2/\H2 d=some (.dK (C1 (keysP (D0 (R.take i))) fun t=>.str (g t))))
   ⟨none,none,rfl,S2,by rw [A5];rfl⟩ (by rintro i Y H2 _ ⟨_,_,_,S,_⟩;exact .of (S _ _ hR.top)) ?_ ?_⟩
  .rintro i x Y H2 hx ⟨u,v,rfl,S,hd⟩;obtain ⟨t,ht,rfl⟩:=G0 hx;obtain ⟨z,hz,D7⟩:=Paired.at hR.row ht;walk_at "rd";refine ⟨t,z,rfl,S _ _ D7,fun p H3 S3 hp=>⟨p,rfl,⟨_,hp⟩,forT (xs:=(M9 z).map V.str) (fun j Y H4=>∃ (v:Option V),Y=[some (.ref a),some (.bl fg),some (.ref d),some (.ref t),v]/\C6 K H4 p ((M9 z).map V.str)/\Same H H4/\H4 d=some (.dK (C1 (keysP (D0 (R.take i)++((M9 z).take j).map fun p=>(p,jobD z.1))) fun t=>.str (g t))))
    ⟨v,rfl,hp,S.trans S3,by rw [j4,List.map_nil,K9];exact S3 _ _ hd⟩ (by rintro j Y H4 _ ⟨_,_,h,_⟩;exact h) ?_ ?_⟩⟩
   .rintro j x Y H4 mB ⟨v,rfl,fD,S4,Y2⟩;obtain ⟨pc,mC,rfl⟩:=G0 mB;obtain ⟨e1,e2⟩:=ark hz mC;obtain ⟨n1,n2,n3,n4⟩:=hnc _ _ _ e1;rw [e2] at n2;have hw:=gN (N2 mC);have Y3:C6 K H4 t ((z.1::z.2).map V.str):=.of (S4 _ _ D7);have i5:(keysP (D0 (R.take i)++((M9 z).take j).map fun p=>(p,jobD z.1))).length<=10000:=by
     have h1:=yB (D0 (R.take i)++((M9 z).take j).map fun p=>(p,jobD z.1));have h2:=congrArg Y8 e2;rw [E9] at h2;lia
    walk_at "rd";refine ⟨_,.inr Y3,V.str z.1,T6 _ _,Sum.inr z.1,rfl,V.str (jobD z.1),yD hw,d,pc,jobD z.1,fg,_,g,rfl,Y2,n4,fun hk=>⟨n1.symm,n2 ((kK _ _).mp hk)⟩,n3,fun H5 S5=>⟨false,rfl,iteF ⟨_,.inr (Y3.same S5),V.str z.1,T6 _ _,Sum.inr z.1,rfl,V.str (jobD z.1),yD hw,_,cE (k:=Sum.inr pc) (S5 _ _ Y2) (by rw [k9];exact L3 'a'),(fD.same S5).dput (S5 _ _ Y2),(S4.trans S5).put vW,?_⟩⟩⟩;rw [A5,M8 mC,E2,<- R3];rw [show ([pc].map fun p=>(p,jobD z.1))=[(pc,jobD z.1)] from rfl,ajh];unfold dd
    by_cases L1:pc∈keysP (D0 (R.take i)++((M9 z).take j).map fun p=>(p,jobD z.1))
    .rw [if_pos L1,nZ _ L1];refine congrArg (fun x=>some (HO.dK x)) (W1 fun t _=>?_)
     by_cases e:t=pc
     .rw [if_pos e,e,n1]
     .rw [if_neg e]
    .rw [if_neg L1,eB _ L1];refine congrArg (fun x=>some (HO.dK x)) (W1 fun t _=>?_)
     by_cases e:t=pc
     .rw [if_pos e,e,n1]
     .rw [if_neg e]
   .rintro Y H4 ⟨v,rfl,fD,S4,Y2⟩;walk_at "rd";refine ⟨S4,?_⟩;rw [afA hz];rw [A6,K3] at Y2;exact Y2
  .rintro Y H2 ⟨u,v,rfl,S,hd⟩;rw [A6,hR.len,K3] at hd;walk_at "rd";refine ⟨a,ts,R, "blanks",rfl,hR.same S,hl,fun H3 S3=>⟨hasW R "blanks",rfl,?_⟩⟩;have Y0:=S3 _ _ hd;have hkn:(" " : Str)∉keysP (D0 R):=fun h=>qV ((kK _ _).mp h)
   have i5:=yB (D0 R);have hg:∀ t∈keysP (D0 R),V.str (g t)=jobG g t:=fun t ht=>by
    unfold jobG;rw [if_neg (fun e=>hkn (by rw [<- e];exact ht))]
   by_cases hb:hasW R "blanks"=true
   .rw [hb];refine iteT ⟨_,cE (k:=Sum.inr (" " : Str)) Y0 (by rw [k9];exact L3 'a'),q d _ vW ((S.trans S3).put vW) ?_⟩;rw [A5,eB _ hkn];unfold X5;rw [if_pos hb];refine congrArg (fun x=>some (HO.dK x)) (W1 fun t ht=>?_);unfold jobG
    by_cases e:t=(" " : Str)
    .simp only [if_pos e]
    .simp only [if_neg e]
   .rw [fX] at hb;rw [hb];refine iteF (q d _ vW (S.trans S3) ?_);unfold X5;rw [hb,if_neg M4,K9,Y0];exact congrArg (fun x=>some (HO.dK x)) (W1 hg)
theorem sc_misused:FnScope ["rule", "jobs", "first"] ["rule", "jobs"] (C3 cI):=G1
abbrev ahg:List Str:=["rule", "jobs", "first"]
theorem pA:VS ahg cI "rule" 0:=vq
theorem va8:VS ahg cI "first" 2:=vq
theorem va9:LS cI "first":=lq
theorem ajA(F:FunD K "misused" "misused" cI f fd)(T:Txt P w K mg C):FnOk P w K mg base E6 1 f fd ["rule", "jobs"] (ane K):=by
 refine F.ok sc_misused ?_ ?_
 .rintro _ _ _ _ ⟨t,d,z,ks,g,rfl,_⟩;rfl
 .intro cdv A outer s H vs Q E hr h;have C2:=hu_of hr;have hu:=hr.units;refine ⟨_,QSs.out (A8 (qs_if (D6 (q_eq (K:=K) hu) (qe_ix (K:=K) (vi pA) A4) G5) (A7 (E4 (k7  (T9:CompOk ["rule", "jobs", "first"] (C3 cI).names _ ["piece", "jobs"] 1 [1]) (gJ (K:=K) (L9 (K:=K) (vi pA) (I0 A4) (I0 A4))) (fun _ _ _ _ _=>D3 (n:=0) (show List.Nodup (["piece", "jobs"]:List Str) by decide +kernel) rfl (Or.inl rfl)) (fun _ _ _ _ _=>(dZ (D6 (q_ne (K:=K) hu) (tD C2 (qv 1) (qv 0)) G5))) (fun _ _ _ _ _=>(qv 0))))) F7)
   (A8 (qs_if (D6 (q_eq (K:=K) hu) (qe_ix (K:=K) (vi pA) A4) G5) (A8 (gK (n:=2) sc_misused.nd rfl va9 (T9:CompOk ["rule", "jobs", "first"] (C3 cI).names _ ["piece", "jobs"] 1 [1]) (gJ (K:=K) (L9 (K:=K) (vi pA) (I0 A4) (I0 A4))) (fun _ _ _ _ _=>D3 (n:=0) (show List.Nodup (["piece", "jobs"]:List Str) by decide +kernel) rfl (Or.inl rfl)) (fun _ _ _ _ _=>(dZ (D6 (q_ne (K:=K) hu) (tD C2 (qv 1) (qv 0)) G5))) (fun _ _ _ _ _=>(qv 0)))
   (A7 (E4 (qe_op 'i' (vi va8) (k7  (T9:CompOk ["rule", "jobs", "first"] (C3 cI).names _ ["piece", "jobs"] 1 [1]) (gJ (K:=K) (L9 (K:=K) (vi pA) (I0 A4) O4)) (fun _ _ _ _ _=>D3 (n:=0) (show List.Nodup (["piece", "jobs"]:List Str) by decide +kernel) rfl (Or.inl rfl)) (fun _ _ _ _ _=>(dZ (D6 (sV (K:=K) hu) (tD C2 (qv 1) (qv 0)) (K7 (qa_c G5 (qa_c G5 A3)))))) (fun _ _ _ _ _=>(qv 0))))))) F7)
   (A7 (E4 (M7 A3))))),?_⟩
  obtain ⟨t,d,z,ks,g,rfl,ht,hd,us,hl,q⟩:=h;have hT:C6 K H t ((z.1::z.2).map V.str):=.of ht;walk_at "rd";refine ⟨_,.inr hT,V.str z.1,T6 _ _,?_⟩;walk_at "rd"
  by_cases h1:z.1='e'
  .rw [decide_eq_true h1];have A9:1<=((z.1::z.2).map V.str).length:=by rw [A6,K4];lia
   refine iteT (rSlR.t hT (p7 (k:=1) 'h' A9) fun s ns=>?_);have ecut:cutV ((z.1::z.2).map V.str) (some 1) (some 2)=(z.2.take 1).map V.str:=by
    rw [show cutV ((z.1::z.2).map V.str) (some 1) (some 2)=_ from yI ((z.1::z.2).map V.str) (i:=1) (j:=2) 'h',K5,List.drop_succ_cons,List.drop_zero,<- u9]
   rw [ecut];have S1:Same H (A0 H s (.tup ((z.2.take 1).map V.str))):=Same.new ns;have hs:A0 H s (.tup ((z.2.take 1).map V.str)) s=some (.tup ((z.2.take 1).map V.str)):=A5;generalize A0 H s (.tup ((z.2.take 1).map V.str))=H1 at S1 hs;refine ⟨s,rfl,⟨_,.of hs⟩,compT (xs:=(z.2.take 1).map V.str) [some (.ref d)] rfl (fun D i ys H2=>ys=[]/\Same H1 H2) (fun D nD=>⟨rfl,Same.new nD⟩) (by rintro D i ys H2 nD _ ⟨_,S⟩;exact .of (S _ _ hs)) ?_ ?_⟩
   .rintro D i y ys H2 nD hi hy ⟨rfl,S⟩ hD F8;obtain ⟨p,hp,rfl⟩:=G0 hy;obtain ⟨m1,m2⟩:=us.gr h1 p (N2 hp);have O5:=S _ _ (S1 _ _ hd);walk_at "rd";refine ⟨.inl ⟨_,.inl O5⟩,_,c9 (k:=Sum.inr p) O5,?_⟩;rw [O3,if_pos m1,Option.getD_some,m2];refine ⟨_,rfl,?_⟩;rw [show ∀ v:Str,(!decide (v=v))=false by intro v;simp];exact iteF ⟨hD,hi,F9 _,⟨_,rfl⟩,rfl,S⟩
   .rintro D ys H2 nD ⟨rfl,S⟩ hD F8;exact q D H2 (S1.free nD) (S1.trans S) hD
  rw [decide_eq_false h1];refine iteF ⟨_,.inr hT,V.str z.1,T6 _ _,?_⟩;walk_at "rd"
  by_cases h2:z.1=("as" : Str)
  .rw [decide_eq_true h2];have A9:1<=((z.1::z.2).map V.str).length:=by rw [A6,K4];lia
   refine iteT (rSlR.t hT (p7 (k:=2) 'h' A9) fun s ns=>?_);have ecut:cutV ((z.1::z.2).map V.str) (some 2) (some 3)=((z.2.drop 1).take 1).map V.str:=by
    rw [show cutV ((z.1::z.2).map V.str) (some 2) (some 3)=_ from yI ((z.1::z.2).map V.str) (i:=2) (j:=3) 'h',K5,List.drop_succ_cons,<- aK,<- u9]
   rw [ecut];have S1:Same H (A0 H s (.tup (((z.2.drop 1).take 1).map V.str))):=Same.new ns;have hs:A0 H s (.tup (((z.2.drop 1).take 1).map V.str)) s=some (.tup (((z.2.drop 1).take 1).map V.str)):=A5;generalize A0 H s (.tup (((z.2.drop 1).take 1).map V.str))=H1 at S1 hs;refine ⟨s,rfl,⟨_,.of hs⟩,compT (xs:=((z.2.drop 1).take 1).map V.str) [some (.ref d)] rfl (fun D i ys H2=>ys=[]/\Same H1 H2) (fun D nD=>⟨rfl,Same.new nD⟩) (by rintro D i ys H2 nD _ ⟨_,S⟩;exact .of (S _ _ hs)) ?_ ?_⟩
   .rintro D i y ys H2 nD hi hy ⟨rfl,S⟩ hD F8;obtain ⟨p,hp,rfl⟩:=G0 hy;obtain ⟨m1,m2⟩:=us.a1 h2 p (N2 hp);have O5:=S _ _ (S1 _ _ hd);walk_at "rd";refine ⟨.inl ⟨_,.inl O5⟩,_,c9 (k:=Sum.inr p) O5,?_⟩;rw [O3,if_pos m1,Option.getD_some,m2];refine ⟨_,rfl,?_⟩;rw [show ∀ v:Str,(!decide (v=v))=false by intro v;simp];exact iteF ⟨hD,hi,F9 _,⟨_,rfl⟩,rfl,S⟩
   rintro D ys H2 nD ⟨rfl,S⟩ hD F8;have S2:=S1.trans S;have hT2:C6 K H2 t ((z.1::z.2).map V.str):=.of (S2 _ _ ht);refine rSlR.t hT2 (p7 (k:=3) 'h' A9) fun s2 fH=>?_
   have ecut2:cutV ((z.1::z.2).map V.str) (some 3) none=(z.2.drop 2).map V.str:=by
    rw [show cutV ((z.1::z.2).map V.str) (some 3) none=_ from p5 ((z.1::z.2).map V.str) 3,K5,List.drop_succ_cons,<- aK]
   rw [ecut2];have S3:Same H2 (A0 H2 s2 (.tup ((z.2.drop 2).map V.str))):=Same.new fH;have x6:A0 H2 s2 (.tup ((z.2.drop 2).map V.str)) s2=some (.tup ((z.2.drop 2).map V.str)):=A5;generalize A0 H2 s2 (.tup ((z.2.drop 2).map V.str))=H3 at S3 x6;refine ⟨s2,rfl,⟨_,.of x6⟩,compT (xs:=(z.2.drop 2).map V.str) [some (.ref d)] rfl (fun D i ys H4=>ys=[]/\Same H3 H4) (fun D nD=>⟨rfl,Same.new nD⟩) (by rintro D i ys H4 nD _ ⟨_,S⟩;exact .of (S _ _ x6)) ?_ ?_⟩
   .rintro D2 i y ys H4 nD2 hi hy ⟨rfl,S4⟩ hD2 hyl2;obtain ⟨p,hp,rfl⟩:=G0 hy;obtain ⟨m1,m2⟩:=us.a2 h2 p (N2 hp);have Y2:=S4 _ _ (S3 _ _ (S2 _ _ hd));walk_at "rd";refine ⟨.inl ⟨_,.inl Y2⟩,_,c9 (k:=Sum.inr p) Y2,?_⟩;rw [O3,if_pos m1,Option.getD_some];refine ⟨by decide,fun v nv=>?_⟩;have fin:dW (g p) [V.str (Str.ofString "letter"),V.str (Str.ofString "mark")]=true/\flatV (g p)=true:=by
     rcases m2 with m2 | m2 <;> rw [m2] <;> exact ⟨by decide +kernel,rfl⟩
    refine rInR.l (.inr (.of A5)) fin.2 rfl ?_;rw [fin.1,Bool.true_xor];exact ⟨_,rfl,iteF ⟨D1 hD2 nv,hi,F9 _,⟨_,rfl⟩,rfl,S4.trans (Same.new nv)⟩⟩
   rintro D2 ys H4 nD2 ⟨rfl,S4⟩ hD2 hyl2;have hD4:=S4 _ _ (S3 _ _ hD);refine rAddR.l hD4 hD2 'h' fun l nl=>?_
   exact q l _ ((S2.trans (S3.trans S4)).free nl) ((S2.trans (S3.trans S4)).trans (Same.new nl)) A5
  rw [decide_eq_false h2];exact iteF fun p np=>q p _ np (Same.new np) A5
theorem sc_check_letters:FnScope ["rules", "jobs", "rule", "wrong"] ["rules", "jobs"] (C3 cJ):=G1
abbrev uK:List Str:=["rules", "jobs", "rule", "wrong"]
theorem vba:VS uK cJ "rules" 0:=vq
theorem vbb:VS uK cJ "jobs" 1:=vq
theorem vbc:VS uK cJ "rule" 2:=vq
theorem vbd:VS uK cJ "wrong" 3:=vq
theorem vbe:LS cJ "rule":=lq
theorem vbf:LS cJ "wrong":=lq
theorem aej(F:FunD K "check_letters" "check_letters" cJ f fd)(T:Txt P w K mg C)(G_misused:FO P w K mg base 1 "misused" ["rule", "jobs"] [] (ane K)):FnOk P w K mg base E6 2 f fd ["rules", "jobs"] (aiD K):=by
 refine F.ok sc_check_letters ?_ ?_
 .rintro _ _ _ _ ⟨a,d,ts,R,ks,g,rfl,_⟩;rfl
 .intro cdv A outer s H vs Q E hr h;have C2:=hu_of hr;have hu:=hr.units;refine ⟨_,QSs.out (A7 (L6 PassesOwn.never (P5 (K:=K) (vi vba)) (D3 (n:=2) sc_check_letters.nd rfl vbe 'g') (A8 (C7 (n:=3) sc_check_letters.nd rfl vbf (C8 G_misused (hm hr) (qa_c (vi vbc) (qa_c (vi vbb) A3))))
   (A7 (qs_if (W7 (K:=K) (vi vbd)) (A7 sU) F7))))),?_⟩
  obtain ⟨a,d,ts,R,ks,g,rfl,hR,hd,hw,q⟩:=h;walk_at "rd";refine ⟨⟨_,.of hR.top⟩,forL (xs:=ts.map V.ref) (fun i Y H2=>∃ (u v:Option V),Y=[some (.ref a),some (.ref d),u,v]/\Same H H2) ⟨none,none,rfl,aQ H⟩ (by rintro i Y H2 _ ⟨_,_,_,S⟩;exact .of (S _ _ hR.top)) ?_ ?_⟩
  .rintro i x Y H2 hx ⟨u,v,rfl,S⟩;obtain ⟨t,ht,rfl⟩:=G0 hx;obtain ⟨z,hz,D7⟩:=Paired.at hR.row ht;obtain ⟨n1,n2⟩:=hw z (N2 hz);walk_at "rd";refine ⟨t,d,z,ks,g,rfl,S _ _ D7,S _ _ hd,n1,n2,fun p H3 np S3 hp=>⟨_,xP hp,iteF (S.trans S3)⟩⟩
  .rintro Y H2 ⟨u,v,rfl,S⟩;exact q H2 S
theorem ajB:FnScope ["rules", "word"] ["rules", "word"] (C3 oQ):=G1
abbrev alq:List Str:=["rules", "word"]
theorem vbg:VS alq oQ "rules" 0:=vq
theorem ajC(F:FunD K "line_of" "line_of" oQ f fd)(T:Txt P w K mg C)(G_lined_up:FO P w K mg base 3 "lined_up" ["rows"] [] akB):FnOk P w K mg base E6 4 f fd ["rules", "word"] (ana K):=by
 refine F.ok ajB ?_ ?_
 .rintro _ _ _ _ ⟨a,ts,R,w,rank,rfl,_⟩;rfl
 .intro cdv A outer s H vs Q E hr h;have C2:=hu_of hr;have hu:=hr.units;refine ⟨_,QSs.out (A7 (E4 (C8 G_lined_up (hm hr) (qa_c (k7  (T9:CompOk ["rules", "word"] (C3 oQ).names _ ["rule", "word"] 1 [1]) (P5 (K:=K) (vi vbg)) (fun _ _ _ _ _=>D3 (n:=0) (show List.Nodup (["rule", "word"]:List Str) by decide +kernel) rfl (Or.inl rfl)) (fun _ _ _ _ _=>(dZ (D6 (q_eq (K:=K) hu) (qe_ix (K:=K) (qv 0) A4) (qv 1)))) (fun _ _ _ _ _=>(qe_cT (k8 (K:=K) (calm:=true)) T.b_list j9 (qa_c (L9 (K:=K) (qv 0) (I0 A4) O4) A3)))) A3)))),?_⟩;obtain ⟨a,ts,R,w,rank,rfl,hR,hl,m9,y9,q⟩:=h;walk_at "rd";refine ⟨⟨_,.of hR.top⟩,compL (xs:=ts.map V.ref) [some (.str w)] rfl (fun D i ys H4=>∃ qs:List Addr,ys=qs.map V.ref/\RowsAt H H4 D qs (rowsW (R.take i) w)) (fun D nD=>⟨[],rfl,⟨⟨A5,.nil⟩,by simp,fun r hr=>by rw [F6.mp hr];exact nD,Same.new nD⟩⟩)
   (by rintro D i ys H4 nD _ ⟨qs,_,RA⟩;exact .of (RA.same _ _ hR.top)) ?_ ?_⟩
  .rintro D i x ys H4 nD hi hx ⟨qs,rfl,RA⟩ hD hy;obtain ⟨t,ht,rfl⟩:=G0 hx;obtain ⟨z,hz,D7⟩:=Paired.at hR.row ht;have t8:i<R.length:=(G2.mp hz).1;have Y3:C6 K H4 t ((z.1::z.2).map V.str):=.of (RA.same _ _ D7);have A9:1<=((z.1::z.2).map V.str).length:=by rw [A6,K4];lia
   walk_at "rd";refine ⟨_,.inr Y3,V.str z.1,T6 _ _,?_⟩;walk_at "rd";refine iteD (fun e=>rSlR.t Y3 (p7 (k:=1) 'h' A9) fun p np=>?_) fun e=>⟨hD,nO hi hy ⟨qs,rfl,?_⟩⟩
   .rw [K5,xQ];walk_at "rd";refine rListR.l (.inr (.of A5)) fun p2 Z4=>⟨D1 (D1 hD np) Z4,?_,CW.put hi hy ⟨qs++[p2],by rw [E2];rfl,?_⟩⟩
    .rw [A6] at hy;rw [A6];exact L3 'a'
    .rw [yC hz,if_pos e];have n2:H4 p2=none:=(Same.new np).free Z4;exact RA.grow (fun b o h=>D1 (D1 h np) Z4) n2 A5
   .rw [yC hz,if_neg e];exact RA
  rintro D ys H4 nD ⟨qs,rfl,RA⟩ hD hy;rw [A6,hR.len,K3] at RA;refine ⟨D,qs,rowsW R w,rank,rfl,RA.rows,m9,y9,fun l line H5 nl S5 z9 run cov=>?_⟩;exact q l line H5 (RA.same.free nl) (RA.same.trans S5) z9 run cov
theorem sc_forms_of:FnScope ["rules", "forms", "rule"] ["rules"] (C3 eJ):=G1
abbrev zZ:List Str:=["rules", "forms", "rule"]
theorem vbh:VS zZ eJ "rules" 0:=vq
theorem vbi:VS zZ eJ "forms" 1:=vq
theorem vbj:VS zZ eJ "rule" 2:=vq
theorem vbk:LS eJ "forms":=lq
theorem vbl:LS eJ "rule":=lq
theorem ah1(F:FunD K "forms_of" "forms_of" eJ f fd)(T:Txt P w K mg C):FnOk P w K mg base E6 1 f fd ["rules"] (aiC K):=by
 refine F.ok sc_forms_of ?_ ?_
 .rintro _ _ _ _ ⟨a,ts,R,rfl,_⟩;rfl
 .intro cdv A outer s H vs Q E hr h;have C2:=hu_of hr;have hu:=hr.units;refine ⟨_,QSs.out (A8 (C7 (n:=1) sc_forms_of.nd rfl vbk gI)
   (A8 (L6 PassesOwn.never (P5 (K:=K) (vi vbh)) (D3 (n:=2) sc_forms_of.nd rfl vbl 'g') (A7 (qs_if (D6 (q_eq (K:=K) hu) (qe_ix (K:=K) (vi vbj) A4) G5) (A7 (O9 (qe_mB (K:=K) Q5 PySem.F.slot_list_extend PySem.F.type_list_extend (akH (K:=K)) (amp (vi vbi) (qe_ix (K:=K) (vi vbj) A4) (M7 A3)) (qa_c (L9 (K:=K) (vi vbj) (I0 A4) O4) A3)))) F7)))
   (A7 (E4 (vi vbi))))),?_⟩
  obtain ⟨a,ts,R,rfl,hR,hg,hl,hf,q⟩:=h;walk_at "rd";intro d nd;refine ⟨⟨_,.of (D1 hR.top nd)⟩,forL (xs:=ts.map V.ref) (fun i Y H2=>∃ (u:Option V) (ad:Str->Addr),Y=[some (.ref a),some (.ref d),u]/\Same H H2/\H2 d=some (.dK (C1 (E8 (R.take i)) fun y=>.ref (ad y)))/\DL (A0 H d (.dK [])) H2 (E8 (R.take i)) ad (E3 (R.take i))) ⟨none,fun _=>d,rfl,Same.new nd,A5,⟨by simp [E8,M0,G3],by simp [E8,M0,G3],by simp [E8,M0,G3]⟩⟩ (by rintro i Y H2 _ ⟨_,_,_,S,_⟩;exact .of (S _ _ hR.top)) ?_ ?_⟩
  .rintro i x Y H2 hx ⟨u,ad,rfl,S,hd,dl⟩;obtain ⟨t,ht,rfl⟩:=G0 hx;obtain ⟨z,hz,D7⟩:=Paired.at hR.row ht;have hT:C6 K H2 t ((z.1::z.2).map V.str):=.of (S _ _ D7);walk_at "rd";refine ⟨_,.inr hT,V.str z.1,T6 _ _,?_⟩;walk_at "rd"
   by_cases n6:z.1='e'
   .rw [decide_eq_true n6];refine iteT ?_;obtain ⟨w,ps⟩:=z;obtain rfl:w='e':=n6;obtain ⟨y,fs,rfl⟩:∃ y fs,ps=y::fs:=by
     cases ps with
     | nil=>exact absurd rfl (hg _ (N2 hz) rfl)
     | cons y fs=>exact ⟨y,fs,rfl⟩
    have etk:R.take (i+1)=R.take i++[('e',y::fs)]:=M8 hz;have m9:(E3 (R.take i) y).length+fs.length<=10000:=by
     have:=hf (i+1) y
     rw [etk,kQ,if_pos rfl,C4] at this;exact this
    have i5:(C1 (E8 (R.take i)) fun y=>V.ref (ad y)).length<=1000:=by
     rw [k9];unfold E8;have h1:=dY ((M0 (R.take i)).map (·.1)) [];have h2:(M0 (R.take i)).length<=(R.take i).length:=List.length_filterMap_le _ _;rw [A6,Y6] at h1;rw [E9] at h2;lia
    have K1:G4 ((('e',y::fs).1::('e',y::fs).2).map V.str) 1=some (V.str y):=N9 (j:=1) rfl;have n8:cutV ((('e',y::fs).1::('e',y::fs).2).map V.str) (some 2) none=fs.map V.str:=p5 _ 2;refine ⟨.inl ⟨_,.inl hd⟩,_,.inr hT,V.str y,K1,fun p np=>⟨_,D1 hd np,jQ i5 'h',Sum.inr y,rfl,fun v hv=>?_,fun hn=>?_⟩⟩
    .rw [O3] at hv
     by_cases hy:y∈E8 (R.take i)
     .rw [if_pos hy] at hv;cases hv;have fI:=dl.row y hy;have ndy:ad y≠d:=fun e=>by have:=dl.new y hy;rw [e,A5] at this;cases this
      have nHy:H (ad y)=none:=by have:=dl.new y hy;rw [B1 ndy] at this;exact this
      have T1:Same H2 (A0 H2 p (.lst [])):=Same.new np;generalize A0 H2 p (.lst [])=H3 at T1;refine ⟨Q7 (T1 _ _ fI),rSlR.t (hT.same T1) (p7 (k:=2) 'h' 'c') fun s ns=>?_⟩;rw [n8];have T2:Same H3 (A0 H3 s (.tup (fs.map V.str))):=Same.new ns;have hs:A0 H3 s (.tup (fs.map V.str)) s=some (.tup (fs.map V.str)):=A5;generalize A0 H3 s (.tup (fs.map V.str))=H4 at T2 hs;have T:=T1.trans T2;refine ⟨ad y,s,_,_,rfl,rfl,T _ _ fI,.of hs,by rw [A6,A6];exact O8 'a',(S.trans T).put nHy,ad,?_,?_⟩
      .rw [B1 ndy.symm,T _ _ hd,etk,tI];unfold dd;rw [if_pos hy]
      .rw [etk,tI];unfold dd;rw [if_pos hy,<- E2];refine ((dl.same T).app hy (E3 (R.take i) y++fs)).congr fun x _=>?_
       rw [kQ]
       by_cases bK:x=y
       .subst bK;simp
       .simp [bK]
     .rw [if_neg hy] at hv;cases hv
    .have hy:y∉E8 (R.take i):=fun hy=>by rw [O3,if_pos hy] at hn;cases hn
     have ndp:d≠p:=fun e=>by rw [<- e,hd] at np;cases np
     have n0:A0 H d (.dK []) p=none:=by rw [B1 ndp.symm];exact S.free np
     have dl2:=dl.more hy np n0;have bH:=dl2.put (b:=d) (o:=.dK (C1 (E8 (R.take i)++[y]) fun t=>if t=y then V.ref p else V.ref (ad t))) (u:=.dK []) A5;rw [eB (V.ref p) hy];have R1:A0 (A0 H2 p (.lst [])) d (.dK (C1 (E8 (R.take i)++[y]) fun t=>if t=y then V.ref p else V.ref (ad t))) p=some (.lst []):=by rw [B1 ndp.symm,A5]
     have Y0:A0 (A0 H2 p (.lst [])) d (.dK (C1 (E8 (R.take i)++[y]) fun t=>if t=y then V.ref p else V.ref (ad t))) d=some (.dK (C1 (E8 (R.take i)++[y]) fun t=>if t=y then V.ref p else V.ref (ad t))):=A5;have S3:Same H (A0 (A0 H2 p (.lst [])) d (.dK (C1 (E8 (R.take i)++[y]) fun t=>if t=y then V.ref p else V.ref (ad t)))):=(S.trans (Same.new np)).put nd;generalize A0 (A0 H2 p (.lst [])) d (.dK (C1 (E8 (R.take i)++[y]) fun t=>if t=y then V.ref p else V.ref (ad t)))=H3 at bH R1 Y0 S3;have hT3:C6 K H3 t ((('e',y::fs).1::('e',y::fs).2).map V.str):=.of (S3 _ _ D7);refine ⟨Q7 R1,rSlR.t hT3 (p7 (k:=2) 'h' 'c') fun s ns=>?_⟩;rw [n8];have T2:Same H3 (A0 H3 s (.tup (fs.map V.str))):=Same.new ns;have hs:A0 H3 s (.tup (fs.map V.str)) s=some (.tup (fs.map V.str)):=A5;generalize A0 H3 s (.tup (fs.map V.str))=H4 at T2 hs;refine ⟨p,s,_,_,rfl,rfl,T2 _ _ R1,.of hs,by rw [A6];exact O8 (by simp;lia),(S3.trans T2).put (S.free np),fun t=>if t=y then p else ad t,?_,?_⟩
     .rw [B1 ndp,T2 _ _ Y0,etk,tI];unfold dd;rw [if_neg hy];refine congrArg (fun z=>some (HO.dK z)) (W1 fun x _=>?_);show (if x=y then V.ref p else V.ref (ad x))=V.ref (if x=y then p else ad x)
      by_cases bK:x=y
      .rw [if_pos bK,if_pos bK]
      .rw [if_neg bK,if_neg bK]
     .rw [etk,tI];unfold dd;rw [if_neg hy,List.nil_append]
      have:=((bH.same T2).app (z:=y) 'c' fs).congr (G:=E3 (R.take i++[('e',y::fs)])) fun x _=>by
       rw [kQ]
       by_cases bK:x=y
       .subst bK;have e0:E3 (R.take i) x=[]:=by
         unfold E3;rw [mK.mpr fun e he=>?_]
         .rfl
         .intro h;have h:e.1=x:=by simpa using h
          refine hy ?_;unfold E8;rw [l6];exact .inr (D8.mpr ⟨e,he,h⟩)
        simp [e0]
       .simp [bK]
      rw [if_pos rfl] at this;exact this
   .rw [decide_eq_false n6];refine iteF ⟨S,ad,?_,?_⟩
    .rw [show E8 (R.take (i+1))=E8 (R.take i) by unfold E8;rw [tG hz,kP n6,K9]];exact hd
    .rw [show E8 (R.take (i+1))=E8 (R.take i) by unfold E8;rw [tG hz,kP n6,K9]];refine dl.congr fun x _=>?_
     unfold E3;rw [tG hz,kP n6,K9]
  .rintro Y H2 ⟨u,ad,rfl,S,hd,dl⟩;walk_at "rd";rw [A6,hR.len,K3] at hd dl;exact q d ad H2 nd S hd (dl.old (Same.new nd))
theorem sc_steps_of:FnScope ["rules", "letters", "marks", "steps", "place", "letter", "mark", "forms", "case", "form", "rule"] ["rules", "letters", "marks"] (C3 R7):=G1
abbrev x0:List Str:=["rules", "letters", "marks", "steps", "place", "letter", "mark", "forms", "case", "form", "rule"]
theorem vbm:VS x0 R7 "rules" 0:=vq
theorem vbn:VS x0 R7 "letters" 1:=vq
theorem vbo:VS x0 R7 "marks" 2:=vq
theorem lD:VS x0 R7 "steps" 3:=vq
theorem vbq:VS x0 R7 "place" 4:=vq
theorem vbr:VS x0 R7 "letter" 5:=vq
theorem vbs:VS x0 R7 "mark" 6:=vq
theorem vbt:VS x0 R7 "forms" 7:=vq
theorem vbu:VS x0 R7 "case" 8:=vq
theorem vbv:VS x0 R7 "form" 9:=vq
theorem vbw:VS x0 R7 "rule" 10:=vq
theorem vbx:LS R7 "steps":=lq
theorem vby:LS R7 "place":=lq
theorem vbz:LS R7 "letter":=lq
theorem vbA:LS R7 "mark":=lq
theorem vbB:LS R7 "forms":=lq
theorem vbC:LS R7 "case":=lq
theorem vbD:LS R7 "form":=lq
theorem vbE:LS R7 "rule":=lq
theorem ah2(F:FunD K "steps_of" "steps_of" R7 f fd)(T:Txt P w K mg C)(G_forms_of:FO P w K mg base 1 "forms_of" ["rules"] [] (aiC K)):FnOk P w K mg base E6 2 f fd ["rules", "letters", "marks"] (aiE K):=by
 refine F.ok sc_steps_of ?_ ?_
 .rintro _ _ _ _ ⟨a,b,c,ts,R,L,M,F,rfl,_⟩;rfl
 .intro cdv A outer s H vs Q E hr h;have C2:=hu_of hr;have hu:=hr.units;refine ⟨_,QSs.out (A8 (C7 (n:=3) sc_steps_of.nd rfl vbx gI)
   (A8 (L6 PassesOwn.never (oB T.b_enumerate (qa_c (vi vbn) A3)) (k5 (K:=K) (n:=2) (O2 ((D3 (n:=4) sc_steps_of.nd rfl vby 'g')) (O2 ((D3 (n:=5) sc_steps_of.nd rfl vbz 'g')) k4))) (A7 (e9 C2 (vi lD) (vi vbr) (K7 (qa_c (K7 (qa_c (kG T.g_LETTER) (qa_c (vi vbq) (qa_c A4 A3)))) A3)))))
   (A8 (L6 PassesOwn.never (oB T.b_enumerate (qa_c (vi vbo) A3)) (k5 (K:=K) (n:=2) (O2 ((D3 (n:=4) sc_steps_of.nd rfl vby 'g')) (O2 ((D3 (n:=6) sc_steps_of.nd rfl vbA 'g')) k4))) (A7 (e9 C2 (vi lD) (vi vbs) (K7 (qa_c (K7 (qa_c (kG T.g_MARK) (qa_c (vi vbq) (qa_c A4 A3)))) A3)))))
   (A8 (C7 (n:=7) sc_steps_of.nd rfl vbB (C8 G_forms_of (hm hr) (qa_c (vi vbm) A3)))
   (A8 (xT PassesOwn.never (vi vbt) (D3 (n:=5) sc_steps_of.nd rfl vbz 'g') (A7 (L6 PassesOwn.never (amB T.b_enumerate (qa_c (e8 C2 (vi vbt) (vi vbr)) A3)) (k5 (K:=K) (n:=2) (O2 ((D3 (n:=8) sc_steps_of.nd rfl vbC 'g')) (O2 ((D3 (n:=9) sc_steps_of.nd rfl vbD 'g')) k4))) (A7 (e9 C2 (vi lD) (vi vbv) (K7 (qa_c (K7 (qa_c (kG T.g_LETTER) (qa_c (qe_ix (K:=K) (qe_ix (K:=K) (e8 C2 (vi lD) (vi vbr)) A4) A4) (qa_c (vi vbu) A3)))) A3)))))))
   (A8 (L6 PassesOwn.never (P5 (K:=K) (vi vbm)) (D3 (n:=10) sc_steps_of.nd rfl vbE 'g') (A7 (qs_if (D6 (q_eq (K:=K) hu) (qe_ix (K:=K) (vi vbw) A4) G5) (A7 (e9 C2 (vi lD) (qe_ix (K:=K) (vi vbw) A4) (qe_cT (nX (K:=K)) T.b_tuple nM (qa_c (k7  (T9:CompOk ["rules", "letters", "marks", "steps", "place", "letter", "mark", "forms", "case", "form", "rule"] (C3 R7).names _ ["part", "steps"] 1 [3]) (gJ (K:=K) (L9 (K:=K) (vi vbw) (I0 A4) O4)) (fun _ _ _ _ _=>D3 (n:=0) (show List.Nodup (["part", "steps"]:List Str) by decide +kernel) rfl (Or.inl rfl)) (fun _ _ _ _ _=>k6) (fun _ _ _ _ _=>(qe_ix (K:=K) (e8 C2 (qv 1) (qv 0)) A4))) A3)))) F7)))
   (A7 (E4 (vi lD))))))))),?_⟩
  obtain ⟨a,b,c,ts,R,L,M,F,rfl,hR,md,hb,hc,N0,hRl,m9,mD,q⟩:=h;have A9:L.length+M.length+((E8 R).flatMap (E3 R)).length+(asKs R).length<=50000:=by
   unfold allKs at mD;simp only [C4] at mD;exact mD
  walk_at "rd";intro d nd;have ndR:∀ {x:Addr} {o:HO},H x=some o->x≠d:=fun h e=>by rw [e,nd] at h;cases h
  refine ⟨⟨_,D1 hb nd⟩,forE (xs:=L.map V.str) (fun i Y H2=>∃ (u v w x y z r:Option V),Y=[some (.ref a),some (.ref b),some (.ref c),some (.ref d),u,v,w,x,y,z,r]/\StI H H2 d (L.take i) F)
   ⟨none,none,none,none,none,none,none,rfl,Same.new nd,fun _=>d,A5,by simp [G3]⟩ (by rintro i Y H2 ⟨_,_,_,_,_,_,_,_,S⟩;exact S.same _ _ hb) ?_ ?_⟩
  .rintro i x t Y H2 hx ⟨u,v,w,x',y,z,r,rfl,S⟩ nt;obtain ⟨l,hl,rfl⟩:=G0 hx;have hi:i<L.length:=(G2.mp hl).1;walk_at "rd";refine ⟨_,.of A5,rfl,_,_,rfl,_,_,rfl,rfl,by decide,fun p np=>⟨by decide,fun p1 N1=>?_⟩⟩;rw [M8 hl];exact StI.put nd (((S.more (Same.new nt)).more (Same.new np)).more (Same.new N1)) (by rw [E9];lia) (by
    rw [md.lt i l hl];exact StepAt.one A5 (D1 A5 N1))
  rintro Y H2 ⟨u,v,w,x',y,z,r,rfl,S⟩;rw [A6,K3] at S;walk_at "rd";refine ⟨⟨_,S.same _ _ hc⟩,forE (xs:=M.map V.str) (fun i Y H2=>∃ (u v w x y z r:Option V),Y=[some (.ref a),some (.ref b),some (.ref c),some (.ref d),u,v,w,x,y,z,r]/\StI H H2 d (L++M.take i) F)
   ⟨u,v,w,x',y,z,r,rfl,by rw [j4,K9];exact S⟩ (by rintro i Y H2 ⟨_,_,_,_,_,_,_,_,S⟩;exact S.same _ _ hc) ?_ ?_⟩
  .clear S;rintro i x t Y H2 hx ⟨u,v,w,x',y,z,r,rfl,S⟩ nt;obtain ⟨l,hl,rfl⟩:=G0 hx;have hi:i<M.length:=(G2.mp hl).1;walk_at "rd";refine ⟨_,.of A5,rfl,_,_,rfl,_,_,rfl,rfl,by decide,fun p np=>⟨by decide,fun p1 N1=>?_⟩⟩;rw [M8 hl,<- R3];exact StI.put nd (((S.more (Same.new nt)).more (Same.new np)).more (Same.new N1)) (by rw [C4,E9];lia) (by
    rw [md.mr i l hl];exact StepAt.one A5 (D1 A5 N1))
  clear S H2 u v w x' y z r;rintro Y H2 ⟨u,v,w,x',y,z,r,rfl,S⟩;rw [A6,K3] at S;walk_at "rd";refine ⟨a,ts,R,rfl,hR.same S.same,fun z hz e=>md.ne z hz (.inr e),hRl,m9,fun fd af H3 nfd S3 vX dl=>?_⟩;have nf0:H fd=none:=S.same.free nfd;have nf1:fd≠d:=fun e=>by
   obtain ⟨ad,h1,_⟩:=S.made;rw [<- e,nfd] at h1;cases h1
  have S':=S.more S3;have D7:=dl.row;clear S S3 dl nfd H2;refine ⟨fd,rfl,_,vX,fun o=>forD (fun i Y H4=>∃ (u v w y z r:Option V),Y=[some (.ref a),some (.ref b),some (.ref c),some (.ref d),u,v,w,some (.ref fd),y,z,r]/\FoI H H4 d fd o (E8 R) af (E3 R) (L++M++((E8 R).take i).flatMap (E3 R)) F)
   ⟨u,v,w,y,z,r,rfl,⟨A5,fun y hy=>by rw [B1 (fun e=>by have:=D7 y hy;rw [e,vX] at this;cases this)];exact D7 y hy,by rw [j4,mT,K9];exact S'.frz vX nf0 nf1⟩⟩ (by rintro i Y H4 ⟨_,_,_,_,_,_,_,h⟩;exact h.frz) ?_ ?_⟩
  .rintro i k v' Y H4 hk ⟨u,v,w,y,z,r,rfl,J⟩;obtain ⟨l,hl,e⟩:=G0 (f:=fun t=>((Sum.inr t:C5),V.ref (af t))) hk;obtain ⟨rfl,rfl⟩:=Prod.mk.inj e;have iX:l∈E8 R:=N2 hl;have hlL:=md.gl l iX;have hfl2:(((E8 R).take i).flatMap (E3 R)).length+(E3 R l).length<=((E8 R).flatMap (E3 R)).length:=by
    have e:(E8 R).flatMap (E3 R)=((E8 R).take i).flatMap (E3 R)++E3 R l++((E8 R).drop (i+1)).flatMap (E3 R):=by
     have:=V7 (i+1) (E8 R)
     rw [M8 hl] at this;rw [<- this,o3,o3,u7,mT,K9];rw [this]
    rw [e,C4,C4];lia
   walk_at "rd";refine ⟨V.ref (af l),.inl ⟨_,Sum.inr l,.inr ⟨o,J.frz⟩,rfl,by rw [O3,if_pos iX]⟩,af l,rfl,⟨_,J.rows l iX⟩,forE1 (xs:=(E3 R l).map V.str) (fun j Y H5=>∃ (y z r:Option V),Y=[some (.ref a),some (.ref b),some (.ref c),some (.ref d),u,some (kV (Sum.inr l)),w,some (.ref fd),y,z,r]/\FoI H H5 d fd o (E8 R) af (E3 R) (L++M++((E8 R).take i).flatMap (E3 R)++(E3 R l).take j) F) ⟨y,z,r,rfl,by rw [j4,K9];exact J⟩ (by rintro j Y H5 ⟨_,_,_,_,h⟩;exact h.rows l iX) ?_ ?_⟩
   .clear J y z r;rintro j x t Y H5 hx ⟨y,z,r,rfl,J⟩ nt;obtain ⟨f,hf,rfl⟩:=G0 hx;have hj:j<(E3 R l).length:=(G2.mp hf).1;have T1:Same H5 (A0 H5 t (.tup [.int ((j+1:Nat):Int),.str f])):=Same.new nt;have ht:A0 H5 t (.tup [.int ((j+1:Nat):Int),.str f]) t=some (.tup [.int ((j+1:Nat):Int),.str f]):=A5;generalize A0 H5 t (.tup [.int ((j+1:Nat):Int),.str f])=H6 at T1 ht ⊢
    have J6:=J.more T1;obtain ⟨ad,h1,h2⟩:=J6.st.made;have L1:l∈G3 [] (L++M++((E8 R).take i).flatMap (E3 R)++(E3 R l).take j):=by
     rw [l6];exact .inr (T3 _ (T3 _ (T3 _ hlL)))
    obtain ⟨tt,e1,e2⟩:=(h2 l L1).ex;rw [md.letter hlL] at e2;obtain ⟨t0,rfl,e3⟩:∃ t0,tt=[t0]/\H6 t0=some (tupT (2,(L.idxOf l:Int),0)):=by
     cases e2 with
     | cons h t=>cases t;exact ⟨_,rfl,h⟩
    walk_at "rd";refine ⟨_,.of ht,rfl,_,_,rfl,_,_,rfl,rfl,V.ref (ad l),.inl ⟨_,Sum.inr l,.inl h1,rfl,by rw [O3,if_pos L1]⟩,?_⟩;walk_at "rd";refine ⟨_,.inr (.of e1),V.ref t0,T6 _ _,?_⟩;walk_at "rd";refine ⟨_,.inr (.of e3),V.int (L.idxOf l:Int),N9 (j:=1) rfl,by decide,fun p np=>⟨by decide,fun p1 N1=>?_⟩⟩;rw [M8 hf,<- R3];exact FoI.put nd ((J6.more (Same.new np)).more (Same.new N1)) (by simp only [C4,E9];lia) (by
     rw [md.gr l iX j f hf];exact StepAt.one A5 (D1 A5 N1))
   .rintro Y H5 ⟨y,z,r,rfl,J⟩;rw [A6,K3] at J;refine ⟨⟨_,_,_,_,_,_,rfl⟩,?_⟩;rw [M8 hl,o3,u7,mT,K9,<- R3];exact J
  rintro Y H4 ⟨u,v,w,y,z,r,rfl,J⟩;rw [k9,K3] at J;have S5:=J.st.thaw (o:=.dK (C1 (E8 R) fun y=>V.ref (af y))) J.frz nf0 nf1;generalize A0 H4 fd (.dK (C1 (E8 R) fun y=>V.ref (af y)))=H5 at S5 ⊢
  clear J vX D7;walk_at "rd";refine ⟨⟨_,.of (S5.same _ _ hR.top)⟩,forL (xs:=ts.map V.ref) (fun i Y H6=>∃ (r:Option V),Y=[some (.ref a),some (.ref b),some (.ref c),some (.ref d),u,v,w,some (.ref fd),y,z,r]/\StI H H6 d (L++M++(E8 R).flatMap (E3 R)++asKs (R.take i)) F) ⟨r,rfl,by rw [j4];rw [show asKs []=[] from rfl,K9];exact S5⟩ (by rintro i Y H6 _ ⟨_,_,S⟩;exact .of (S.same _ _ hR.top)) ?_ ?_⟩
  .clear S5 r;rintro i x Y H6 hx ⟨r,rfl,S⟩;obtain ⟨t,ht,rfl⟩:=G0 hx;obtain ⟨zz,hz,D7⟩:=Paired.at hR.row ht;have j0:=N2 hz;have hT:C6 K H6 t ((zz.1::zz.2).map V.str):=.of (S.same _ _ D7);walk_at "rd";refine ⟨_,.inr hT,V.str zz.1,T6 _ _,?_⟩;walk_at "rd"
   by_cases has:zz.1=("as" : Str)
   .rw [decide_eq_true has];refine iteT ?_;obtain ⟨w1,ps⟩:=zz;obtain rfl:w1=("as" : Str):=has;obtain ⟨p,qs,rfl⟩:∃ p qs,ps=p::qs:=by
     cases ps with
     | nil=>exact absurd rfl (md.ne _ j0 'g')
     | cons p qs=>exact ⟨p,qs,rfl⟩
    have n8:cutV (((("as" : Str),p::qs).1::(("as" : Str),p::qs).2).map V.str) (some 2) none=qs.map V.str:=p5 _ 2;have fJ:qs.length<=1000:=by have:=N0 _ j0;simp only [K4] at this;lia
    have dA:=yM (R.take i);rw [E9] at dA;refine rSlR.t hT (p7 (k:=2) 'h' 'c') fun s ns=>?_
    rw [n8];have T1:Same H6 (A0 H6 s (.tup (qs.map V.str))):=Same.new ns;have hs:A0 H6 s (.tup (qs.map V.str)) s=some (.tup (qs.map V.str)):=A5;generalize A0 H6 s (.tup (qs.map V.str))=H7 at T1 hs;have S7:=S.more T1;have hT7:C6 K H7 t (((("as" : Str),p::qs).1::(("as" : Str),p::qs).2).map V.str):=C6.same T1 hT;clear hT S;refine ⟨s,rfl,⟨_,.of hs⟩,compT (xs:=qs.map V.str) [some (.ref d)] rfl (fun D j ys H8=>∃ Z5:List Addr,ys=Z5.map V.ref/\AsI H H7 H8 d (L++M++(E8 R).flatMap (E3 R)++asKs (R.take i)) F Z5 ((qs.take j).map fun q=>(F q).headD (0,0,0))) (fun D nD=>⟨[],rfl,S7.more (Same.new nD),.nil,Same.new nD⟩) (by rintro D j ys H8 nD _ ⟨_,_,h⟩;exact .of (h.sm _ _ hs)) ?_ ?_⟩
    .rintro D j yv ys H8 nD hi hy ⟨Z5,rfl,J⟩ hD F8;obtain ⟨qq,hq,rfl⟩:=G0 hy;have qW:=md.pt _ j0 rfl qq (N2 hq);obtain ⟨st,Q8⟩:=md.base qW;obtain ⟨ad,h1,h2⟩:=J.st.made;have L1:qq∈G3 [] (L++M++(E8 R).flatMap (E3 R)++asKs (R.take i)):=by
      rw [l6];refine .inr (T3 _ (T3 _ (E1.mpr qW)))
     obtain ⟨tt,e1,e2⟩:=(h2 qq L1).ex;rw [Q8] at e2;obtain ⟨t0,rfl,e3⟩:∃ t0,tt=[t0]/\H8 t0=some (tupT st):=by
      cases e2 with
      | cons h t=>cases t;exact ⟨_,rfl,h⟩
     walk_at "rd";refine ⟨V.ref (ad qq),.inl ⟨_,Sum.inr qq,.inl h1,rfl,by rw [O3,if_pos L1]⟩,?_⟩;walk_at "rd";have bI:Z5.length<=1000:=by
      have:=Paired.length J.pr
      rw [A6,E9] at this;lia
     refine ⟨_,.inr (.of e1),V.ref t0,T6 _ _,hD,by rw [A6];exact L3 'a',CW.put hi F8 ⟨Z5++[t0],by rw [E2];rfl,?_⟩⟩;refine AsI.putL (f:=D) ⟨J.st,?_,J.sm⟩ hD (S7.same.free nD) nD;rw [M8 hq,E2];refine Paired.snoc J.pr ?_;show H8 t0=some (tupT ((F qq).headD (0,0,0)));rw [Q8];exact e3
    rintro D ys H8 nD ⟨Z5,rfl,J⟩ hD F8;rw [A6,K3] at J;rw [tup_r];refine rTupR.l (.of hD) fun p1 N1=>?_
    have K1:G4 (((("as" : Str),p::qs).1::(("as" : Str),p::qs).2).map V.str) 1=some (V.str p):=N9 (j:=1) rfl;have S8:Same H8 (A0 H8 p1 (.tup (Z5.map V.ref))):=Same.new N1;refine ⟨_,.inr (C6.same (J.sm.trans S8) hT7),V.str p,K1,?_⟩;rw [tJ hz,yL,<- R3];refine StI.put nd (J.st.more S8) (by simp only [C4];lia) ?_;rw [md.as _ j0 rfl p qs rfl];exact ⟨Z5,A5,M5 J.pr fun t s e=>S8 _ _ e⟩
   .rw [decide_eq_false has];refine iteF ?_;rw [tJ hz,yK has,K9];exact S
  rintro Y H6 ⟨r,rfl,S⟩;rw [A6,hR.len,K3] at S;walk_at "rd";exact q d H6 nd S.same S.made
theorem aec:FnScope ["self", "rules"] ["self", "rules"] (C3 eK):=G1
abbrev ac2:List Str:=["self", "rules"]
theorem cP:VS ac2 eK "self" 0:=vq
theorem hV:VS ac2 eK "rules" 1:=vq
theorem aed(F:FunD K "__init__" "Order.__init__" eK f fd)(T:Txt P w K mg C)(G_has_rule:FO P w K mg base 1 "has_rule" ["rules", "word"] [] (spHas K))(G_jobs_of:FO P w K mg base 3 "jobs_of" ["rules"] [] (am9 K))(G_check_letters:FO P w K mg base 2 "check_letters" ["rules", "jobs"] [] (aiD K))(G_line_of:FO P w K mg base 4 "line_of" ["rules", "word"] [] (ana K))(G_steps_of:FO P w K mg base 2 "steps_of" ["rules", "letters", "marks"] [] (aiE K)):FnOk P w K mg base E6 5 f fd ["self", "rules"] (yP C):=by
 refine F.ok aec ?_ ?_
 .rintro _ _ _ _ ⟨x,dx,a,ts,R,g,r1,r2,rfl,_⟩;rfl
 .intro cdv A outer s H vs Q E hr h;have C2:=hu_of hr;have hu:=hr.units;refine ⟨_,QSs.out (A8 (kI (K:=K) (vi cP) (C8 G_has_rule (hm hr) (qa_c (vi hV) (qa_c G5 A3))))
   (A8 (kI (K:=K) (vi cP) (C8 G_has_rule (hm hr) (qa_c (vi hV) (qa_c G5 A3))))
   (A8 (kI (K:=K) (vi cP) (C8 G_jobs_of (hm hr) (qa_c (vi hV) A3)))
   (A8 (O9 (C8 G_check_letters (hm hr) (qa_c (vi hV) (qa_c (v9 (K:=K) (vi cP)) A3))))
   (A8 (kI (K:=K) (vi cP) (C8 G_line_of (hm hr) (qa_c (vi hV) (qa_c G5 A3))))
   (A8 (kI (K:=K) (vi cP) (C8 G_line_of (hm hr) (qa_c (vi hV) (qa_c G5 A3))))
   (A7 (kI (K:=K) (vi cP) (C8 G_steps_of (hm hr) (qa_c (vi hV) (qa_c (v9 (K:=K) (vi cP)) (qa_c (v9 (K:=K) (vi cP)) A3)))))))))))),?_⟩
  obtain ⟨x,dx,a,ts,R,g,r1,r2,rfl,hx,hR,pl,q⟩:=h;have lp:∀ (f:Str) (y:V) (fs:List (Str×V)),(putF f y fs).length<=fs.length+1:=wS;walk_at "rd";refine ⟨a,ts,R, "figures",rfl,hR,pl.len,fun H1 S1=>⟨C,dx,[],S1 _ _ hx,T.cl,T.na_figures,by decide,?_⟩⟩;generalize hF1:putF (Str.ofString "figures") (V.bl (hasW R (Str.ofString "figures"))) []=F1;have l1:F1.length<=1:=by rw [<- hF1];exact lp _ _ _
  have B2:SameBut x H (A0 H1 x (.ins C dx F1)):=(Same.but S1).at;have hx2:A0 H1 x (.ins C dx F1) x=some (.ins C dx F1):=A5;generalize A0 H1 x (.ins C dx F1)=H2 at B2 hx2;have hR2:=hR.but B2 hx;refine ⟨a,ts,R, "behind",rfl,hR2,pl.len,fun H3 S3=>⟨C,dx,F1,S3 _ _ hx2,T.cl,T.na_behind,by lia,?_⟩⟩;generalize hF2:putF (Str.ofString "behind") (V.bl (hasW R (Str.ofString "behind"))) F1=F2;have l2:F2.length<=2:=by rw [<- hF2];exact K6 (lp _ _ _) 'a'
  have B4:SameBut x H2 (A0 H3 x (.ins C dx F2)):=(Same.but S3).at;have mB:A0 H3 x (.ins C dx F2) x=some (.ins C dx F2):=A5;generalize A0 H3 x (.ins C dx F2)=H4 at B4 mB;have hR4:=hR2.but B4 hx2;refine ⟨a,ts,R,g,rfl,hR4,pl.len,pl.plen,pl.nc,pl.nb,fun j H5 nj S5 hj=>?_⟩;have njx:j≠x:=fun e=>by rw [e,mB] at nj;cases nj
  generalize hF3:putF (Str.ofString "jobs") (V.ref j) F2=F3;have l3:F3.length<=3:=by rw [<- hF3];exact K6 (lp _ _ _) 'a'
  have k3:F3.lookup (Str.ofString "jobs")=some (V.ref j):=by rw [<- hF3,N5,if_pos rfl]
  refine ⟨C,dx,F2,S5 _ _ mB,T.cl,T.na_jobs,by lia,?_⟩;rw [hF3];have B6:SameBut x H4 (A0 H5 x (.ins C dx F3)):=(Same.but S5).at;have qX:A0 H5 x (.ins C dx F3) x=some (.ins C dx F3):=A5;have hj6:A0 H5 x (.ins C dx F3) j=some (.dK (C1 (keysP (D0 R)++X5 R) (jobG g))):=by rw [B1 njx];exact hj
  generalize A0 H5 x (.ins C dx F3)=H6 at B6 qX hj6;have hR6:=hR4.but B6 mB;refine ⟨C,dx,F3,qX,T.cl,T.na_jobs,_,k3,a,j,ts,R,_,_,rfl,hR6,hj6,fun z hz=>⟨pl.used hz,pl.zl z hz⟩,fun H7 S7=>?_⟩;refine ⟨a,ts,R, "row",r1,rfl,hR6.same S7,pl.len,K6 pl.f1 'h',pl.a1,fun ll L H8 nll S8 hll run cov=>?_⟩;have hx8:=S8 _ _ (S7 _ _ qX);have nlx:ll≠x:=fun e=>by rw [e,S7 _ _ qX] at nll;cases nll
  have llen:L.length<=10000:=by
   rw [sY (kJ _) run cov];exact K6 (nR _) pl.f1
  generalize hF4:putF (Str.ofString "letter_line") (V.ref ll) F3=F4;have l4:F4.length<=4:=by rw [<- hF4];exact K6 (lp _ _ _) 'a'
  refine ⟨C,dx,F3,hx8,T.cl,T.na_letter_line,by lia,?_⟩;rw [hF4];have B9:SameBut x H6 (A0 H8 x (.ins C dx F4)):=(Same.but (S7.trans S8)).at;have vY:A0 H8 x (.ins C dx F4) x=some (.ins C dx F4):=A5;have qY:A0 H8 x (.ins C dx F4) ll=some (.lst (L.map V.str)):=by rw [B1 nlx];exact hll
  generalize A0 H8 x (.ins C dx F4)=H9 at B9 vY qY;have hR9:=hR6.but B9 qX;refine ⟨a,ts,R, "marks",r2,rfl,hR9,pl.len,K6 pl.f2 'h',pl.a2,fun ml M Q4 nml Z6 vZ run2 cov2=>?_⟩;have nmx:ml≠x:=fun e=>by rw [e,vY] at nml;cases nml
  have mlen:M.length<=10000:=by
   rw [sY (kJ _) run2 cov2];exact K6 (nR _) pl.f2
  generalize hF5:putF (Str.ofString "mark_line") (V.ref ml) F4=F5;have l5:F5.length<=5:=by rw [<- hF5];exact K6 (lp _ _ _) 'a'
  refine ⟨C,dx,F4,Z6 _ _ vY,T.cl,T.na_mark_line,by lia,?_⟩;rw [hF5];have B11:SameBut x H9 (A0 Q4 x (.ins C dx F5)):=(Same.but Z6).at;have n9:A0 Q4 x (.ins C dx F5) x=some (.ins C dx F5):=A5;have aB:A0 Q4 x (.ins C dx F5) ml=some (.lst (M.map V.str)):=by rw [B1 nmx];exact vZ
  have aD:A0 Q4 x (.ins C dx F5) ll=some (.lst (L.map V.str)):=by rw [B1 nlx];exact Z6 _ _ qY
  generalize A0 Q4 x (.ins C dx F5)=bJ at B11 n9 aB aD;have hR11:=hR9.but B11 vY;have kl:F5.lookup (Str.ofString "letter_line")=some (V.ref ll):=by rw [<- hF5,N5,if_neg 'd',<- hF4,N5,if_pos rfl]
  have km:F5.lookup (Str.ofString "mark_line")=some (V.ref ml):=by rw [<- hF5,N5,if_pos rfl]
  refine ⟨C,dx,F5,n9,T.cl,T.na_letter_line,_,kl,C,dx,F5,n9,T.cl,T.na_mark_line,_,km,a,ll,ml,ts,R,L,M,stepF R L M,rfl,hR11,yO pl ⟨run,cov⟩ ⟨run2,cov2⟩,aD,aB,pl.zl,pl.len,akR pl,K6 (aoN pl ⟨run,cov⟩ ⟨run2,cov2⟩) 'h',fun md H12 nmd X0 qZ=>⟨C,dx,F5,X0 _ _ n9,T.cl,T.na_made,by lia,?_⟩⟩;have nmdx:md≠x:=fun e=>by rw [e,n9] at nmd;cases nmd
  have B:SameBut x H (A0 H12 x (.ins C dx (putF (Str.ofString "made") (V.ref md) F5))):=((B2.trans B4).trans ((B6.trans B9).trans (B11.trans (Same.but X0)))).at;have fr:∀ {H':Hp} {y:Addr},SameBut x H H'->H' y=none->y≠x->H y=none:=fun {H' y} b n nx=>by
   cases e:H y with
   | none=>rfl
   | some o=>have:=b _ _ nx e;rw [n] at this;cases this
  have B44:=B2.trans B4;refine q j ll ml md L M _ (fr B44 nj njx) (fr ((B44.trans B6).trans (Same.but S7)) nll nlx) (fr ((B44.trans B6).trans B9) nml nmx) (fr (((B44.trans B6).trans B9).trans B11) nmd nmdx) B ⟨⟨dx,?_⟩,?_,?_,?_,qZ.mod (X0 _ _ n9) (by intro xs e;cases e) nmdx,⟨run,cov⟩,⟨run2,cov2⟩⟩
  .rw [A5,<- hF5,<- hF4,<- hF3,<- hF2,<- hF1];rfl
  .rw [B1 njx];exact X0 _ _ (B11 _ _ njx (B9 _ _ njx hj6))
  .rw [B1 nlx];exact X0 _ _ aD
  .rw [B1 nmx];exact X0 _ _ aB
theorem aek:FnScope ["self"] ["self"] (C3 gU):=G1
abbrev afb:List Str:=["self"]
theorem vbH:VS afb gU "self" 0:=vq
theorem ael(F:FunD K "letters" "Order.letters" gU f fd)(T:Txt P w K mg C):FnOk P w K mg base E6 1 f fd ["self"] (akS C):=by
 refine F.ok aek ?_ ?_
 .rintro _ _ _ _ ⟨x,j,ll,ml,md,g,R,L,M,rfl,_⟩;rfl
 .intro cdv A outer s H vs Q E hr h;have C2:=hu_of hr;have hu:=hr.units;refine ⟨_,QSs.out (A7 (E4 (qe_cT (k8 (K:=K) (calm:=true)) T.b_list j9 (qa_c (v9 (K:=K) (vi vbH)) A3)))),?_⟩;obtain ⟨x,j,ll,ml,md,g,R,L,M,rfl,hO,q⟩:=h;obtain ⟨dx,h1⟩:=hO.ob;walk_at "rd";refine ⟨_,_,_,h1,T.cl,T.na_letter_line,_,agT _ _ _ _ _ _,?_⟩;walk_at "rd";exact rListR.l (.inl (.of hO.lets)) fun l nl=>q l nl
theorem afj:FnScope ["self"] ["self"] (C3 gW):=G1
abbrev agf:List Str:=["self"]
theorem vbI:VS agf gW "self" 0:=vq
theorem afk(F:FunD K "marks" "Order.marks" gW f fd)(T:Txt P w K mg C):FnOk P w K mg base E6 1 f fd ["self"] (aiF C):=by
 refine F.ok afj ?_ ?_
 .rintro _ _ _ _ ⟨x,j,ll,ml,md,g,R,L,M,rfl,_⟩;rfl
 .intro cdv A outer s H vs Q E hr h;have C2:=hu_of hr;have hu:=hr.units;refine ⟨_,QSs.out (A7 (E4 (qe_cT (k8 (K:=K) (calm:=true)) T.b_list j9 (qa_c (v9 (K:=K) (vi vbI)) A3)))),?_⟩;obtain ⟨x,j,ll,ml,md,g,R,L,M,rfl,hO,q⟩:=h;obtain ⟨dx,h1⟩:=hO.ob;walk_at "rd";refine ⟨_,_,_,h1,T.cl,T.na_mark_line,_,aji _ _ _ _ _ _,?_⟩;walk_at "rd";exact rListR.l (.inl (.of hO.mrks)) fun l nl=>q l nl
theorem ahh:FnScope ["self", "piece"] ["self", "piece"] (C3 eL):=G1
abbrev afc:List Str:=["self", "piece"]
theorem vbJ:VS afc eL "self" 0:=vq
theorem vbK:VS afc eL "piece" 1:=vq
theorem ahi(F:FunD K "job" "Order.job" eL f fd)(T:Txt P w K mg C):FnOk P w K mg base E6 1 f fd ["self", "piece"] (ang C):=by
 refine F.ok ahh ?_ ?_
 .rintro _ _ _ _ ⟨x,j,ll,ml,md,p,g,R,L,M,rfl,_⟩;rfl
 .intro cdv A outer s H vs Q E hr h;have C2:=hu_of hr;have hu:=hr.units;refine ⟨_,QSs.out (A7 (E4 (tD C2 (v9 (K:=K) (vi vbJ)) (vi vbK)))),?_⟩;obtain ⟨x,j,ll,ml,md,p,g,R,L,M,rfl,hO,q⟩:=h;obtain ⟨dx,h1⟩:=hO.ob;walk_at "rd";refine ⟨_,_,_,h1,T.cl,T.na_jobs,_,agS _ _ _ _ _ _,j,rfl,.inl ⟨_,.inl hO.jobs⟩,_,c9 (k:=Sum.inr p) hO.jobs,?_⟩;rw [O3]
  by_cases hp:p∈keysP (D0 R)++X5 R
  .rw [if_pos hp] at q ⊢
   exact q
  .rw [if_neg hp] at q ⊢
   exact q
theorem sc_figures_at:FnScope ["text", "at", "end"] ["text", "at"] (C3 gX):=G1
abbrev ade:List Str:=["text", "at", "end"]
theorem vbL:VS ade gX "text" 0:=vq
theorem vbM:VS ade gX "at" 1:=vq
theorem vbN:VS ade gX "end" 2:=vq
theorem vbO:LS gX "end":=lq
theorem agg(F:FunD K "figures_at" "figures_at" gX f fd)(T:Txt P w K mg C)(G_is_figure:FO P w K mg base 1 "is_figure" ["sign"] [] kO):FnOk P w K mg base E6 2 f fd ["text", "at"] ak0:=by
 refine F.ok sc_figures_at ?_ ?_
 .rintro _ _ _ _ ⟨z,pre,rest,rfl,_⟩;rfl
 .intro cdv A outer s H vs Q E hr h;have C2:=hu_of hr;have hu:=hr.units;refine ⟨_,QSs.out (A8 (C7 (n:=2) sc_figures_at.nd rfl vbO (vi vbM))
   (A8 (nV PassesOwn.never (QW.pt (p0 (D6 q_lt (vi vbN) (qe_cB (q_len (K:=K)) T.b_len P3 (qa_c (vi vbL) A3))) (v8 (W7 (K:=K) (C8 G_is_figure (hm hr) (qa_c (qe_ix (K:=K) (vi vbL) (vi vbN)) A3)))))) (A7 (am4 (n:=2) sc_figures_at.nd rfl vbO A4 am5)))
   (A7 (E4 (L9 (K:=K) (vi vbL) (I0 (vi vbM)) (I0 (vi vbN))))))),?_⟩
  obtain ⟨z,pre,rest,rfl,hz,N0,q⟩:=h;walk_at "rd";have A9:z.length=pre.length+rest.length:=by
   have:=congrArg Y8 N0
   simp [Str.length] at this ⊢
   lia
  have hsz:z.length<=sizeLine:=O8 'a';refine nW (fun m Y H2=>∃ (run left:List Nat),Y=[some (.str z),some (.int pre.length),some (.int ((pre++run).length:Nat))]/\H2=H/\rest=run++left/\rest.takeWhile figO=run++left.takeWhile figO/\m=left.length) rest.length ⟨[],rest,by simp,rfl,rfl,rfl,rfl⟩ ?_;rintro m Y H2 ⟨run,left,rfl,rfl,hr,mE,rfl⟩;have dB:z.cps.toList=pre++(run++left):=by rw [N0,hr]
  have fK:rest.length=run.length+left.length:=by rw [hr,C4]
  have ecut:cutS z (some (pre.length:Int)) (some (((pre++run).length:Nat):Int))=⟨run.toArray⟩:=by
   have:=oJ (y:=run) (rest:=left) dB
   rw [show (((pre++run).length:Nat):Int)=(pre.length:Int)+(run.length:Int) by rw [C4];lia];exact this
  have hpr:(pre++run).length=pre.length+run.length:=C4;walk_at "rd";refine ⟨hsz,iteD (fun C9=>⟨hsz,?_⟩) fun lU=>⟨hsz,?_⟩⟩
  .cases left with
   | nil=>simp at fK;lia
   | cons c l2=>
    refine ⟨c,?_,c,rfl,figO c,rfl,?_⟩
    .rw [dB,<- R3];exact tR
    by_cases hf:figO c=true
    .rw [hf];refine iteT ⟨_,fun _ _ h=>h,l2.length,by simp,run++[c],by simp;lia,rfl,l2,by rw [hr];simp,?_,rfl⟩;rw [mE,jH hf]
     simp
    .rw [fX] at hf;rw [hf];refine iteF ⟨hsz,?_⟩;rw [ecut];rw [mE,List.takeWhile_cons_of_neg (by simp [hf]),K9] at q;exact q
  .have pX:left=[]:=j3.mp 'a';rw [mE,pX,List.takeWhile_nil,K9] at q;rw [ecut];exact q
theorem sc_part_at:FnScope ["known", "text", "at", "figures", "two"] ["known", "text", "at", "figures"] (C3 cK):=G1
abbrev pB:List Str:=["known", "text", "at", "figures", "two"]
theorem vbP:VS pB cK "known" 0:=vq
theorem pC:VS pB cK "text" 1:=vq
theorem lE:VS pB cK "at" 2:=vq
theorem vbS:VS pB cK "figures" 3:=vq
theorem vbT:VS pB cK "two" 4:=vq
theorem vbU:LS cK "two":=lq
theorem ajD(F:FunD K "part_at" "part_at" cK f fd)(T:Txt P w K mg C)(G_is_figure:FO P w K mg base 1 "is_figure" ["sign"] [] kO)(G_figures_at:FO P w K mg base 2 "figures_at" ["text", "at"] [] ak0):FnOk P w K mg base E6 3 f fd ["known", "text", "at", "figures"] ak1:=by
 refine F.ok sc_part_at ?_ ?_
 .rintro _ _ _ _ ⟨d,z,g,pre,c,r,w,y,rfl,_⟩;rfl
 .intro cdv A outer s H vs Q E hr h;have C2:=hu_of hr;have hu:=hr.units;refine ⟨_,QSs.out (A8 (qs_if (QW.pt (p0 (W7 (K:=K) (vi vbS)) (v8 (W7 (K:=K) (C8 G_is_figure (hm hr) (qa_c (qe_ix (K:=K) (vi pC) (vi lE)) A3)))))) (A7 (E4 (C8 G_figures_at (hm hr) (qa_c (vi pC) (qa_c (vi lE) A3))))) F7)
   (A8 (C7 (n:=4) sc_part_at.nd rfl vbU (L9 (K:=K) (vi pC) (I0 (vi lE)) (I0 (qe_op 'i' (vi lE) A4))))
   (A8 (qs_if (D6 (q_in (K:=K) hu) (vi vbT) (vi vbP)) (A7 (E4 (vi vbT))) F7)
   (A8 (qs_if (D6 (q_in (K:=K) hu) (qe_ix (K:=K) (vi pC) (vi lE)) (vi vbP)) (A7 (E4 (qe_ix (K:=K) (vi pC) (vi lE)))) F7)
   (A7 sU))))),?_⟩
  obtain ⟨d,z,g,pre,c,r,w,y,rfl,hd,hz,N0,hp,q⟩:=h;have hsz:z.length<=sizeLine:=O8 'a';have ha:G4 z.cps.toList (pre.length:Int)=some c:=by rw [N0];exact tR
  rw [cH] at hp
  cases w with
  | false=>
   rw [jR,if_neg M4] at hp;walk_at "rd"
   cases r with
   | nil=>
    rw [eE] at hp
    by_cases h1:one c∈g
    .rw [if_pos h1] at hp;obtain rfl:=Option.some.inj hp;rw [tQ N0];refine ⟨hsz,rInR.d (c9 (k:=Sum.inr (one c)) hd) ⟨_,rfl,?_⟩⟩;rw [kT,bS,decide_eq_true h1];exact iteT q
    .rw [if_neg h1] at hp;cases hp
   | cons e r=>
    rw [l7] at hp;have ec:cutS z (some (pre.length:Int)) (some ((pre.length:Int)+2))=L4 c e:=oJ (y:=[c,e]) (rest:=r) N0;rw [ec];refine ⟨hsz,rInR.d (c9 (k:=Sum.inr (L4 c e)) hd) ⟨_,rfl,?_⟩⟩;rw [kT,bS];refine iteD (fun h=>?_) fun h=>⟨hsz,c,ha,rInR.d (c9 (k:=Sum.inr (one c)) hd) ⟨_,rfl,?_⟩⟩
    .rw [if_pos h] at hp;obtain rfl:=Option.some.inj hp;exact q
    .rw [if_neg h] at hp
     by_cases h1:one c∈g
     .rw [if_pos h1] at hp;obtain rfl:=Option.some.inj hp;rw [kT,bS,decide_eq_true h1];exact iteT ⟨hsz,c,ha,q⟩
     .rw [if_neg h1] at hp;cases hp
  | true=>
   rw [Bool.true_and] at hp;walk_at "rd";refine ⟨hsz,c,ha,c,rfl,figO c,rfl,?_⟩
   by_cases hf:figO c=true
   .rw [hf];rw [if_pos hf] at hp;obtain rfl:=Option.some.inj hp;exact iteT ⟨z,pre,c::r,rfl,hz,N0,q⟩
   rw [if_neg hf] at hp;rw [fX] at hf;rw [hf];refine iteF ?_
   cases r with
   | nil=>
    rw [eE] at hp
    by_cases h1:one c∈g
    .rw [if_pos h1] at hp;obtain rfl:=Option.some.inj hp;rw [tQ N0];refine ⟨hsz,rInR.d (c9 (k:=Sum.inr (one c)) hd) ⟨_,rfl,?_⟩⟩;rw [kT,bS,decide_eq_true h1];exact iteT q
    .rw [if_neg h1] at hp;cases hp
   | cons e r=>
    rw [l7] at hp;have ec:cutS z (some (pre.length:Int)) (some ((pre.length:Int)+2))=L4 c e:=oJ (y:=[c,e]) (rest:=r) N0;rw [ec];refine ⟨hsz,rInR.d (c9 (k:=Sum.inr (L4 c e)) hd) ⟨_,rfl,?_⟩⟩;rw [kT,bS];refine iteD (fun h=>?_) fun h=>⟨hsz,c,ha,rInR.d (c9 (k:=Sum.inr (one c)) hd) ⟨_,rfl,?_⟩⟩
    .rw [if_pos h] at hp;obtain rfl:=Option.some.inj hp;exact q
    .rw [if_neg h] at hp
     by_cases h1:one c∈g
     .rw [if_pos h1] at hp;obtain rfl:=Option.some.inj hp;rw [kT,bS,decide_eq_true h1];exact iteT ⟨hsz,c,ha,q⟩
     .rw [if_neg h1] at hp;cases hp
theorem sc_cut:FnScope ["known", "text", "figures", "pieces", "parts", "at", "part"] ["known", "text", "figures"] (C3 s_cut):=G1
abbrev n_cut:List Str:=["known", "text", "figures", "pieces", "parts", "at", "part"]
theorem vbV:VS n_cut s_cut "known" 0:=vq
theorem vbW:VS n_cut s_cut "text" 1:=vq
theorem vbX:VS n_cut s_cut "figures" 2:=vq
theorem vbY:VS n_cut s_cut "pieces" 3:=vq
theorem vbZ:VS n_cut s_cut "parts" 4:=vq
theorem vb0:VS n_cut s_cut "at" 5:=vq
theorem vb1:VS n_cut s_cut "part" 6:=vq
theorem vb2:LS s_cut "pieces":=lq
theorem vb3:LS s_cut "parts":=lq
theorem vb4:LS s_cut "at":=lq
theorem vb5:LS s_cut "part":=lq
theorem ann(F:FunD K "cut" "cut" s_cut f fd)(T:Txt P w K mg C)(G_part_at:FO P w K mg base 3 "part_at" ["known", "text", "at", "figures"] [] ak1):FnOk P w K mg base E6 4 f fd ["known", "text", "figures"] (tT K):=by
 refine F.ok sc_cut ?_ ?_
 .rintro _ _ _ _ ⟨a,z,ks,w,rfl,_⟩;rfl
 .intro cdv A outer s H vs Q E hr h;have C2:=hu_of hr;have hu:=hr.units;refine ⟨_,QSs.out (A8 (C7 (n:=3) sc_cut.nd rfl vb2 (qe_cT (akw (K:=K) (calm:=true)) T.b_dict akm (qa_c (k7  (T9:CompOk ["known", "text", "figures", "pieces", "parts", "at", "part"] (C3 s_cut).names _ ["piece"] 1 []) (P5 (K:=K) (vi vbV)) (fun _ _ _ _ _=>D3 (n:=0) (show List.Nodup (["piece"]:List Str) by decide +kernel) rfl (Or.inl rfl)) (fun _ _ _ _ _=>k6) (fun _ _ _ _ _=>(K7 (qa_c (qv 0) (qa_c qe_bl A3))))) A3)))
   (A8 (C7 (n:=4) sc_cut.nd rfl vb3 (M7 A3))
   (A8 (C7 (n:=5) sc_cut.nd rfl vb4 A4)
   (A8 (nV PassesOwn.never (D6 q_lt (vi vb0) (qe_cB (q_len (K:=K)) T.b_len P3 (qa_c (vi vbW) A3))) (A8 (C7 (n:=6) sc_cut.nd rfl vb5 (C8 G_part_at (hm hr) (qa_c (vi vbY) (qa_c (vi vbW) (qa_c (vi vb0) (qa_c (vi vbX) A3))))))
   (A8 (O9 (qe_mB (K:=K) Q5 U9 U8 V0 (vi vbZ) (qa_c (vi vb1) A3)))
   (A7 (am4 (n:=5) sc_cut.nd rfl vb4 (qe_cB (q_len (K:=K)) T.b_len P3 (qa_c (vi vb1) A3)) am5)))))
   (A7 (E4 (vi vbZ))))))),?_⟩
  obtain ⟨a,z,ks,w,rfl,hS,i5,hz,hw,q⟩:=h;walk_at "rd";refine ⟨⟨_,hS⟩,compL (xs:=ks.map V.str) [] rfl (fun D i ys H4=>∃ ts:List Addr,ys=ts.map V.ref/\Paired (fun t k=>H4 t=some (.tup [V.str k,V.bl true])) ts (ks.take i)/\Same H H4) (fun D nD=>⟨[],rfl,.nil,Same.new nD⟩) (by rintro D i ys H4 nD _ ⟨_,_,_,S⟩;exact S.seq hS) ?_ ?_⟩
  .rintro D i x ys H4 nD hi hx ⟨ts,rfl,P,S⟩ hD hy;obtain ⟨k,hk,rfl⟩:=G0 hx;rw [A6] at hi;walk_at "rd";refine ⟨by decide,fun t nt=>⟨D1 hD nt,L3 'a',CW.put (by rw [A6];exact hi) hy ⟨ts++[t],by rw [E2];rfl,?_,Same.put (fun b o h=>D1 (S b o h) nt) nD⟩⟩⟩;have hDt:D≠t:=fun e=>by rw [e,nt] at hD;cases hD
   rw [t9,hk,Option.toList_some];refine Paired.snoc (M5 P fun r k h=>?_) (by rw [B1 hDt.symm,A5]);rw [B1 (fun e=>by rw [e,hD] at h;cases h)];exact D1 h nt
  rintro D ys H4 nD ⟨ts,rfl,P,S⟩ hD hy;rw [A6,K3] at P;have P2:Paired (fun t (kx:C5×V)=>C6 K H4 t [kV kx.1,kx.2]) ts (kvOf ks):=by
   clear hD hy nD S i5 hS q hw
   induction P with
   | nil=>exact .nil
   | cons h t ih=>exact .cons (.of h) ih
  refine ⟨rfl,D,ts,kvOf ks,rfl,.of hD,P2,fun d nd=>?_⟩;rw [show Z0 [] (kvOf ks)=kvOf (G3 [] ks) from afE ks []];have S1:Same H (A0 H4 d (.dK (kvOf (G3 [] ks)))):=fun b o h=>D1 (S b o h) nd
  have hd:A0 H4 d (.dK (kvOf (G3 [] ks))) d=some (.dK (kvOf (G3 [] ks))):=A5;generalize A0 H4 d (.dK (kvOf (G3 [] ks)))=H5 at S1 hd;have hcg:∀ l,cutF w (G3 [] ks) l=cutF w ks l:=afI fun x=>by rw [l6];simp
  generalize G3 [] ks=g at hd hcg;refine fun p np=>nW (fun m Y H6=>∃ (pre rest:List Nat) (ps:List Str) (u:Option V),Y=[some (.ref a),some (.str z),some (.bl w),some (.ref d),some (.ref p),some (.int pre.length),u]/\Same H5 H6/\H6 p=some (.lst (ps.map V.str))/\z.cps.toList=pre++rest/\(cutF w g z.cps.toList).1=pre.length+(cutF w g rest).1/\(cutF w g z.cps.toList).2=ps++(cutF w g rest).2/\ps.length<=pre.length/\m=rest.length) z.cps.toList.length
   ⟨[],z.cps.toList,[],none,rfl,Same.new np,A5,rfl,by simp,rfl,F9 _,rfl⟩ ?_
  rintro m Y H6 ⟨pre,rest,ps,u,rfl,S6,h6,N0,Z7,Q9,L5,rfl⟩;have A9:z.length=pre.length+rest.length:=by
   have:=congrArg Y8 N0
   simp [Str.length] at this ⊢
   lia
  walk_at "rd";refine ⟨O8 'a',iteD (fun C9=>?_) fun lU=>?_⟩
  .cases rest with
   | nil=>simp at A9;lia
   | cons c r=>
    cases hy:partF w g (c::r) with
    | none=>
     exfalso
     rw [gT hy] at Z7;have rA:=hw;unfold W8 at rA;rw [<- hcg,Z7] at rA;simp at A9 rA;lia
    | some y=>
     refine ⟨_,fun _ _ h=>h,d,z,g,pre,c,r,w,y,rfl,S6 _ _ hd,hz,N0,hy,?_⟩;obtain ⟨rest',e1,e2,e3⟩:=eF hy;rw [e2] at Z7 Q9;have el:y.cps.toList.length=y.length:=by simp [Str.length]
     have erl:(c::r).length=y.length+rest'.length:=by rw [e1,C4,el]
     refine ⟨Q7 h6,appOk h6 (by rw [A6];exact L3 'a') ?_⟩;walk_at "rd";refine ⟨O8 'a',rest'.length,by rw [K4] at erl;lia,pre++y.cps.toList,by rw [C4,el];lia,S6.put np,rest',ps++[y],by rw [A5,E2];rfl,N0.trans (by rw [R3];exact congrArg (pre++·) e1),by rw [C4,el,Z7];dsimp only;lia,by rw [Q9,R3];rfl,by rw [C4,C4,el,N3];lia,rfl⟩
  .have hr:rest=[]:=j3.mp 'a';rw [hr] at Z7 Q9;refine q p H6 (S1.free np) (S1.trans S6) ?_;rw [h6,<- hcg,Q9];show some (HO.lst (ps.map V.str))=some (HO.lst ((ps++[]).map V.str));rw [K9]
theorem afl:FnScope ["self"] ["self"] (C3 gY):=G1
abbrev agh:List Str:=["self"]
theorem vb6:VS agh gY "self" 0:=vq
theorem afm(F:FunD K "known" "Order.known" gY f fd)(T:Txt P w K mg C):FnOk P w K mg base E6 1 f fd ["self"] (yX C):=by
 refine F.ok afl ?_ ?_
 .rintro _ _ _ _ ⟨x,j,ll,ml,md,g,R,L,M,rfl,_⟩;rfl
 .intro cdv A outer s H vs Q E hr h;have C2:=hu_of hr;have hu:=hr.units;refine ⟨_,QSs.out (A7 (E4 (qe_cT (k8 (K:=K) (calm:=true)) T.b_list j9 (qa_c (v9 (K:=K) (vi vb6)) A3)))),?_⟩;obtain ⟨x,j,ll,ml,md,g,R,L,M,rfl,hO,q⟩:=h;obtain ⟨dx,h1⟩:=hO.ob;walk_at "rd";refine ⟨_,_,_,h1,T.cl,T.na_jobs,_,agS _ _ _ _ _ _,?_⟩;walk_at "rd";refine rListR.d (.of hO.jobs) fun l nl=>?_
  rw [show (C1 (keysP (D0 R)++X5 R) (jobG g)).map (fun kv=>kV kv.1)=(E5 R).map V.str by unfold C1 E5;rw [b0];rfl];exact q l nl
theorem afn:FnScope ["self", "piece"] ["self", "piece"] (C3 eM):=G1
abbrev ad0:List Str:=["self", "piece"]
theorem vb7:VS ad0 eM "self" 0:=vq
theorem vb8:VS ad0 eM "piece" 1:=vq
theorem afo(F:FunD K "steps" "Order.steps" eM f fd)(T:Txt P w K mg C):FnOk P w K mg base E6 1 f fd ["self", "piece"] (tU C):=by
 refine F.ok afn ?_ ?_
 .rintro _ _ _ _ ⟨x,j,ll,ml,md,p,g,R,L,M,rfl,_⟩;rfl
 .intro cdv A outer s H vs Q E hr h;have C2:=hu_of hr;have hu:=hr.units;refine ⟨_,QSs.out (A7 (E4 (amk C2 (v9 (K:=K) (vi vb7)) (vi vb8) (K7 A3)))),?_⟩;obtain ⟨x,j,ll,ml,md,p,g,R,L,M,rfl,hO,q⟩:=h;obtain ⟨dx,h1⟩:=hO.ob;obtain ⟨ad,a1,a2⟩:=hO.made;walk_at "rd";refine ⟨_,_,_,h1,T.cl,T.na_made,_,ak2 _ _ _ _ _ _,md,rfl,.inl ⟨_,.inl a1⟩,fun e ne=>⟨_,c9 (k:=Sum.inr p) (D1 a1 ne),?_⟩⟩;rw [O3];have S:Same H (A0 H e (.tup [])):=Same.new ne
  by_cases hp:p∈G3 [] (allKs R L M)
  .rw [if_pos hp];exact q _ _ S ((a2 p hp).same S)
  .rw [if_neg hp];refine q _ _ S ⟨[],A5,?_⟩;rw [yY fun h=>hp ((l6 _ _ _).mpr (.inr h))];exact .nil
theorem ah3:FnScope ["order", "text"] ["order", "text"] (C3 oR):=G1
abbrev afM:List Str:=["order", "text"]
theorem vb9:VS afM oR "order" 0:=vq
theorem vca:VS afM oR "text" 1:=vq
theorem ah4(F:FunD K "parts_of" "parts_of" oR f fd)(T:Txt P w K mg C)(G3_cut:FO P w K mg base 4 "cut" ["known", "text", "figures"] [] (tT K))(G_Order_known:MO P w K mg base 1 C "known" ["self"] (yX C)):FnOk P w K mg base E6 5 f fd ["order", "text"] (aiM C):=by
 refine F.ok ah3 ?_ ?_
 .rintro _ _ _ _ ⟨x,j,ll,ml,md,z,g,R,L,M,rfl,_⟩;rfl
 .intro cdv A outer s H vs Q E hr h;have C2:=hu_of hr;have hu:=hr.units;refine ⟨_,QSs.out (A7 (E4 (C8 G3_cut (hm hr) (qa_c (amw (vi vb9) G_Order_known (hm hr)) (qa_c (vi vca) (qa_c (v9 (K:=K) (vi vb9)) A3)))))),?_⟩;obtain ⟨x,j,ll,ml,md,z,g,R,L,M,rfl,hO,hk,hz,hw,q⟩:=h;obtain ⟨dx,h1⟩:=hO.ob;walk_at "rd";refine ⟨_,_,h1,akF _ _ _ _ _ _ 'd',x,j,ll,ml,md,g,R,L,M,rfl,hO,fun l nl=>?_⟩;have S:Same H (A0 H l (.lst ((E5 R).map V.str))):=Same.new nl;exact ⟨_,_,_,S _ _ h1,T.cl,T.na_figures,_,aeg _ _ _ _ _ _,l,z,E5 R,_,rfl,.of A5,hk,hz,hw,fun l2 H2 n2 S2 h2=>q l2 H2 (S.free n2) (S.trans S2) h2⟩
theorem ah5:FnScope ["order", "part"] ["order", "part"] (C3 oS):=G1
abbrev afN:List Str:=["order", "part"]
theorem vcb:VS afN oS "order" 0:=vq
theorem vcc:VS afN oS "part" 1:=vq
theorem ah6(F:FunD K "steps_by" "steps_by" oS f fd)(T:Txt P w K mg C)(G_is_figure:FO P w K mg base 1 "is_figure" ["sign"] [] kO)(G_Order_steps:MO P w K mg base 1 C "steps" ["self", "piece"] (tU C)):FnOk P w K mg base E6 2 f fd ["order", "part"] (agZ C):=by
 refine F.ok ah5 ?_ ?_
 .rintro _ _ _ _ ⟨x,j,ll,ml,md,c,r,y,g,R,L,M,rfl,_⟩;rfl
 .intro cdv A outer s H vs Q E hr h;have C2:=hu_of hr;have hu:=hr.units;refine ⟨_,QSs.out (A8 (qs_if (QW.pt (p0 (W7 (K:=K) (v9 (K:=K) (vi vcb))) (v8 (W7 (K:=K) (C8 G_is_figure (hm hr) (qa_c (qe_ix (K:=K) (vi vcc) A4) A3)))))) (A7 (E4 (K7 (qa_c (K7 (qa_c (kG T.g_FIGURES) (qa_c (qe_cT tO T.b_int nN (qa_c (vi vcc) A3)) (qa_c A4 A3)))) A3)))) F7)
   (A7 (E4 (aoD (vi vcb) G_Order_steps (hm hr) (qa_c (vi vcc) A3))))),?_⟩
  obtain ⟨x,j,ll,ml,md,c,r,y,g,R,L,M,rfl,hy,F8,hO,hf,q⟩:=h;obtain ⟨dx,h1⟩:=hO.ob;have fL:y.cps.toList.headD 0=c:=by rw [hy];rfl
  walk_at "rd";refine ⟨_,_,_,h1,T.cl,T.na_figures,_,aeg _ _ _ _ _ _,?_⟩;walk_at "rd";have fin:stepY R L M y=stepF R L M y->∃ x_5 x_6,H x=some (HO.ins C x_5 x_6)/\dP (Str.ofString "steps") x_6=none/\tU C [V.ref x,V.str y] H Q E0:=fun e=>⟨_,_,h1,akF _ _ _ _ _ _ 'd',x,j,ll,ml,md,y,g,R,L,M,rfl,hO,by rw [<- e];exact q⟩
  by_cases hw:hasW R "figures"=true
  .rw [if_pos hw];refine ⟨O8 'a',c,by rw [hy];exact T6 _ _,c,rfl,?_⟩
   by_cases hc:figO c=true
   .have hsy:stepY R L M y=[(1,((bW y.cps.toList:Nat):Int),0)]:=by unfold stepY;rw [hw,fL,hc];rfl
    have hAD:=hf hw (by rw [fL];exact hc);rw [hc];walk_at "rd";refine ⟨hAD,by rw [<- lenL,hy];simp,F8,by decide,fun p np=>⟨by decide,fun p1 N1=>?_⟩⟩;refine q p1 _ ((Same.new np).trans (Same.new N1)) ?_;rw [hsy];exact StepAt.one A5 (D1 A5 N1)
   .rw [fX] at hc;rw [hc];walk_at "rd";exact fin (by unfold stepY;rw [fL,hc,Bool.and_false,if_neg M4])
  .rw [if_neg hw];rw [fX] at hw;exact fin (by rw [amF hw])
theorem ah7:FnScope ["made", "place"] ["made", "place"] (C3 oT):=G1
abbrev afO:List Str:=["made", "place"]
theorem vcd:VS afO oT "made" 0:=vq
theorem vce:VS afO oT "place" 1:=vq
theorem ah8(F:FunD K "add_mark" "add_mark" oT f fd)(T:Txt P w K mg C):FnOk P w K mg base E6 1 f fd ["made", "place"] (ag0 K):=by
 refine F.ok ah7 ?_ ?_
 .rintro _ _ _ _ ⟨l,p,H0,es,U,rfl,_⟩;rfl
 .intro cdv A outer s H vs Q E hr h;have C2:=hu_of hr;have hu:=hr.units;refine ⟨_,QSs.out (V1 (qs_if (sT (W7 (K:=K) (vi vcd))) (A7 (O9 (qe_mB (K:=K) Q5 U9 U8 V0 (vi vcd) (qa_c (K7 (qa_c (kG T.g_MARK) (qa_c A4 (qa_c (M7 A3) (qa_c A4 A3))))) A3)))) F7)
   (A7 (O9 (qe_mB (K:=K) Q5 U9 U8 V0 (qe_ix (K:=K) (qe_ix (K:=K) (vi vcd) (qe_un q_neg A4)) A4) (qa_c (vi vce) A3))))),?_⟩
  obtain ⟨l,p,H0,es,U,rfl,J,hU,hM,q⟩:=h;walk_at "rd";refine g8 (fun Y H1=>∃ (es':List (Addr×Addr)) (e:Addr×Addr) (U':List K0) (u:K0),Y=[some (.ref l),some (.int p)]/\UnI H0 H1 l (es'++[e]) (U'++[u])/\addM U p=U'++[(u.1,u.2.1,u.2.2.1++[p],u.2.2.2)]/\u.2.2.1.length<=10000) ?_ ?_
  .walk_at "rd";refine ⟨_,xP J.top,?_⟩
   by_cases he:es=[]
   .subst he;have hU0:=ajt J.row;subst hU0;simp only [List.map_nil,List.isEmpty_nil,Bool.not_true,Bool.not_false,if_true];refine ⟨Q7 J.top,fun m nm=>⟨by decide,fun t nt=>appOk ((Same.new nm).trans (Same.new nt) _ _ J.top) 'h' ⟨[],(t,m),[],(0,0,[],0),?_,rfl,by decide⟩⟩⟩;exact J.push nm nt
   .obtain ⟨es',e,rfl⟩:=oM he;have hUn:U≠[]:=fun h=>by subst h;have:=Paired.length J.row;simp at this
    obtain ⟨U',u,rfl⟩:=oM hUn;have G9:((es'++[e]).map fun e=>V.ref e.1).isEmpty=false:=by simp
    rw [G9];simp only [Bool.not_false,Bool.not_true,mY,if_false];refine ⟨es',e,U',u,J,?_,hM u 'c'⟩;unfold addM;rw [List.getLast?_append,List.getLast?_singleton]
    simp
  rintro Y H1 ⟨es',e,U',u,rfl,J1,ea,hul⟩;obtain ⟨hr,hu⟩:=nS J1.row;have K1:G4 ((es'++[e]).map fun e=>V.ref e.1) (-1)=some (V.ref e.1):=by rw [E2];exact aij _ _
  walk_at "rd";refine ⟨_,.inl (.of J1.top),_,K1,?_⟩;walk_at "rd";refine ⟨_,.inr (.of hu.1),V.ref e.2,N9 (j:=2) rfl,Q7 hu.2,appOk hu.2 (by rw [A6];exact L3 'a') ?_⟩;refine q (es'++[e]) _ ?_;rw [ea];exact J1.mark p
theorem sc_add_part:FnScope ["order", "made", "part", "kind", "worth", "case"] ["order", "made", "part"] (C3 q9):=G1
abbrev lF:List Str:=["order", "made", "part", "kind", "worth", "case"]
theorem vcf:VS lF q9 "order" 0:=vq
theorem vcg:VS lF q9 "made" 1:=vq
theorem vch:VS lF q9 "part" 2:=vq
theorem vci:VS lF q9 "kind" 3:=vq
theorem vcj:VS lF q9 "worth" 4:=vq
theorem vck:VS lF q9 "case" 5:=vq
theorem vcl:LS q9 "kind":=lq
theorem vcm:LS q9 "worth":=lq
theorem vcn:LS q9 "case":=lq
theorem ah9(F:FunD K "add_part" "add_part" q9 f fd)(T:Txt P w K mg C)(G_steps_by:FO P w K mg base 2 "steps_by" ["order", "part"] [] (agZ C))(G_add_mark:FO P w K mg base 1 "add_mark" ["made", "place"] [] (ag0 K)):FnOk P w K mg base E6 3 f fd ["order", "made", "part"] (ag1 C):=by
 refine F.ok sc_add_part ?_ ?_
 .rintro _ _ _ _ ⟨x,l,j,ll,ml,md,c,r,y,g,R,L,M,H0,es,U,rfl,_⟩;rfl
 .intro cdv A outer s H vs Q E hr h;have C2:=hu_of hr;have hu:=hr.units;refine ⟨_,QSs.out (A7 (L6 PassesOwn.never (gJ (K:=K) (C8 G_steps_by (hm hr) (qa_c (vi vcf) (qa_c (vi vch) A3)))) (k5 (K:=K) (n:=3) (O2 ((D3 (n:=3) sc_add_part.nd rfl vcl 'g')) (O2 ((D3 (n:=4) sc_add_part.nd rfl vcm 'g')) (O2 ((D3 (n:=5) sc_add_part.nd rfl vcn 'g')) k4)))) (A7 (qs_if (D6 (q_eq (K:=K) hu) (vi vci) (kG T.g_MARK)) (A7 (O9 (C8 G_add_mark (hm hr) (qa_c (vi vcg) (qa_c (vi vcj) A3))))) (A7 (O9 (qe_mB (K:=K) Q5 U9 U8 V0 (vi vcg) (qa_c (K7 (qa_c (vi vci) (qa_c (vi vcj) (qa_c (M7 A3) (qa_c (vi vck) A3))))) A3)))))))),?_⟩;obtain ⟨x,l,j,ll,ml,md,c,r,y,g,R,L,M,H0,es,U,rfl,hy,F8,hO,hf,J,hs,hU,hM,q⟩:=h;walk_at "rd";refine ⟨x,j,ll,ml,md,c,r,y,g,R,L,M,rfl,hy,F8,hO.same J.same,hf,fun a H1 S1 Q8=>?_⟩;obtain ⟨ts,e1,e2⟩:=Q8.ex;obtain ⟨H0',B0,J0,tp⟩:=(J.more S1).cut;have e1':=tp _ _ e1;have e2':=M5 e2 fun t s (e:H1 t=some (tupT s))=>(show H0' t=some (tupT s) from tp _ _ e)
  generalize stepY R L M y=ss at hs e2 e2' q;refine ⟨a,rfl,⟨_,.of e1⟩,forT (xs:=ts.map V.ref) (fun i Y H2=>∃ (u v w:Option V) (es:List (Addr×Addr)),Y=[some (.ref x),some (.ref l),some (.str y),u,v,w]/\UnI H0' H2 l es ((ss.take i).foldl addS U)) ⟨none,none,none,es,rfl,J0⟩ (by rintro i Y H2 _ ⟨_,_,_,_,_,h⟩;exact .of (h.same _ _ e1')) ?_ ?_⟩
  .rintro i v Y H2 hv ⟨u1,u2,u3,es,rfl,J2⟩;obtain ⟨t,ht,rfl⟩:=G0 hv;obtain ⟨s',vK,vR⟩:=Paired.at e2' ht;have hi:i<ss.length:=(G2.mp vK).1;have R0:=tV (ss.take i) U;have m8:=tW (ss.take i) U 9000 hM;rw [E9] at R0 m8;have et:(ss.take (i+1)).foldl addS U=addS ((ss.take i).foldl addS U) s':=by rw [M8 vK,aJ];rfl
   have iY:C6 K H2 t [V.int s'.1,V.int s'.2.1,V.int s'.2.2]:=.of (J2.same _ _ vR);walk_at "rd";refine ⟨_,iY,rfl,_,_,rfl,_,_,rfl,_,_,rfl,rfl,?_⟩;walk_at "rd";rw [et];generalize (ss.take i).foldl addS U=U2 at J2 R0 m8;refine iteD (fun e=>⟨l,s'.2.1,H0',es,U2,rfl,J2,by lia,fun u hu=>by have:=m8 u hu;lia,fun es' H3 J3=>?_⟩) fun e=>⟨Q7 J2.top,fun m nm=>⟨by decide,fun t2 Z8=>appOk ((Same.new nm).trans (Same.new Z8) _ _ J2.top) (by rw [A6,Paired.length J2.row];exact L3 'a') ?_⟩⟩
   .unfold addS;rw [if_pos e];exact ⟨es',J3⟩
   .unfold addS;rw [if_neg e];exact ⟨_,J2.push nm Z8⟩
  rintro Y H2 ⟨u1,u2,u3,es,rfl,J2⟩;rw [A6,Paired.length e2,K3] at J2;exact q es H2 (J2.base B0)
theorem sc_units:FnScope ["order", "text", "made", "part"] ["order", "text"] (C3 aY):=G1
abbrev uL:List Str:=["order", "text", "made", "part"]
theorem vco:VS uL aY "order" 0:=vq
theorem vcp:VS uL aY "text" 1:=vq
theorem vcq:VS uL aY "made" 2:=vq
theorem vcr:VS uL aY "part" 3:=vq
theorem vcs:LS aY "made":=lq
theorem vct:LS aY "part":=lq
theorem amO(F:FunD K "units" "units" aY f fd)(T:Txt P w K mg C)(G_parts_of:FO P w K mg base 5 "parts_of" ["order", "text"] [] (aiM C))(G_add_part:FO P w K mg base 3 "add_part" ["order", "made", "part"] [] (ag1 C)):FnOk P w K mg base E6 6 f fd ["order", "text"] (ak3 C):=by
 refine F.ok sc_units ?_ ?_
 .rintro _ _ _ _ ⟨x,j,ll,ml,md,z,g,R,L,M,rfl,_⟩;rfl
 .intro cdv A outer s H vs Q E hr h;have C2:=hu_of hr;have hu:=hr.units;refine ⟨_,QSs.out (A8 (C7 (n:=2) sc_units.nd rfl vcs (M7 A3))
   (A8 (L6 PassesOwn.never (P5 (K:=K) (C8 G_parts_of (hm hr) (qa_c (vi vco) (qa_c (vi vcp) A3)))) (D3 (n:=3) sc_units.nd rfl vct 'g') (A7 (O9 (C8 G_add_part (hm hr) (qa_c (vi vco) (qa_c (vi vcq) (qa_c (vi vcr) A3)))))))
   (A7 (E4 (k7  (T9:CompOk ["order", "text", "made", "part"] (C3 aY).names _ ["kind", "worth", "marks", "case"] 4 []) (P5 (K:=K) (vi vcq)) (fun _ _ _ _ _=>(k5 (K:=K) (n:=4) (O2 (D3 (n:=0) (show List.Nodup (["kind", "worth", "marks", "case"]:List Str) by decide +kernel) rfl (Or.inl rfl)) (O2 (D3 (n:=1) (show List.Nodup (["kind", "worth", "marks", "case"]:List Str) by decide +kernel) rfl (Or.inl rfl)) (O2 (D3 (n:=2) (show List.Nodup (["kind", "worth", "marks", "case"]:List Str) by decide +kernel) rfl (Or.inl rfl)) (O2 (D3 (n:=3) (show List.Nodup (["kind", "worth", "marks", "case"]:List Str) by decide +kernel) rfl (Or.inl rfl)) k4)))))) (fun _ _ _ _ _=>k6) (fun _ _ _ _ _=>(K7 (qa_c (qv 0) (qa_c (qv 1) (qa_c (qe_cT (nX (K:=K)) T.b_tuple nM (qa_c (qv 2) A3)) (qa_c (qv 3) A3))))))))))),?_⟩
  obtain ⟨x,j,ll,ml,md,z,g,R,L,M,rfl,hO,hk,hz,hw,hs,q⟩:=h;have hf:=zC (w:=hasW R "figures") (g:=E5 R) _ z.cps.toList (B5 _);have G9:=zA (w:=hasW R "figures") (g:=E5 R) _ z.cps.toList (B5 _);have dC:=(tS (w:=hasW R "figures") (g:=E5 R) _ z.cps.toList (B5 _)).2.1;rw [lenL] at dC;have T0:=zB (w:=hasW R "figures") (g:=E5 R) _ z.cps.toList (B5 _);rw [lenL] at T0;walk_at "rd";intro l nl;have S1:Same H (A0 H l (.lst [])):=Same.new nl;have qF:A0 H l (.lst []) l=some (.lst []):=A5;generalize A0 H l (.lst [])=H1 at S1 qF;refine ⟨x,j,ll,ml,md,z,g,R,L,M,rfl,hO.same S1,hk,by lia,hw,fun a H2 na S2 ha=>?_⟩;generalize (cutF 'f' (E5 R) z.cps.toList).2=ps at ha hf G9 dC T0 q;have nal:a≠l:=fun e=>by rw [e,qF] at na;cases na
  have C0:UnI (cutH H2 [l]) H2 l [] []:=⟨S2 _ _ qF,.nil,by simp,fun b hb=>by unfold cutH;exact if_pos (by simpa using hb),oK _ _⟩
  have S0:Same H (cutH H2 [l]):=fun b o hb=>by
   unfold cutH;rw [if_neg (fun e=>by rw [F6.mp e,nl] at hb;cases hb)];exact S2 _ _ (S1 _ _ hb)
  have ha0:cutH H2 [l] a=some (.lst (ps.map V.str)):=by
   unfold cutH;rw [if_neg (fun e=>nal (F6.mp e))];exact ha
  have hO0:=hO.same S0;generalize cutH H2 [l]=H0 at C0 S0 ha0 hO0;refine ⟨a,rfl,⟨_,.of ha⟩,forL (xs:=ps.map V.str) (fun i Y H3=>∃ (u:Option V) (es:List (Addr×Addr)),Y=[some (.ref x),some (.str z),some (.ref l),u]/\UnI H0 H3 l es (P1 (stepY R L M) (ps.take i))) ⟨none,[],rfl,C0⟩ (by rintro i Y H3 _ ⟨_,_,_,h⟩;exact .of (h.same _ _ ha0)) ?_ ?_⟩
  .rintro i v Y H3 hv ⟨u,es,rfl,J⟩;obtain ⟨y,hy,rfl⟩:=G0 hv;have hi:i<ps.length:=(G2.mp hy).1;have Y4:=N2 hy;obtain ⟨C2,t7⟩:=tX (S:=stepY R L M) hs (ps.take i);rw [E9] at C2 t7;obtain ⟨c,r,wA⟩:∃ c r,y.cps.toList=c::r:=by
    have:=G9 y Y4
    rw [<- lenL] at this;cases e:y.cps.toList with
    | nil=>rw [e] at this;simp at this
    | cons c r=>exact ⟨c,r,rfl⟩
   have F8:y.length<=640:=by have:=T0 y Y4;lia
   walk_at "rd";refine ⟨x,l,j,ll,ml,md,c,r,y,g,R,L,M,H0,es,_,rfl,wA,F8,hO0,hf y Y4,J,by have:=hs y;lia,by lia,fun v hv=>by have:=t7 v hv;lia,fun es' H4 J4=>?_⟩;rw [<- ae1 hy] at J4;exact ⟨es',J4⟩
  rintro Y H3 ⟨u,es,rfl,J⟩;rw [A6,K3] at J;obtain ⟨C2,t7⟩:=tX (S:=stepY R L M) hs ps;have Z3:=Paired.length J.row;generalize P1 (stepY R L M) ps=U at J C2 t7 Z3 q;walk_at "rd";refine ⟨⟨_,.of J.top⟩,arC (xs:=es.map fun e=>V.ref e.1) [] rfl (fun D i ys H4=>∃ fs:List (Addr×Addr),ys=fs.map (fun e=>V.ref e.1)/\Same H3 H4/\Paired (fun e (u:K0)=>H4 e.1=some (.tup [.int u.1,.int u.2.1,.ref e.2,.int u.2.2.2])/\H4 e.2=some (.tup (u.2.2.1.map V.int))) fs (U.take i)) (fun D nD=>⟨[],rfl,Same.new nD,.nil⟩) (by rintro D i ys H4 nD _ ⟨_,_,S,_⟩;exact .of (S _ _ J.top)) ?_ ?_⟩
  .rintro D i v ys H4 nD hi hv ⟨fs,rfl,S4,P⟩ hD F8;obtain ⟨e,he,rfl⟩:=G0 hv;obtain ⟨w,hw,fM⟩:=Paired.at J.row he;have m9:fs.length<=7500:=by
    have:=Paired.length P
    rw [E9] at this;lia
   refine ⟨e.1,_,_,_,_,rfl,.of (S4 _ _ fM.1),?_⟩;walk_at "rd";refine rTupR.l (.of (S4 _ _ fM.2)) fun m nm=>⟨by decide,fun t nt=>?_⟩
   have S5:Same H4 (A0 (A0 H4 m (.tup (w.2.2.1.map V.int))) t (.tup [V.int w.1,V.int w.2.1,V.ref m,V.int w.2.2.2])):=(Same.new nm).trans (Same.new nt);have hm5:A0 (A0 H4 m (.tup (w.2.2.1.map V.int))) t (.tup [V.int w.1,V.int w.2.1,V.ref m,V.int w.2.2.2]) m=some (.tup (w.2.2.1.map V.int)):=D1 A5 nt;have aE:A0 (A0 H4 m (.tup (w.2.2.1.map V.int))) t (.tup [V.int w.1,V.int w.2.1,V.ref m,V.int w.2.2.2]) t=some (.tup [V.int w.1,V.int w.2.1,V.ref m,V.int w.2.2.2]):=A5;generalize A0 (A0 H4 m (.tup (w.2.2.1.map V.int))) t (.tup [V.int w.1,V.int w.2.1,V.ref m,V.int w.2.2.2])=H5 at S5 hm5 aE;have hD5:=S5 _ _ hD;have dn:∀ {b:Addr} {xs:List V},H5 b=some (.tup xs)->b≠D:=fun h q=>by rw [q,hD5] at h;cases h
   refine ⟨hD5,by rw [A6];exact L3 'a',hi,by rw [C4,N3];lia,⟨_,_,_,_,rfl⟩,fs++[(t,m)],by rw [E2];rfl,(S4.trans S5).put nD,?_⟩;rw [M8 hw];refine Paired.snoc (M5 P fun f w h=>⟨?_,?_⟩) ⟨?_,?_⟩
   .rw [B1 (dn (S5 _ _ h.1))];exact S5 _ _ h.1
   .rw [B1 (dn (S5 _ _ h.2))];exact S5 _ _ h.2
   .rw [B1 (dn aE)];exact aE
   .rw [B1 (dn hm5)];exact hm5
  rintro D ys H4 nD ⟨fs,rfl,S4,P⟩ hD F8;rw [A6,Z3,K3] at P;have SS:Same H H3:=S0.trans J.same;exact q D H4 (SS.free nD) (SS.trans S4) ⟨fs,hD,P⟩
theorem sc_looks:FnScope ["order", "text", "made", "marks"] ["order", "text"] (C3 r8):=G1
abbrev uM:List Str:=["order", "text", "made", "marks"]
theorem vcu:VS uM r8 "order" 0:=vq
theorem vcv:VS uM r8 "text" 1:=vq
theorem vcw:VS uM r8 "made" 2:=vq
theorem vcx:VS uM r8 "marks" 3:=vq
theorem vcy:LS r8 "made":=lq
theorem vcz:LS r8 "marks":=lq
theorem amP(F:FunD K "looks" "looks" r8 f fd)(T:Txt P w K mg C)(G_units:FO P w K mg base 6 "units" ["order", "text"] [] (ak3 C)):FnOk P w K mg base E6 7 f fd ["order", "text"] (alf C):=by
 refine F.ok sc_looks ?_ ?_
 .rintro _ _ _ _ ⟨x,j,ll,ml,md,z,g,R,L,M,rfl,_⟩;rfl
 .intro cdv A outer s H vs Q E hr h;have C2:=hu_of hr;have hu:=hr.units;refine ⟨_,QSs.out (A8 (C7 (n:=2) sc_looks.nd rfl vcy (C8 G_units (hm hr) (qa_c (vi vcu) (qa_c (vi vcv) A3))))
   (A8 (gK (n:=3) sc_looks.nd rfl vcz (T9:CompOk ["order", "text", "made", "marks"] (C3 r8).names _ ["unit"] 1 []) (P5 (K:=K) (vi vcw)) (fun _ _ _ _ _=>D3 (n:=0) (show List.Nodup (["unit"]:List Str) by decide +kernel) rfl (Or.inl rfl)) (fun _ _ _ _ _=>k6) (fun _ _ _ _ _=>(qe_ix (K:=K) (qv 0) A4)))
   (V1 (qs_if (W7 (K:=K) (v9 (K:=K) (vi vcu))) (A7 (O9 (qe_m0 (K:=K) Q5 PySem.F.slot_list_reverse PySem.F.type_list_reverse akr (vi vcx)))) F7)
   (A7 (E4 (M7 (qa_c (k7  (T9:CompOk ["order", "text", "made", "marks"] (C3 r8).names _ ["unit"] 1 []) (P5 (K:=K) (vi vcw)) (fun _ _ _ _ _=>D3 (n:=0) (show List.Nodup (["unit"]:List Str) by decide +kernel) rfl (Or.inl rfl)) (fun _ _ _ _ _=>k6) (fun _ _ _ _ _=>(L9 (K:=K) (qv 0) O4 (I0 A4)))) (qa_c (vi vcx) (qa_c (k7  (T9:CompOk ["order", "text", "made", "marks"] (C3 r8).names _ ["unit"] 1 []) (P5 (K:=K) (vi vcw)) (fun _ _ _ _ _=>D3 (n:=0) (show List.Nodup (["unit"]:List Str) by decide +kernel) rfl (Or.inl rfl)) (fun _ _ _ _ _=>k6) (fun _ _ _ _ _=>(qe_ix (K:=K) (qv 0) A4))) (qa_c (vi vcv) A3)))))))))),?_⟩
  obtain ⟨x,j,ll,ml,md,z,g,R,L,M,rfl,hO,hk,hz,hw,hs,q⟩:=h;obtain ⟨b1,b2,b3⟩:=zG hs (w:=hasW R "figures") (ks:=E5 R) (y:=z) hz;walk_at "rd";refine ⟨x,j,ll,ml,md,z,g,R,L,M,rfl,hO,hk,hz,hw,hs,fun u H1 nu S1 hU=>?_⟩;generalize P1 (stepY R L M) (cutF 'f' (E5 R) z.cps.toList).2=U at *;obtain ⟨es,e1,e2⟩:=hU;have Z3:=Paired.length e2;walk_at "rd";refine ⟨⟨_,.of e1⟩,compL (xs:=es.map fun e=>V.ref e.1) [] rfl (fun D i ys H2=>Same H1 H2/\ys=(es.take i).map fun e=>V.ref e.2) (fun D nD=>⟨Same.new nD,rfl⟩) (by rintro D i ys H2 nD _ ⟨S,_⟩;exact .of (S _ _ e1)) ?_ ?_⟩
  .rintro D i y ys H2 nD hi hy ⟨S2,rfl⟩ hD F8;obtain ⟨e,he,rfl⟩:=G0 (f:=fun e:Addr×Addr=>V.ref e.1) hy;obtain ⟨w,wB,fM⟩:=Paired.at e2 he;have vT:i<es.length:=(G2.mp he).1;walk_at "rd";refine ⟨_,.inr (.of (S2 _ _ fM.1)),V.ref e.2,N9 (j:=2) rfl,hD,by simp only [A6,E9];exact L3 'a',CW.put hi F8 ⟨S2.put nD,?_⟩⟩;rw [M8 he,E2];rfl
  rintro D ys H2 nD ⟨S2,rfl⟩ hD _;rw [A6,K3] at hD;have fB:=aei e2;refine g8 (fun Y H'=>Y=[some (.ref x),some (.str z),some (.ref u),some (.ref D)]/\Same H1 H'/\∃ qM:List Addr,H' D=some (.lst (qM.map V.ref))/\Paired (fun c (x:List Int)=>H1 c=some (.tup (x.map V.int))) qM ((if hasW R "behind"=true then U.reverse else U).map fun u=>u.2.2.1)) ?_ ?_
  .obtain ⟨dx,ho⟩:=hO.ob;walk_at "rd";refine ⟨_,_,_,S2 _ _ (S1 _ _ ho),T.cl,T.na_behind,_,ahz _ _ _ _ _ _,_,rfl,?_⟩
   by_cases hb:hasW R "behind"=true
   .rw [if_pos hb,if_pos hb];refine ⟨Q7 hD,D,_,rfl,rfl,hD,S2.put nD,(es.map (·.2)).reverse,?_,?_⟩
    .rw [A5,List.map_reverse,b0];rfl
    .rw [List.map_reverse];exact afL fB
   .rw [if_neg hb,if_neg hb];refine ⟨S2,es.map (·.2),?_,fB⟩;rw [hD,b0];rfl
  rintro Y H3 ⟨rfl,S3,qM,hD3,hP3⟩;clear hD S2 fB;have lT:=S3 _ _ e1;walk_at "rd";refine ⟨⟨_,.of lT⟩,compL (xs:=es.map fun e=>V.ref e.1) [] rfl (fun D i ys H2=>Same H3 H2/\∃ as:List Addr,ys=as.map V.ref/\Paired (fun c (x:List Int)=>H2 c=some (.tup (x.map V.int))/\H3 c=none/\c≠D) as ((U.take i).map fun u=>[u.1,u.2.1])) (fun D nD=>⟨Same.new nD,[],rfl,.nil⟩) (by rintro D i ys H2 nD _ ⟨S,_⟩;exact .of (S _ _ lT)) ?_ ?_⟩
  .rintro D i y ys H2 nD2 hi hy ⟨S2,as,rfl,hP⟩ hD F8;obtain ⟨e,he,rfl⟩:=G0 (f:=fun e:Addr×Addr=>V.ref e.1) hy;obtain ⟨w,wB,fM⟩:=Paired.at e2 he;have vT:i<es.length:=(G2.mp he).1;have mD:=Paired.length hP;rw [A6,E9] at mD;walk_at "rd";refine rSlR.t (.of (S2 _ _ (S3 _ _ fM.1))) (by simp [HT.sIx]) fun p np=>?_
   rw [show cutV [V.int w.1,V.int w.2.1,V.ref e.2,V.int w.2.2.2] none (some 2)=[w.1,w.2.1].map V.int from aS _ 2];have S4:Same H2 (A0 H2 p (.tup ([w.1,w.2.1].map V.int))):=Same.new np;have fD:A0 H2 p (.tup ([w.1,w.2.1].map V.int)) p=some (.tup ([w.1,w.2.1].map V.int)):=A5;have hpD:p≠D:=fun e=>by rw [e,hD] at np;cases np
   generalize A0 H2 p (.tup ([w.1,w.2.1].map V.int))=H4 at S4 fD;refine ⟨S4 _ _ hD,by rw [A6];exact L3 'a',CW.put hi F8 ⟨(S2.trans S4).put nD2,as++[p],by rw [E2];rfl,?_⟩⟩;rw [M8 wB,E2];exact Paired.snoc (M5 hP fun c x ⟨h1,h2,h3⟩=>⟨by rw [B1 h3];exact S4 _ _ h1,h2,h3⟩) ⟨by rw [B1 hpD];exact fD,S2.free np,hpD⟩
  rintro D4 ys H4 nD4 ⟨S4,as1,rfl,hP4⟩ hD4 _;rw [A6,Z3,K3] at hP4;have hi4:=S4 _ _ lT;refine ⟨⟨_,.of hi4⟩,compL (xs:=es.map fun e=>V.ref e.1) [] rfl (fun D i ys H2=>Same H4 H2/\ys=((U.take i).map fun u=>u.2.2.2).map V.int) (fun D nD=>⟨Same.new nD,rfl⟩) (by rintro D i ys H2 nD _ ⟨S,_⟩;exact .of (S _ _ hi4)) ?_ ?_⟩
  .rintro D i y ys H2 nD2 hi hy ⟨S2,rfl⟩ hD F8;obtain ⟨e,he,rfl⟩:=G0 (f:=fun e:Addr×Addr=>V.ref e.1) hy;obtain ⟨w,wB,fM⟩:=Paired.at e2 he;have vT:i<es.length:=(G2.mp he).1;walk_at "rd";refine ⟨_,.inr (.of (S2 _ _ (S4 _ _ (S3 _ _ fM.1)))),V.int w.2.2.2,N9 (j:=3) rfl,hD,by simp only [A6,E9];exact L3 'a',CW.put hi F8 ⟨S2.put nD2,?_⟩⟩;rw [M8 wB,E2,E2];rfl
  rintro D5 ys H5 nD5 ⟨S5,rfl⟩ hD5 _;rw [A6,Z3,K3] at hD5;refine ⟨by decide,fun p np=>?_⟩;have S6:Same H5 (A0 H5 p (.lst [V.ref D4,V.ref D,V.ref D5,V.str z])):=Same.new np;have mF:=S4.trans (S5.trans S6);refine q p _ ((S1.trans (S3.trans (S4.trans S5))).free np) (S1.trans (S3.trans mF)) ⟨_,A5,.cons ?_ (.cons ?_ (.cons ?_ (.cons rfl .nil)))⟩
  .exact ⟨D4,as1,rfl,(S5.trans S6) _ _ hD4,M5 hP4 fun c x h=>(S5.trans S6) _ _ h.1⟩
  .exact ⟨D,qM,rfl,mF _ _ hD3,M5 hP3 fun c x h=>mF _ _ (S3 _ _ h)⟩
  .exact ⟨D5,rfl,S6 _ _ hD5⟩
theorem sc_compare:FnScope ["order", "one", "other", "strength", "ours", "theirs", "level"] ["order", "one", "other", "strength"] (C3 Z2):=G1
abbrev hX:List Str:=["order", "one", "other", "strength", "ours", "theirs", "level"]
theorem vcA:VS hX Z2 "order" 0:=vq
theorem vcB:VS hX Z2 "one" 1:=vq
theorem vcC:VS hX Z2 "other" 2:=vq
theorem vcD:VS hX Z2 "strength" 3:=vq
theorem vcE:VS hX Z2 "ours" 4:=vq
theorem vcF:VS hX Z2 "theirs" 5:=vq
theorem uN:VS hX Z2 "level" 6:=vq
theorem vcH:LS Z2 "ours":=lq
theorem vcI:LS Z2 "theirs":=lq
theorem vcJ:LS Z2 "level":=lq
theorem afP(F:FunD K "compare" "compare" Z2 f fd)(T:Txt P w K mg C)(G_looks:FO P w K mg base 7 "looks" ["order", "text"] [] (alf C)):FnOk P w K mg base E6 8 f fd ["order", "one", "other", "strength"] (kZ C):=by
 refine F.ok sc_compare ?_ ?_
 .rintro _ _ _ _ ⟨x,j,ll,ml,md,z,z',n,g,R,L,M,rfl,_⟩;rfl
 .intro cdv A outer s H vs Q E hr h;have C2:=hu_of hr;have hu:=hr.units;refine ⟨_,QSs.out (A8 (C7 (n:=4) sc_compare.nd rfl vcH (C8 G_looks (hm hr) (qa_c (vi vcA) (qa_c (vi vcB) A3))))
   (A8 (C7 (n:=5) sc_compare.nd rfl vcI (C8 G_looks (hm hr) (qa_c (vi vcA) (qa_c (vi vcC) A3))))
   (A8 (L6 PassesOwn.never (qi_r1 T.b_range (qa_c (vi vcD) A3)) (D3 (n:=6) sc_compare.nd rfl vcJ 'g') (A7 (qs_if (D6 (q_ne (K:=K) hu) (qe_ix (K:=K) (vi vcE) (vi uN)) (qe_ix (K:=K) (vi vcF) (vi uN))) (A7 (E4 (aiq (D6 (q_ltK hu (K:=K)) (qe_ix (K:=K) (vi vcE) (vi uN)) (qe_ix (K:=K) (vi vcF) (vi uN))) (qe_un q_neg A4) A4))) F7)))
   (A7 (E4 A4))))),?_⟩
  obtain ⟨x,j,ll,ml,md,z,z',n,g,R,L,M,rfl,hn,hO,hk,hz,eY,hw,iZ,hs,q⟩:=h;walk_at "rd";refine ⟨x,j,ll,ml,md,z,g,R,L,M,rfl,hO,hk,hz,hw,hs,fun l H1 nl S1 hl=>?_⟩;refine ⟨x,j,ll,ml,md,z',g,R,L,M,rfl,hO.same S1,hk,eY,iZ,hs,fun l' H2 nl' S2 wC=>?_⟩;have hkd:=ahR (hasW R "behind") (hasW R "behind") (P1 (stepY R L M) (cutF 'f' (E5 R) z.cps.toList).2) (P1 (stepY R L M) (cutF 'f' (E5 R) z'.cps.toList).2) z z';have R0:=hl.same S2;have A9:(U0 (hasW R "behind") (P1 (stepY R L M) (cutF 'f' (E5 R) z.cps.toList).2) z).length=4:=rfl;have hlen':(U0 (hasW R "behind") (P1 (stepY R L M) (cutF 'f' (E5 R) z'.cps.toList).2) z').length=4:=rfl;unfold W4 at q;generalize U0 (hasW R "behind") (P1 (stepY R L M) (cutF 'f' (E5 R) z.cps.toList).2) z=ds at *;generalize U0 (hasW R "behind") (P1 (stepY R L M) (cutF 'f' (E5 R) z'.cps.toList).2) z'=ds' at *;obtain ⟨vs,v1,v2⟩:=R0;obtain ⟨vs',w1,w2⟩:=wC;have z1:=Paired.length v2;have z2:=Paired.length w2;refine ⟨by lia,by lia,forRs (fun i Y H'=>(∃ u:Option V,Y=[some (.ref x),some (.str z),some (.str z'),some (.int n),some (.ref l),some (.ref l'),u])/\H'=H2/\∀ k<i,ds[k]?=ds'[k]?) ⟨⟨none,rfl⟩,rfl,by simp⟩ ?_ ?_⟩
  .rintro P' Bk hP i Y H' hi ⟨⟨u,rfl⟩,rfl,fA⟩;have L1:i<n:=by simpa using hi
   have a1:vs[i]?=some vs[i]:=K8 'a';have a2:vs'[i]?=some vs'[i]:=K8 'a';obtain ⟨d,hd,ld⟩:=Paired.at v2 a1;obtain ⟨d',iJ,ld'⟩:=Paired.at w2 a2;have kd:=hkd i d d' hd iJ;generalize vs[i]=v at *;generalize vs'[i]=v' at *;have i1:G4 vs (0+(i:Int))=some v:=by rw [bX];exact N9 a1
   have i2:G4 vs' (0+(i:Int))=some v':=by rw [bX];exact N9 a2
   walk_at "rd";refine ⟨_,.inl (.of v1),_,i1,_,.inl (.of w1),_,i2,LvAt.ne ld ld' kd ⟨_,rfl,?_⟩⟩
   by_cases rB:d=d'
   .rw [if_neg (by simp [rB])];refine hP _ _ _ ⟨⟨_,rfl⟩,rfl,fun k hk=>?_⟩
    by_cases iT:k=i
    .rw [iT,hd,iJ,rB]
    .exact fA k 'a'
   .rw [if_pos (by simp [rB])];have hq:=q H' (S1.trans S2);rw [uD L1 hd iJ fA rB] at hq;unfold cmpD at hq;rw [if_neg rB] at hq;refine ⟨_,.inl (.of v1),_,i1,_,.inl (.of w1),_,i2,LvAt.lt ld ld' kd ⟨_,rfl,?_⟩⟩
    by_cases C9:d.lt d'=true
    .rw [if_pos C9] at hq ⊢
     exact hq
    .rw [if_neg C9] at hq ⊢
     exact hq
  rintro Y H' ⟨⟨u,rfl⟩,rfl,fA⟩;walk_at "rd"
  have:=q H' (S1.trans S2)
  rw [uE (by simpa using fA)] at this;exact this
theorem ahj:FnScope ["_law_script", "_law_k"] ["_law_script", "_law_k"] (C3 oU):=G1
abbrev afd:List Str:=["_law_script", "_law_k"]
theorem vcK:VS afd oU "_law_script" 0:=vq
theorem vcL:VS afd oU "_law_k" 1:=vq
theorem ahk(F:FunD K "_law_cell_at" "_law_cell_at" oU f fd)(T:Txt P w K mg C):FnOk P w K mg base E6 1 f fd ["_law_script", "_law_k"] (kL K):=by
 refine F.ok ahj ?_ ?_
 .rintro _ _ _ _ ⟨a,ns,k,rfl,_⟩;rfl
 .intro cdv A outer s H vs Q E hr h;have C2:=hu_of hr;have hu:=hr.units;refine ⟨_,QSs.out (A8 (qs_if (D6 q_lt (vi vcL) (qe_cB (q_len (K:=K)) T.b_len P3 (qa_c (vi vcK) A3))) (A7 (E4 (qe_ix (K:=K) (vi vcK) (vi vcL)))) F7)
   (A7 (E4 A4))),?_⟩
  obtain ⟨a,ns,k,rfl,hS,hk,q⟩:=h;walk_at "rd";unfold cellF at q;refine ⟨ns.length,.inl ⟨_,hS,by rw [A6]⟩,iteD (fun C9=>?_) fun lU=>?_⟩
  .rw [if_pos C9] at q;have hi:k.toNat<ns.length:=by lia
   refine ⟨_,.inl hS,V.int (ns.getD k.toNat 0),?_,q⟩;have e:((k.toNat:Nat):Int)=k:=by lia
   have h1:G4 (ns.map V.int) ((k.toNat:Nat):Int)=some (V.int (ns.getD k.toNat 0)):=N9 (by rw [T8,dM,K8 hi];rfl);rw [e] at h1;exact h1
  .rw [if_neg lU] at q;exact q
theorem sc_l_sign:FnScope ["_law_script", "_law_k", "_law_some", "_law_step"] ["_law_script", "_law_k"] (C3 cL):=G1
abbrev uO:List Str:=["_law_script", "_law_k", "_law_some", "_law_step"]
theorem vcM:VS uO cL "_law_script" 0:=vq
theorem vcN:VS uO cL "_law_k" 1:=vq
theorem vcO:VS uO cL "_law_some" 2:=vq
theorem vcP:VS uO cL "_law_step" 3:=vq
theorem vcQ:LS cL "_law_some":=lq
theorem vcR:LS cL "_law_step":=lq
theorem alr(F:FunD K "_law_sign" "_law_sign" cL f fd)(T:Txt P w K mg C)(G_l_cell_at:FO P w K mg base 1 "_law_cell_at" ["_law_script", "_law_k"] [] (kL K)):FnOk P w K mg base E6 2 f fd ["_law_script", "_law_k"] (spSgn K):=by
 refine F.ok sc_l_sign ?_ ?_
 .rintro _ _ _ _ ⟨a,ns,k,rfl,_⟩;rfl
 .intro cdv A outer s H vs Q E hr h;have C2:=hu_of hr;have hu:=hr.units;refine ⟨_,QSs.out (A8 (C7 (n:=2) sc_l_sign.nd rfl vcQ G5)
   (A8 (C7 (n:=3) sc_l_sign.nd rfl vcR (qe_ix (K:=K) (M7 (qa_c A4 (qa_c A4 (qa_c A4 (qa_c A4 (qa_c A4 (qa_c A4 (qa_c A4 (qa_c A4 (qa_c A4 (qa_c A4 (qa_c A4 (qa_c A4 A3))))))))))))) (qe_op q_mod (C8 G_l_cell_at (hm hr) (qa_c (vi vcM) (qa_c A4 A3))) A4)))
   (V1 (qs_if (D6 (q_eq (K:=K) hu) (qe_op q_mod (qe_op L7 (C8 G_l_cell_at (hm hr) (qa_c (vi vcM) (qa_c A4 A3))) A4) A4) A4) (A7 (C7 (n:=2) sc_l_sign.nd rfl vcQ (qe_op 'i' (vi vcO) G5))) F7)
   (A7 (E4 (qe_ix (K:=K) (vi vcO) (qe_op q_mod (qe_op 'i' (C8 G_l_cell_at (hm hr) (qa_c (vi vcM) (qa_c A4 A3))) (qe_op q_mul (vi vcN) (vi vcP))) (qe_cB (q_len (K:=K)) T.b_len P3 (qa_c (vi vcO) A3))))))))),?_⟩
  obtain ⟨a,ns,k,rfl,hS,hk,q⟩:=h;walk_at "rd";refine ⟨by decide,fun p np=>⟨a,ns,1,rfl,(Same.new np).seq hS,by decide,_,rfl,_,.inl (.of A5),V.int (w6 ns),(yF ns).1,g8 (fun Y H2=>∃ z:Str,Y=[some (.ref a),some (.int k),some (.str z),some (.int (w6 ns))]/\Same H H2/\z.cps.toList=listF (Q0 ns)) ?_ ?_⟩⟩
  .walk_at "rd";refine ⟨a,ns,1,rfl,(Same.new np).seq hS,by decide,_,rfl,iteD (fun e=>⟨by decide,Same.new np,?_⟩) fun e=>⟨Same.new np,?_⟩⟩
   .unfold Q0;rw [decide_eq_true e];exact SB_eq
   .unfold Q0;rw [decide_eq_false e];exact SA_eq
  rintro Y H2 ⟨z,rfl,S,hz⟩;have Q8:=aoH ns;have N0:(z.length:Int)=lenF (Q0 ns):=by rw [<- tE,<- hz];simp [Str.length]
  have hp:=yE (Q0 ns);have K1:=(anb ns k).1;rw [<- hz,<- N0] at K1;have hsz:z.length<=sizeLine:=O8 'a';walk_at "rd";refine ⟨a,ns,0,rfl,S.seq hS,by decide,.inr ⟨by lia,by lia⟩,?_⟩;walk_at "rd";exact ⟨hsz,by lia,hsz,_,K1,q _ S⟩
theorem sc_l_letters:FnScope ["_law_script", "_law_cell", "_law_many", "_law_found", "_law_k", "_law_number", "_law_piece", "_law_at"] ["_law_script"] (C3 W3):=G1
abbrev eN:List Str:=["_law_script", "_law_cell", "_law_many", "_law_found", "_law_k", "_law_number", "_law_piece", "_law_at"]
theorem vcS:VS eN W3 "_law_script" 0:=vq
theorem uP:VS eN W3 "_law_cell" 1:=vq
theorem uQ:VS eN W3 "_law_many" 2:=vq
theorem pD:VS eN W3 "_law_found" 3:=vq
theorem vcW:VS eN W3 "_law_k" 4:=vq
theorem vcX:VS eN W3 "_law_number" 5:=vq
theorem vcY:VS eN W3 "_law_piece" 6:=vq
theorem vcZ:VS eN W3 "_law_at" 7:=vq
theorem vc0:LS W3 "_law_cell":=lq
theorem vc1:LS W3 "_law_many":=lq
theorem vc2:LS W3 "_law_found":=lq
theorem vc3:LS W3 "_law_k":=lq
theorem vc4:LS W3 "_law_number":=lq
theorem vc5:LS W3 "_law_piece":=lq
theorem vc6:LS W3 "_law_at":=lq
theorem ahl(F:FunD K "_law_letters" "_law_letters" W3 f fd)(T:Txt P w K mg C)(G_l_cell_at:FO P w K mg base 1 "_law_cell_at" ["_law_script", "_law_k"] [] (kL K))(G_l_sign:FO P w K mg base 2 "_law_sign" ["_law_script", "_law_k"] [] (spSgn K)):FnOk P w K mg base E6 3 f fd ["_law_script"] (afD K):=by
 refine F.ok sc_l_letters ?_ ?_
 .rintro _ _ _ _ ⟨a,ns,rfl,_⟩;rfl
 .intro cdv A outer s H vs Q E hr h;have C2:=hu_of hr;have hu:=hr.units;refine ⟨_,QSs.out (A8 (C7 (n:=1) sc_l_letters.nd rfl vc0 (C8 G_l_cell_at (hm hr) (qa_c (vi vcS) (qa_c A4 A3))))
   (A8 (C7 (n:=2) sc_l_letters.nd rfl vc1 (qe_op 'i' A4 (qe_op q_mod (vi uP) A4)))
   (V1 (qs_if (D6 (q_eq (K:=K) hu) (qe_op q_mod (qe_op L7 (vi uP) A4) A4) A4) (A7 (C7 (n:=2) sc_l_letters.nd rfl vc1 (qe_op 'i' (vi uQ) A4))) F7)
   (A8 (gK (n:=3) sc_l_letters.nd rfl vc2 (T9:CompOk ["_law_script", "_law_cell", "_law_many", "_law_found", "_law_k", "_law_number", "_law_piece", "_law_at"] (C3 W3).names _ ["_law_k", "_law_script"] 1 [0]) (qi_r1 T.b_range (qa_c (vi uQ) A3)) (fun _ _ _ _ _=>D3 (n:=0) (show List.Nodup (["_law_k", "_law_script"]:List Str) by decide +kernel) rfl (Or.inl rfl)) (fun _ _ _ _ _=>k6) (fun _ _ _ _ _=>(C8 G_l_sign (hm hr) (qa_c (qv 1) (qa_c (qv 0) A3)))))
   (A8 (L6 PassesOwn.never (qi_r1 T.b_range (qa_c (qe_op q_mod (qe_op L7 (vi uP) A4) A4) A3)) (D3 (n:=4) sc_l_letters.nd rfl vc3 'g') (A8 (C7 (n:=5) sc_l_letters.nd rfl vc4 (qe_op q_mod (qe_op q_mul (qe_op L7 (vi uP) A4) (qe_ix (K:=K) (M7 (qa_c A4 (qa_c A4 (qa_c A4 A3)))) (vi vcW))) A4))
   (A8 (C7 (n:=6) sc_l_letters.nd rfl vc5 (qe_op 'i' (C8 G_l_sign (hm hr) (qa_c (vi vcS) (qa_c (qe_op q_mod (vi vcX) (vi uQ)) A3))) (C8 G_l_sign (hm hr) (qa_c (vi vcS) (qa_c (qe_op q_mod (qe_op L7 (vi vcX) A4) (vi uQ)) A3)))))
   (A8 (C7 (n:=7) sc_l_letters.nd rfl vc6 (qe_op q_mod (qe_op L7 (vi vcX) A4) (qe_op 'i' (qe_cB (q_len (K:=K)) T.b_len P3 (qa_c (vi pD) A3)) A4)))
   (A7 (qs_if (D6 (sV (K:=K) hu) (vi vcY) (vi pD)) (A7 (C7 (n:=3) sc_l_letters.nd rfl vc2 (qe_op 'i' (qe_op 'i' (L9 (K:=K) (vi pD) O4 (I0 (vi vcZ))) (M7 (qa_c (vi vcY) A3))) (L9 (K:=K) (vi pD) (I0 (vi vcZ)) O4)))) F7))))))
   (A7 (E4 (vi pD)))))))),?_⟩
  obtain ⟨a,ns,rfl,hS,q⟩:=h;walk_at "rd";refine ⟨a,ns,2,rfl,hS,by decide,?_⟩;generalize cellF ns 2=c;walk_at "rd";refine g8 (fun Y H2=>∃ n:Int,Y=[some (.ref a),some (.int c),some (.int n),none,none,none,none,none]/\H2=H/\2<=n/\n<=16) ?_ ?_
  .walk_at "rd";exact iteD (fun _=>by lia) fun _=>by lia
  rintro Y H2 ⟨n,rfl,rfl,hn0,rC⟩;walk_at "rd";refine ⟨by lia,by lia,compR [some (.ref a)] rfl (fun D j ys H4=>ys=(eD ns j).map V.str/\Same H2 H4) (fun D nD=>⟨rfl,Same.new nD⟩) ?_ ?_⟩
  .rintro D i ys H4 nD hi ⟨rfl,S4⟩ hD F8;walk_at "rd";refine ⟨a,ns,_,rfl,S4.seq hS,by lia,fun H5 S5=>⟨S5 _ _ hD,jQ F8 (T4 hi (O8 'a')),⟨hi,by rw [C4,N3];lia,⟨_,rfl⟩,by rw [aiG,E2,bX];rfl,(S4.trans S5).put nD⟩⟩⟩
  rintro D ys H4 nD ⟨rfl,S4⟩ hD F8;refine ⟨by lia,by lia,forR (fun i Y H5=>∃ (l:Addr) (ps:List Str) (u v w x:Option V),Y=[some (.ref a),some (.int c),some (.int n),some (.ref l),u,v,w,x]/\LetI ns H2 H5 l ps i/\LetW ns n ps) ⟨D,_,none,none,none,none,rfl,⟨nD,S4,hD,(akW ns n.toNat 'a').wide fun k hk=>⟨hk.1,by lia⟩,⟨n,anh hn0 rC⟩,by rw [akV];lia,by rw [akV];lia⟩,anh hn0 rC⟩ ?_ ?_⟩
  .rintro i Y H5 hi ⟨l,ps,u,v,w,x,rfl,J,JW⟩;walk_at "rd";obtain ⟨m,hm,wD⟩:=mul3 (i:=i) 'a';refine ⟨by decide,fun p np=>⟨_,.inl (.of A5),V.int m,hm,?_⟩⟩;have S6:Same H5 (A0 H5 p (HO.lst [V.int 48271,V.int 69621,V.int 16807])):=Same.new np;generalize A0 H5 p (HO.lst [V.int 48271,V.int 69621,V.int 16807])=H6 at S6 ⊢
   walk_at "rd";refine ⟨.inr ⟨by lia,by lia⟩,?_⟩;generalize c / 20*m % 2147483647=N;have a1:=j6 N (show n≠0 by lia);have a2:=o6 N (show 0<n by lia);have b1:=j6 (N / 7) (show n≠0 by lia);have b2:=o6 (N / 7) (show 0<n by lia);have S6':=J.same.trans S6;refine ⟨by lia,a,ns,_,rfl,S6'.seq hS,a1,fun H7 S7=>⟨by lia,a,ns,_,rfl,(S6'.trans S7).seq hS,b1,fun H8 S8=>?_⟩⟩;have h8:=S8 _ _ (S7 _ _ (S6 _ _ J.lst));have S8':=S6'.trans (S7.trans S8);have mC:oH ns LetS (one (K2 ns (N % n))++one (K2 ns (N / 7 % n))):=⟨N % n,⟨a1,by lia⟩,yR ns _ _⟩
   have hjl:=J.hi;obtain ⟨t,ht,lS⟩:∃ t:Nat,N / 49 % ((ps.length:Int)+1)=(t:Int)/\t<=ps.length:=⟨(N / 49 % ((ps.length:Int)+1)).toNat,by
    have:=j6 (N / 49) (show (ps.length:Int)+1≠0 by lia)
    lia,by
    have:=o6 (N / 49) (show 0<(ps.length:Int)+1 by lia)
    lia⟩
   walk_at "rd";refine ⟨by show 1+1<=sizeLine;decide,ps.length,.inl ⟨_,.of h8,by rw [A6]⟩,by lia,rInR.l (.inl (.of h8)) rfl (agE _) ⟨_,rfl,?_⟩⟩;rw [xN,Bool.true_xor,ht];have hpw:∃ k:Int,0<=k/\k<n/\(one (K2 ns (N % n))++one (K2 ns (N / 7 % n))=one (K2 ns k)\/∃ m:Int,0<=m/\m<n/\one (K2 ns (N % n))++one (K2 ns (N / 7 % n))=one (K2 ns k)++one (K2 ns m)):=⟨N % n,a1,a2,.inr ⟨N / 7 % n,b1,b2,rfl⟩⟩
   generalize one (K2 ns (N % n))++one (K2 ns (N / 7 % n))=pc at mC hpw ⊢
   refine iteN (fun Q3=>rSlR.l (.of h8) fun q2 nq2=>?_) fun hold=>⟨ps,⟨J.new,S8',h8,J.dis,J.wd,J.lo,by lia⟩,JW⟩
   rw [aS,<- u9];refine ⟨by decide,fun q3 nq3=>?_⟩;walk_at "rd";refine rAddR.l (D1 A5 nq3) A5 (by rw [A6,E9,N3];exact O8 'a') fun q4 nq4=>?_
   refine rSlR.l (.of (D1 (D1 (D1 h8 nq2) nq3) nq4)) fun q5 nq5=>?_
   rw [p5,<- aK];walk_at "rd";refine rAddR.l (D1 A5 nq5) A5 (by rw [C4,A6,A6,E9,X1,N3];exact O8 'a') fun q6 nq6=>?_
   have S9:=S8'.trans ((Same.new nq2).trans ((Same.new nq3).trans ((Same.new nq4).trans (Same.new (u:=HO.lst ((ps.drop t).map V.str)) nq5))));refine ⟨q6,rfl,ps.take t++[pc]++ps.drop t,⟨S9.free nq6,S9.trans (Same.new nq6),?_,Dis.ins (fun k hk=>by unfold LetS at hk;lia) J.dis mC Q3,⟨n,JW.ins hpw⟩,?_,?_⟩,JW.ins hpw⟩
   .rw [A5,E2,E2];rfl
   .have:=J.lo
    simp only [C4,E9,X1,N3];lia
   .simp only [C4,E9,X1,N3];lia
  rintro Y H5 ⟨l,ps,u,v,w,x,rfl,J,_⟩;walk_at "rd";exact q l ps H5 ⟨J.new,J.same,J.lst,J.dis,J.wd,J.lo,by have:=J.hi;lia⟩
theorem als:FnScope ["_law_letters_here", "_law_marks", "_law_number", "_law_first"] ["_law_letters_here", "_law_marks", "_law_number", "_law_first"] (C3 gZ):=G1
abbrev uR:List Str:=["_law_letters_here", "_law_marks", "_law_number", "_law_first"]
theorem vc7:VS uR gZ "_law_letters_here" 0:=vq
theorem vc8:VS uR gZ "_law_marks" 1:=vq
theorem vc9:VS uR gZ "_law_number" 2:=vq
theorem vda:VS uR gZ "_law_first" 3:=vq
theorem alt(F:FunD K "_law_part" "_law_part" gZ f fd)(T:Txt P w K mg C):FnOk P w K mg base E6 1 f fd ["_law_letters_here", "_law_marks", "_law_number", "_law_first"] (ani K):=by
 refine F.ok als ?_ ?_
 .rintro _ _ _ _ ⟨l,m,n,b,ls,ms,rfl,_⟩;rfl
 .intro cdv A outer s H vs Q E hr h;have C2:=hu_of hr;have hu:=hr.units;refine ⟨_,QSs.out (A8 (qs_if (QW.pt (qw_or (W7 (K:=K) (vi vda)) (qw_or (D6 (q_eq (K:=K) hu) (vi vc8) (M7 A3)) (kH (D6 (q_eq (K:=K) hu) (qe_op q_mod (vi vc9) A4) A4))))) (A7 (E4 (qe_ix (K:=K) (vi vc7) (qe_op q_mod (qe_op L7 (vi vc9) A4) (qe_cB (q_len (K:=K)) T.b_len P3 (qa_c (vi vc7) A3)))))) F7)
   (A7 (E4 (qe_ix (K:=K) (vi vc8) (qe_op q_mod (qe_op L7 (vi vc9) A4) (qe_cB (q_len (K:=K)) T.b_len P3 (qa_c (vi vc8) A3))))))),?_⟩
  obtain ⟨l,m,n,b,ls,ms,rfl,hl,hm,h1,h2,h3,hok,q⟩:=h;walk_at "rd"
  cases b with
  | true=>exact pickL hl h1 fun p hp=>q p H (aQ H) (.inl hp)
  | false=>
   intro p np;have S:Same H (A0 H p (.lst [])):=Same.new np;have hp:A0 H p (.lst []) p=some (.lst (([]:List Str).map V.str)):=A5;generalize A0 H p (.lst [])=H1 at S hp ⊢
   refine ⟨_,.lst (.of (S _ _ hm)) (j8 hok),_,.lst (.of hp) (j8 'c'),by rw [g4,nQ];exact K6 (fW _ _) 'h',?_⟩;rw [aip];refine iteD (fun e=>pickL (S _ _ hl) h1 fun p hp=>q p H1 S (.inl hp)) fun e=>iteD (fun _=>pickL (S _ _ hl) h1 fun p hp=>q p H1 S (.inl hp)) fun _=>pickL (S _ _ hm) ?_ fun p hp=>q p H1 S (.inr ⟨rfl,hp⟩)
   cases ms with
   | nil=>exact absurd rfl e
   | cons x xs=>simp
theorem amQ:FnScope ["_law_script", "_law_k", "_law_cell"] ["_law_script", "_law_k", "_law_cell"] (C3 kX):=G1
abbrev aia:List Str:=["_law_script", "_law_k", "_law_cell"]
theorem vdb:VS aia kX "_law_script" 0:=vq
theorem vdc:VS aia kX "_law_k" 1:=vq
theorem vdd:VS aia kX "_law_cell" 2:=vq
theorem amR(F:FunD K "_law_two" "_law_two" kX f fd)(T:Txt P w K mg C)(G_l_sign:FO P w K mg base 2 "_law_sign" ["_law_script", "_law_k"] [] (spSgn K)):FnOk P w K mg base E6 3 f fd ["_law_script", "_law_k", "_law_cell"] (spTwo K):=by
 refine F.ok amQ ?_ ?_
 .rintro _ _ _ _ ⟨a,ns,k,c,rfl,_⟩;rfl
 .intro cdv A outer s H vs Q E hr h;have C2:=hu_of hr;have hu:=hr.units;refine ⟨_,QSs.out (A8 (qs_if (D6 (q_eq (K:=K) hu) (qe_op q_mod (qe_op L7 (vi vdd) (qe_op 'i' (qe_op q_mod (vi vdc) A4) A4)) A4) A4) (A7 (E4 (qe_op 'i' (C8 G_l_sign (hm hr) (qa_c (vi vdb) (qa_c (vi vdc) A3))) (C8 G_l_sign (hm hr) (qa_c (vi vdb) (qa_c (qe_op q_mod (qe_op L7 (vi vdd) A4) A4) A3)))))) F7)
   (A7 (E4 (C8 G_l_sign (hm hr) (qa_c (vi vdb) (qa_c (vi vdc) A3)))))),?_⟩
  obtain ⟨a,ns,k,c,rfl,hS,hk,q⟩:=h;walk_at "rd";refine ⟨by lia,by lia,iteD (fun _=>⟨a,ns,_,rfl,hS,hk,fun H1 S1=>⟨a,ns,_,rfl,S1.seq hS,by lia,fun H2 S2=>?_⟩⟩) fun _=>⟨a,ns,_,rfl,hS,hk,fun H1 S1=>q _ H1 S1 (tN ns k)⟩⟩;walk_at "rd";exact ⟨by show 1+1<=sizeLine;decide,q _ H2 (S1.trans S2) (yR ns k _)⟩
theorem sc_l_others:FnScope ["_law_script", "_law_letters_here", "_law_marks", "_law_cell", "_law_rules_here", "_law_k", "_law_form", "_law_rule", "_law_j", "_law_number", "_law_pieces_here"] ["_law_script", "_law_letters_here", "_law_marks"] (C3 R8):=G1
abbrev x3:List Str:=["_law_script", "_law_letters_here", "_law_marks", "_law_cell", "_law_rules_here", "_law_k", "_law_form", "_law_rule", "_law_j", "_law_number", "_law_pieces_here"]
theorem lG:VS x3 R8 "_law_script" 0:=vq
theorem vdf:VS x3 R8 "_law_letters_here" 1:=vq
theorem vdg:VS x3 R8 "_law_marks" 2:=vq
theorem x4:VS x3 R8 "_law_cell" 3:=vq
theorem uS:VS x3 R8 "_law_rules_here" 4:=vq
theorem eO:VS x3 R8 "_law_k" 5:=vq
theorem vdk:VS x3 R8 "_law_form" 6:=vq
theorem uT:VS x3 R8 "_law_rule" 7:=vq
theorem vdm:VS x3 R8 "_law_j" 8:=vq
theorem vdn:VS x3 R8 "_law_number" 9:=vq
theorem vdo:VS x3 R8 "_law_pieces_here" 10:=vq
theorem vdp:LS R8 "_law_cell":=lq
theorem vdq:LS R8 "_law_rules_here":=lq
theorem vdr:LS R8 "_law_k":=lq
theorem vds:LS R8 "_law_form":=lq
theorem uU:LS R8 "_law_rule":=lq
theorem vdu:LS R8 "_law_j":=lq
theorem vdv:LS R8 "_law_number":=lq
theorem vdw:LS R8 "_law_pieces_here":=lq
theorem aib(F:FunD K "_law_others" "_law_others" R8 f fd)(T:Txt P w K mg C)(G_l_cell_at:FO P w K mg base 1 "_law_cell_at" ["_law_script", "_law_k"] [] (kL K))(G_l_sign:FO P w K mg base 2 "_law_sign" ["_law_script", "_law_k"] [] (spSgn K))(G_l_part:FO P w K mg base 1 "_law_part" ["_law_letters_here", "_law_marks", "_law_number", "_law_first"] [] (ani K))(G_l_two:FO P w K mg base 3 "_law_two" ["_law_script", "_law_k", "_law_cell"] [] (spTwo K)):FnOk P w K mg base E6 4 f fd ["_law_script", "_law_letters_here", "_law_marks"] (aiH K):=by
 refine F.ok sc_l_others ?_ ?_
 .rintro _ _ _ _ ⟨a,b,c,ns,ls,ms,rfl,_⟩;rfl
 .intro cdv A outer s H vs Q E hr h;have C2:=hu_of hr;have hu:=hr.units;refine ⟨_,QSs.out (A8 (C7 (n:=3) sc_l_others.nd rfl vdp (qe_op L7 (C8 G_l_cell_at (hm hr) (qa_c (vi lG) (qa_c A4 A3))) A4))
   (A8 (C7 (n:=4) sc_l_others.nd rfl vdq (M7 A3))
   (A8 (L6 PassesOwn.never (qi_r1 T.b_range (qa_c (qe_op q_mod (vi x4) A4) A3)) (D3 (n:=5) sc_l_others.nd rfl vdr 'g') (A8 (C7 (n:=6) sc_l_others.nd rfl vds (C8 G_l_sign (hm hr) (qa_c (vi lG) (qa_c (qe_op 'i' A4 (vi eO)) A3))))
   (V1 (qs_if (D6 (q_eq (K:=K) hu) (qe_op q_mod (qe_op L7 (qe_op L7 (vi x4) A4) (qe_op 'i' (vi eO) A4)) A4) A4) (A7 (C7 (n:=6) sc_l_others.nd rfl vds (qe_op 'i' (vi vdk) (C8 G_l_sign (hm hr) (qa_c (vi lG) (qa_c (qe_op q_mod (qe_op L7 (vi x4) A4) A4) A3)))))) F7)
   (A8 (C7 (n:=7) sc_l_others.nd rfl uU (K7 (qa_c G5 (qa_c (qe_ix (K:=K) (vi vdf) (qe_op q_mod (qe_op L7 (qe_op L7 (vi x4) A4) (qe_op 'i' (vi eO) A4)) (qe_cB (q_len (K:=K)) T.b_len P3 (qa_c (vi vdf) A3)))) (qa_c (vi vdk) A3)))))
   (V1 (qs_if (D6 (q_eq (K:=K) hu) (qe_op q_mod (qe_op L7 (qe_op L7 (vi x4) A4) (qe_op 'i' (vi eO) A4)) A4) A4) (A7 (C7 (n:=7) sc_l_others.nd rfl uU (qe_op 'i' (vi uT) (K7 (qa_c (C8 G_l_sign (hm hr) (qa_c (vi lG) (qa_c (qe_op 'i' A4 (vi eO)) A3))) A3))))) F7)
   (A7 (O9 (qe_mB (K:=K) Q5 U9 U8 V0 (vi uS) (qa_c (vi uT) A3)))))))))
   (A8 (C7 (n:=3) sc_l_others.nd rfl vdp (C8 G_l_cell_at (hm hr) (qa_c (vi lG) (qa_c A4 A3))))
   (A8 (L6 PassesOwn.never (qi_r1 T.b_range (qa_c (qe_op q_mod (vi x4) A4) A3)) (D3 (n:=5) sc_l_others.nd rfl vdr 'g') (A8 (C7 (n:=7) sc_l_others.nd rfl uU (K7 (qa_c G5 (qa_c (C8 G_l_two (hm hr) (qa_c (vi lG) (qa_c (qe_op 'i' A4 (vi eO)) (qa_c (qe_op L7 (vi x4) A4) A3)))) A3))))
   (A8 (L6 PassesOwn.never (qi_r1 T.b_range (qa_c (qe_op 'i' A4 (qe_op q_mod (qe_op L7 (qe_op L7 (vi x4) A4) (qe_op 'i' (vi eO) A4)) A4)) A3)) (D3 (n:=8) sc_l_others.nd rfl vdu 'g') (A8 (C7 (n:=9) sc_l_others.nd rfl vdv (qe_op q_mod (qe_op q_mul (qe_op L7 (vi x4) A4) (qe_ix (K:=K) (M7 (qa_c A4 (qa_c A4 (qa_c A4 A3)))) (vi vdm))) (qe_op q_sub A4 (vi eO))))
   (A7 (C7 (n:=7) sc_l_others.nd rfl uU (qe_op 'i' (vi uT) (K7 (qa_c (C8 G_l_part (hm hr) (qa_c (vi vdf) (qa_c (vi vdg) (qa_c (vi vdn) (qa_c (gH (q_eq (K:=K) hu) (vi vdm) A4) A3))))) A3)))))))
   (A7 (O9 (qe_mB (K:=K) Q5 U9 U8 V0 (vi uS) (qa_c (vi uT) A3)))))))
   (V1 (qs_if (D6 q_gt (qe_op q_mod (qe_op L7 (vi x4) A4) A4) A4) (A8 (gK (n:=10) sc_l_others.nd rfl vdw (T9:CompOk ["_law_script", "_law_letters_here", "_law_marks", "_law_cell", "_law_rules_here", "_law_k", "_law_form", "_law_rule", "_law_j", "_law_number", "_law_pieces_here"] (C3 R8).names _ ["_law_k", "_law_script", "_law_cell"] 1 [0,3]) (qi_r1 T.b_range (qa_c (qe_op q_mod (qe_op L7 (vi x4) A4) A4) A3)) (fun _ _ _ _ _=>D3 (n:=0) (show List.Nodup (["_law_k", "_law_script", "_law_cell"]:List Str) by decide +kernel) rfl (Or.inl rfl)) (fun _ _ _ _ _=>k6) (fun _ _ _ _ _=>(C8 G_l_two (hm hr) (qa_c (qv 1) (qa_c (qe_op 'i' A4 (qv 0)) (qa_c (qe_op L7 (qv 2) A4) A3))))))
   (A7 (O9 (qe_mB (K:=K) Q5 U9 U8 V0 (vi uS) (qa_c (qe_op 'i' (K7 (qa_c G5 A3)) (qe_cT (nX (K:=K)) T.b_tuple nM (qa_c (vi vdo) A3))) A3))))) F7)
   (A7 (E4 (vi uS))))))))),?_⟩
  obtain ⟨a,b,c,ns,ls,ms,rfl,hS,hb,hc,h1,h2,h3,hok,q⟩:=h;walk_at "rd";refine ⟨a,ns,3,rfl,hS,by decide,_,rfl,fun r nr=>?_⟩;generalize cellF ns 3 / 5=c3;refine ⟨by lia,by lia,forRs (fun i Y H2=>∃ (v w x y z z2:Option V) (ts:List Addr) (R:List Rl),Y=[some (.ref a),some (.ref b),some (.ref c),some (.int c3),some (.ref r),v,w,x,y,z,z2]/\RulesAt H H2 r ts R/\OthI ns ls ms (GS i) i R)
   ⟨none,none,none,none,none,none,[],[],rfl,⟨⟨A5,.nil⟩,by simp,fun t ht=>by rw [F6.mp ht];exact nr,Same.new nr⟩,⟨Dis.nil,by simp,by simp⟩⟩ ?_ ?_⟩
  .rintro P' Bk hP i Y H2 hi ⟨v,w,x,y,z,z2,ts,R,rfl,RA,J⟩;walk_at "rd";refine ⟨a,ns,_,rfl,RA.same.seq hS,by lia,fun H3 S3=>midS (fun Y H4=>∃ f:Str,Y=[some (.ref a),some (.ref b),some (.ref c),some (.int c3),some (.ref r),some (.int (0+(i:Int))),some (.str f),x,y,z,z2]/\Same H3 H4/\Q2 ns (30+(0+(i:Int))) f) ?_ ?_⟩
   .intro M' hM';walk_at "rd";refine ⟨by lia,by lia,iteD (fun _=>⟨a,ns,_,rfl,(RA.same.trans S3).seq hS,by lia,fun H4 S4=>?_⟩) fun _=>hM' _ _ ⟨_,rfl,aQ _,tN ns _⟩⟩;walk_at "rd";exact ⟨by show 1+1<=sizeLine;decide,hM' _ _ ⟨_,rfl,S4,yR ns _ _⟩⟩
   rintro Y H4 ⟨f,rfl,S4,hf⟩;have rD:=S3.trans S4;walk_at "rd";obtain ⟨l,hl,K1⟩:=pickA (c3 / 4 / (0+(i:Int)+2)) h1;have hb4:=RA.same.trans rD _ _ hb;refine ⟨by lia,by lia,ls.length,.inl ⟨_,.of hb4,by rw [A6]⟩,by lia,_,.inl (.of hb4),_,K1,by decide,fun t nt=>midS (fun Y H5=>∃ (t:Addr) (fs:List Str),Y=[some (.ref a),some (.ref b),some (.ref c),some (.int c3),some (.ref r),some (.int (0+(i:Int))),some (.str f),some (.ref t),y,z,z2]/\Same H4 H5/\H5 t=some (tupR ("great",l::fs))/\H4 t=none/\(fs=[f]\/∃ f2,fs=[f,f2]/\Q2 ns (34+(0+(i:Int))) f2)) ?_ ?_⟩
   .intro M' hM';have S5:Same H4 (A0 H4 t (HO.tup [V.str (Str.ofString "great"),V.str l,V.str f])):=Same.new nt;have ht:A0 H4 t (HO.tup [V.str (Str.ofString "great"),V.str l,V.str f]) t=some (HO.tup [V.str (Str.ofString "great"),V.str l,V.str f]):=A5;generalize A0 H4 t (HO.tup [V.str (Str.ofString "great"),V.str l,V.str f])=H5 at S5 ht ⊢
    walk_at "rd";refine ⟨by lia,by lia,iteD (fun _=>⟨a,ns,_,rfl,(RA.same.trans (rD.trans S5)).seq hS,by lia,fun H6 S6=>⟨by decide,fun p np=>rAddR.t (.of (D1 (S6 _ _ ht) np)) (.of A5) 'c' (by show 3+1<=sizeLine;decide) 'c' fun _ t2 Z8=>?_⟩⟩) fun _=>hM' _ _ ⟨_,[f],rfl,S5,ht,nt,.inl rfl⟩⟩;have S7:=S5.trans (S6.trans (Same.new (u:=HO.tup [V.str (one (K2 ns (34+(0+(i:Int)))))]) np));exact hM' _ _ ⟨t2,[f,one (K2 ns (34+(0+(i:Int))))],rfl,S7.trans (Same.new Z8),A5,S7.free Z8,.inr ⟨_,rfl,tN ns _⟩⟩
   rintro Y H5 ⟨t,fs,rfl,S5,ht,nt,hfs⟩;have t6:=S5 _ _ (rD _ _ RA.rows.top);have hjl:=J.len;walk_at "rd";refine ⟨Q7 t6,appOk t6 (by rw [A6,RA.rows.len];exact L3 'a') (hP _ _ _ ⟨_,_,_,_,_,_,_,_,rfl,RA.grow (rD.trans S5) (rD.free nt) ht,?_⟩)⟩;rw [bX] at hf hfs;refine J.add (akX hl (hfs.imp id fun ⟨f2,e,_⟩=>⟨f2,e⟩)) (akY 'a' 'a' hf hfs) (fun k hk=>?_) (fun k hk=>by lia) (fun k hk e=>?_) fun k hk=>?_
   .unfold GS at hk;lia
   .unfold GS at hk;lia
   .unfold GS at hk ⊢;lia
  rintro Y H2 ⟨v,w,x,y,z,z2,ts,R,rfl,RA,J⟩;have J:OthI ns ls ms (AS 0) 3 R:=⟨J.dis.wide fun k hk=>by unfold AS;unfold GS at hk ⊢;lia,J.each,by have:=J.len;lia⟩
  walk_at "rd";refine ⟨a,ns,4,rfl,RA.same.seq hS,by decide,?_⟩;generalize cellF ns 4=c4;walk_at "rd";refine ⟨by lia,by lia,forRs (fun i Y H3=>∃ (v w x y z z2:Option V) (ts:List Addr) (R:List Rl),Y=[some (.ref a),some (.ref b),some (.ref c),some (.int c4),some (.ref r),v,w,x,y,z,z2]/\RulesAt H H3 r ts R/\OthI ns ls ms (AS i) (3+i) R) ⟨v,w,x,y,z,z2,ts,R,rfl,RA,J⟩ ?_ ?_⟩
  .clear RA J v w x y z z2;rintro P' Bk hP i Y H3 hi ⟨v,w,x,y,z,z2,ts,R,rfl,RA,J⟩;walk_at "rd";refine ⟨a,ns,_,_,rfl,RA.same.seq hS,by lia,fun p H4 S4 hp=>⟨by decide,fun t nt=>?_⟩⟩;refine ⟨by lia,by lia,by lia,by lia,forRs (fun j Y H5=>∃ (t:Addr) (qs:List Str) (y z:Option V),Y=[some (.ref a),some (.ref b),some (.ref c),some (.int c4),some (.ref r),some (.int (0+(i:Int))),w,some (.ref t),y,z,z2]/\AsR ls ms H4 H5 t p qs j) ⟨t,[],y,z,rfl,Same.new nt,A5,nt,rfl,by simp⟩ ?_ ?_⟩
   .rintro P2 B2 hP2 j Y H5 hj ⟨t,qs,y,z,rfl,A⟩;walk_at "rd";obtain ⟨m,hm,wD⟩:=mul3 (i:=j) 'a';refine ⟨by decide,fun p1 np=>⟨_,.inl (.of A5),V.int m,hm,?_⟩⟩;have S6:Same H5 (A0 H5 p1 (HO.lst [V.int 48271,V.int 69621,V.int 16807])):=Same.new np;generalize A0 H5 p1 (HO.lst [V.int 48271,V.int 69621,V.int 16807])=H6 at S6 ⊢
    walk_at "rd";have SS:=RA.same.trans (S4.trans (A.same.trans S6));have fJ:=A.len;refine ⟨.inr ⟨by lia,by lia⟩,by lia,b,c,_,_,ls,ms,rfl,SS _ _ hb,SS _ _ hc,h1,h2,h3,hok,fun q H7 S7 hq=>⟨by decide,fun p2 Z4=>?_⟩⟩;have ht7:A0 H7 p2 (HO.tup [V.str q]) t=some (tupR ("as",p::qs)):=D1 (S7 _ _ (S6 _ _ A.tup)) Z4;have S8:Same H5 (A0 H7 p2 (HO.tup [V.str q])):=S6.trans (S7.trans (Same.new Z4));have U4:A0 H7 p2 (HO.tup [V.str q]) p2=some (HO.tup [V.str q]):=A5;generalize A0 H7 p2 (HO.tup [V.str q])=H8 at ht7 S8 U4 ⊢
    refine rAddR.t (.of ht7) (.of U4) 'c' (by simp only [A6,K4,Y6];exact O8 'a') 'c' fun _ t2 Z8=>hP2 _ _ _ ⟨t2,qs++[q],_,_,rfl,A.same.trans (S8.trans (Same.new Z8)),?_,(A.same.trans S8).free Z8,by rw [C4,fJ];rfl,fun k x hk=>?_⟩
    .rw [A5];show some (HO.tup _)=some (HO.tup _)
     simp
    .by_cases i5:k<qs.length
     .rw [jI i5] at hk;exact A.ok k x hk
     .rw [fP 'a'] at hk;have lV:k-qs.length=0:=by
       have:=(G2.mp hk).1
       rw [N3] at this;lia
      rw [lV] at hk;have hx:q=x:=by simpa using hk
      subst hx;refine hq.imp id fun ⟨e,hm⟩=>⟨?_,hm⟩
      have:¬ (0+(j:Int)=0):=by simpa using e
      lia
   rintro Y H5 ⟨t,qs,y,z,rfl,A⟩;have t6:=A.same _ _ (S4 _ _ RA.rows.top);have hjl:=J.len;walk_at "rd";refine ⟨Q7 t6,appOk t6 (by rw [A6,RA.rows.len];exact L3 'a') (hP _ _ _ ⟨_,_,_,_,_,_,_,_,rfl,RA.grow (S4.trans A.same) (S4.free A.new) A.tup,?_⟩)⟩;rw [bX] at hp;refine J.add (A.oth 'a' 'a') (T:=fun k=>k=40+(i:Int)) (by rw [W2.2.1 rfl];exact gR hp) (fun k hk=>?_) (fun k hk=>by lia) (fun k hk e=>?_) fun k hk=>?_
   .unfold AS GS at hk;lia
   .unfold AS GS at hk;lia
   .rcases hk with (hk | hk) | hk
    .exact .inl hk
    .exact .inr ⟨by lia,by lia⟩
    .exact .inr ⟨by lia,by lia⟩
  rintro Y H3 ⟨v,w,x,y,z,z2,ts,R,rfl,RA,J⟩;walk_at "rd";refine midS (fun Y H4=>∃ (v w x y z z2:Option V) (ts:List Addr) (R:List Rl),Y=[some (.ref a),some (.ref b),some (.ref c),some (.int c4),some (.ref r),v,w,x,y,z,z2]/\RulesAt H H4 r ts R/\OthI ns ls ms OS 7 R) ?_ ?_
  .intro M' hM';walk_at "rd";have hjl:=J.len;have J3:OthI ns ls ms (AS 3) 6 R:=⟨J.dis.wide fun k hk=>hk.imp id fun h=>⟨h.1,by lia⟩,J.each,by lia⟩
   refine iteD (fun _=>⟨by lia,by lia,compR [some (.ref a),some (.int c4)] rfl (fun D j ys H4=>∃ ps:List Str,ys=ps.map V.str/\Same H3 H4/\Dis ns (fun k=>50<=k/\k<50+(j:Int)) ps/\ps.length=j) (fun D nD=>⟨[],rfl,Same.new nD,Dis.nil,rfl⟩) ?_ ?_⟩) fun _=>hM' _ _ ⟨_,_,_,_,_,_,ts,R,rfl,RA,⟨J3.dis.wide fun k hk=>.inl hk,J3.each,by lia⟩⟩
   .rintro D i ys H4 nD hi ⟨ps,rfl,S4,ds,L5⟩ hD F8;walk_at "rd";refine ⟨a,ns,_,_,rfl,(RA.same.trans S4).seq hS,by lia,fun p H5 S5 hp=>⟨S5 _ _ hD,jQ F8 (T4 hi (O8 'a')),⟨hi,by rw [C4,N3];lia,⟨_,rfl⟩,ps++[p],by rw [E2];rfl,(S4.trans S5).put nD,?_,by rw [C4,L5];rfl⟩⟩⟩;rw [bX] at hp;exact (ds.cat (gR hp) (fun k hk=>by lia) (fun k hk=>by lia) (fun k hk e=>by lia)).wide fun k hk=>by
     rcases hk with hk | hk <;> lia
   rintro D ys H4 nD ⟨ps,rfl,S4,ds,L5⟩ hD F8;have hr4:=S4 _ _ RA.rows.top;refine ⟨Q7 hr4,by decide,fun p np=>?_⟩;have S5:Same H4 (A0 H4 p (HO.tup [V.str (Str.ofString "over")])):=Same.new np;have rE:A0 H4 p (HO.tup [V.str (Str.ofString "over")]) p=some (HO.tup [V.str (Str.ofString "over")]):=A5;generalize A0 H4 p (HO.tup [V.str (Str.ofString "over")])=H5 at S5 rE ⊢
   walk_at "rd";refine rTupR.l (.of (S5 _ _ hD)) fun t2 Z8=>?_
   walk_at "rd";have hpn:ps≠[]:=fun e=>by rw [e] at L5;simp at L5;lia
   refine rAddR.t (.of (D1 rE Z8)) (.of A5) 'c' (by simp only [A6,K4,Y6];exact O8 'a') (fun e=>absurd (List.map_eq_nil_iff.mp e) hpn) fun _ t3 rF=>?_
   have S6:=S4.trans (S5.trans (Same.new (u:=HO.tup (ps.map V.str)) Z8));have S7:=S6.trans (Same.new (u:=HO.tup ([V.str (Str.ofString "over")]++ps.map V.str)) rF);refine appOk (S7 _ _ RA.rows.top) (by rw [A6,RA.rows.len];exact L3 'a') (hM' _ _ ⟨_,_,_,_,_,_,_,_,rfl,RA.grow S7 (S6.free rF) (z:=("over",ps)) A5,?_⟩);refine J3.add (.inr (.inr ⟨rfl,by show ps.length<=2;lia⟩)) (T:=fun k=>50<=k/\k<52) (by rw [W2.2.2 (.inr (.inr rfl))];exact ds.wide fun k hk=>⟨hk.1,by lia⟩) (fun k hk=>?_) (fun k hk=>by lia) (fun k hk e=>?_) fun k hk=>hk
   .unfold AS GS at hk;lia
   .unfold AS GS at hk;lia
  rintro Y H4 ⟨v,w,x,y,z,z2,ts,R,rfl,RA,J⟩;walk_at "rd";exact q r ts R H4 RA J
theorem sc_l_rules:FnScope ["_law_script", "_law_letters_here", "_law_cell", "_law_marks", "_law_rules_here", "_law_at"] ["_law_script"] (C3 f6):=G1
abbrev lH:List Str:=["_law_script", "_law_letters_here", "_law_cell", "_law_marks", "_law_rules_here", "_law_at"]
theorem pE:VS lH f6 "_law_script" 0:=vq
theorem vdy:VS lH f6 "_law_letters_here" 1:=vq
theorem uV:VS lH f6 "_law_cell" 2:=vq
theorem vdA:VS lH f6 "_law_marks" 3:=vq
theorem iA:VS lH f6 "_law_rules_here" 4:=vq
theorem vdC:VS lH f6 "_law_at" 5:=vq
theorem vdD:LS f6 "_law_letters_here":=lq
theorem vdE:LS f6 "_law_cell":=lq
theorem vdF:LS f6 "_law_marks":=lq
theorem vdG:LS f6 "_law_rules_here":=lq
theorem vdH:LS f6 "_law_at":=lq
theorem ajE(F:FunD K "_law_rules" "_law_rules" f6 f fd)(T:Txt P w K mg C)(G_l_cell_at:FO P w K mg base 1 "_law_cell_at" ["_law_script", "_law_k"] [] (kL K))(G_l_letters:FO P w K mg base 3 "_law_letters" ["_law_script"] [] (afD K))(G_l_two:FO P w K mg base 3 "_law_two" ["_law_script", "_law_k", "_law_cell"] [] (spTwo K))(G_l_others:FO P w K mg base 4 "_law_others" ["_law_script", "_law_letters_here", "_law_marks"] [] (aiH K)):FnOk P w K mg base E6 5 f fd ["_law_script"] (aiJ K):=by
 refine F.ok sc_l_rules ?_ ?_
 .rintro _ _ _ _ ⟨a,ns,rfl,_⟩;rfl
 .intro cdv A outer s H vs Q E hr h;have C2:=hu_of hr;have hu:=hr.units;refine ⟨_,QSs.out (A8 (C7 (n:=1) sc_l_rules.nd rfl vdD (C8 G_l_letters (hm hr) (qa_c (vi pE) A3)))
   (A8 (C7 (n:=2) sc_l_rules.nd rfl vdE (C8 G_l_cell_at (hm hr) (qa_c (vi pE) (qa_c A4 A3))))
   (A8 (gK (n:=3) sc_l_rules.nd rfl vdF (T9:CompOk ["_law_script", "_law_letters_here", "_law_cell", "_law_marks", "_law_rules_here", "_law_at"] (C3 f6).names _ ["_law_k", "_law_script", "_law_cell"] 1 [0,2]) (qi_r1 T.b_range (qa_c (qe_op q_mod (vi uV) A4) A3)) (fun _ _ _ _ _=>D3 (n:=0) (show List.Nodup (["_law_k", "_law_script", "_law_cell"]:List Str) by decide +kernel) rfl (Or.inl rfl)) (fun _ _ _ _ _=>k6) (fun _ _ _ _ _=>(C8 G_l_two (hm hr) (qa_c (qv 1) (qa_c (qe_op 'i' A4 (qv 0)) (qa_c (qe_op L7 (qv 2) A4) A3))))))
   (A8 (C7 (n:=4) sc_l_rules.nd rfl vdG (qe_op 'i' (M7 (qa_c (qe_op 'i' (K7 (qa_c G5 A3)) (qe_cT (nX (K:=K)) T.b_tuple nM (qa_c (vi vdy) A3))) A3)) (C8 G_l_others (hm hr) (qa_c (vi pE) (qa_c (vi vdy) (qa_c (vi vdA) A3))))))
   (V1 (qs_if (D6 (q_ne (K:=K) hu) (vi vdA) (M7 A3)) (A7 (O9 (qe_mB (K:=K) Q5 U9 U8 V0 (vi iA) (qa_c (qe_op 'i' (K7 (qa_c G5 A3)) (qe_cT (nX (K:=K)) T.b_tuple nM (qa_c (vi vdA) A3))) A3)))) F7)
   (A8 (C7 (n:=2) sc_l_rules.nd rfl vdE (C8 G_l_cell_at (hm hr) (qa_c (vi pE) (qa_c A4 A3))))
   (V1 (qs_if (D6 (q_eq (K:=K) hu) (qe_op q_mod (qe_op L7 (C8 G_l_cell_at (hm hr) (qa_c (vi pE) (qa_c A4 A3))) A4) A4) A4) (A7 (O9 (qe_mB (K:=K) Q5 U9 U8 V0 (vi iA) (qa_c (K7 (qa_c G5 A3)) A3)))) F7)
   (V1 (qs_if (D6 (q_eq (K:=K) hu) (qe_op q_mod (vi uV) A4) A4) (A7 (O9 (qe_mB (K:=K) Q5 U9 U8 V0 (vi iA) (qa_c (K7 (qa_c G5 A3)) A3)))) F7)
   (V1 (qs_if (D6 (q_eq (K:=K) hu) (qe_op q_mod (qe_op L7 (vi uV) A4) A4) A4) (A7 (O9 (qe_mB (K:=K) Q5 U9 U8 V0 (vi iA) (qa_c (K7 (qa_c G5 A3)) A3)))) F7)
   (A8 (C7 (n:=5) sc_l_rules.nd rfl vdH (qe_op q_mod (qe_op L7 (vi uV) A4) (qe_cB (q_len (K:=K)) T.b_len P3 (qa_c (vi iA) A3))))
   (A7 (E4 (qe_op 'i' (L9 (K:=K) (vi iA) (I0 (vi vdC)) O4) (L9 (K:=K) (vi iA) O4 (I0 (vi vdC)))))))))))))))),?_⟩
  obtain ⟨a,ns,rfl,hS,q⟩:=h;walk_at "rd";refine ⟨a,ns,rfl,hS,fun b ls H1 JL=>⟨a,ns,3,rfl,JL.same.seq hS,by decide,?_⟩⟩;generalize cellF ns 3=c3;walk_at "rd";refine ⟨by lia,by lia,compR [some (.ref a),some (.int c3)] rfl (fun D j ys H4=>∃ ps:List Str,ys=ps.map V.str/\Same H1 H4/\Dis ns (fun k=>20<=k/\k<20+(j:Int)) ps/\ps.length=j) (fun D nD=>⟨[],rfl,Same.new nD,Dis.nil,rfl⟩) ?_ ?_⟩
  .rintro D i ys H4 nD hi ⟨ps,rfl,S4,ds,L5⟩ hD F8;walk_at "rd";refine ⟨a,ns,_,_,rfl,(JL.same.trans S4).seq hS,by lia,fun p H5 S5 hp=>⟨S5 _ _ hD,jQ F8 (T4 hi (O8 'a')),⟨hi,by rw [C4,N3];lia,⟨_,rfl⟩,ps++[p],by rw [E2];rfl,(S4.trans S5).put nD,?_,by rw [C4,L5];rfl⟩⟩⟩;rw [bX] at hp;exact (ds.cat (gR hp) (fun k hk=>by lia) (fun k hk=>by lia) (fun k hk e=>by lia)).wide fun k hk=>by
    rcases hk with hk | hk <;> lia
  rintro c ys H2 nc ⟨ms,rfl,S2,ds,L5⟩ hc F8;have qZ:Dis ns MarkS ms:=ds.wide fun k hk=>⟨hk.1,by lia⟩
  have vZ:ms.length<=4:=by lia
  clear ds L5 F8;have V6:=S2 _ _ JL.lst;have fN:=JL.same.trans S2;have h0:=JL.lo;have h1:=JL.hi;have dD:∀ p∈ms,W0 p=true:=fun p hp=>by
   obtain ⟨k,_,hk⟩:=qZ.pc p hp;exact (gG hk.ok.1).1
  have hln:ls≠[]:=fun e=>by rw [e] at h0;simp at h0
  refine ⟨by decide,fun p np=>?_⟩;have S3:Same H2 (A0 H2 p (HO.tup [V.str (Str.ofString "row")])):=Same.new np;have R1:A0 H2 p (HO.tup [V.str (Str.ofString "row")]) p=some (HO.tup [V.str (Str.ofString "row")]):=A5;generalize A0 H2 p (HO.tup [V.str (Str.ofString "row")])=H3 at S3 R1 ⊢
  refine rTupR.l (.of (S3 _ _ V6)) fun t nt=>?_
  walk_at "rd";refine rAddR.t (.of (D1 R1 nt)) (.of A5) 'c' (by simp only [A6,K4,Y6];exact O8 'a') (fun e=>absurd (List.map_eq_nil_iff.mp e) hln) fun _ t2 Z8=>⟨by decide,fun l1 bL=>?_⟩
  have S4:=S3.trans (Same.new (u:=HO.tup (ls.map V.str)) nt);have nt20:H t2=none:=(fN.trans S4).free Z8;have S5:=(S4.trans (Same.new (u:=HO.tup ([V.str (Str.ofString "row")]++ls.map V.str)) Z8)).trans (Same.new (u:=HO.lst [V.ref t2]) bL);have aE:=D1 (u:=HO.lst [V.ref t2]) (A5 (H:=A0 H3 t (HO.tup (ls.map V.str))) (a:=t2) (o:=HO.tup ([V.str (Str.ofString "row")]++ls.map V.str))) bL;have z9:=A5 (H:=A0 (A0 H3 t (HO.tup (ls.map V.str))) t2 (HO.tup ([V.str (Str.ofString "row")]++ls.map V.str))) (a:=l1) (o:=HO.lst [V.ref t2]);generalize A0 (A0 (A0 H3 t (HO.tup (ls.map V.str))) t2 (HO.tup ([V.str (Str.ofString "row")]++ls.map V.str))) l1 (HO.lst [V.ref t2])=H5 at S5 aE z9 ⊢
  have U5:=fN.trans S5;refine ⟨a,b,c,ns,ls,ms,rfl,U5.seq hS,S5 _ _ V6,S5 _ _ hc,by lia,by lia,by lia,dD,fun l2 ts R H6 RA OI=>?_⟩;walk_at "rd";have hol:=OI.len;refine rAddR.l (RA.same _ _ z9) RA.rows.top (by rw [A6,RA.rows.len,N3];exact O8 'a') fun r nr=>?_
  have RB:RulesAt H (A0 H6 r (HO.lst ([V.ref t2]++ts.map V.ref))) r (t2::ts) ((("row" : Str),ls)::R):=by
   have n2:t2∉ts:=fun e=>by have:=RA.new t2 (N4 _ e);rw [aE] at this;cases this
   have n3:∀ x∈t2::ts,r≠x:=fun x hx e=>by
    rcases E7.mp hx with q | q
    .rw [e,q,RA.same _ _ aE] at nr;cases nr
    .obtain ⟨o,ho⟩:=RA.live (N4 _ q);rw [e,ho] at nr;cases nr
   refine ⟨⟨A5,.cons (D1 (RA.same _ _ aE) nr) (M5 RA.rows.row fun x z e=>D1 e nr)⟩,V8.mpr ⟨fun e=>n3 r e rfl,V8.mpr ⟨n2,(V8.mp RA.nd).2⟩⟩,fun x hx=>?_,(U5.trans RA.same).trans (Same.new nr)⟩
   rcases E7.mp hx with q | q
   .rw [q];exact (U5.trans RA.same).free nr
   .rcases E7.mp q with q | q
    .rw [q];exact nt20
    .exact U5.free (RA.new x (N4 _ q))
  have qS:A0 H6 r (HO.lst ([V.ref t2]++ts.map V.ref)) c=some (HO.lst (ms.map V.str)):=D1 (RA.same _ _ (S5 _ _ hc)) nr;have P0:=aoP JL.dis OI;generalize A0 H6 r (HO.lst ([V.ref t2]++ts.map V.ref))=H7 at RB qS ⊢
  generalize (("row" : Str),ls)::R=R at RB P0;generalize t2::ts=ts at RB;refine g8 (fun Y H8=>∃ (bb:Bool) (ts:List Addr) (R:List Rl),Y=[some (.ref a),some (.ref b),some (.int c3),some (.ref c),some (.ref r),none]/\RulesAt H H8 r ts R/\RulP ns ls ms bb 9 R/\(bb=false->ms=[])) ?_ ?_
  .walk_at "rd";intro e ne;have S8:Same H7 (A0 H7 e (.lst [])):=Same.new ne;have he8:A0 H7 e (.lst []) e=some (.lst (([]:List Str).map V.str)):=A5;generalize A0 H7 e (.lst [])=H8 at S8 he8 ⊢
   refine ⟨_,.lst (.of (S8 _ _ qS)) (j8 dD),_,.lst (.of he8) (j8 'c'),by rw [g4,nQ];exact K6 (fW _ _) 'h',?_⟩;rw [aip];have RC:=RB.more S8;have L5:=P0.len;refine iteN (fun G9=>⟨Q7 RC.rows.top,by decide,fun p np=>?_⟩) fun he=>⟨false,ts,R,RC,P0.wide 'a',fun _=>he⟩
   have S9:Same H8 (A0 H8 p (HO.tup [V.str (Str.ofString "marks")])):=Same.new np;have hp9:A0 H8 p (HO.tup [V.str (Str.ofString "marks")]) p=some (HO.tup [V.str (Str.ofString "marks")]):=A5;generalize A0 H8 p (HO.tup [V.str (Str.ofString "marks")])=H9 at S9 hp9 ⊢
   refine rTupR.l (.of (S9 _ _ (S8 _ _ qS))) fun t nt=>?_
   walk_at "rd";refine rAddR.t (.of (D1 hp9 nt)) (.of A5) 'c' (by simp only [A6,K4,Y6];exact O8 'a') (fun e=>absurd (List.map_eq_nil_iff.mp e) G9) fun _ t3 rF=>?_
   have Z6:=S9.trans (Same.new (u:=HO.tup (ms.map V.str)) nt);have jA:=Z6.trans (Same.new (u:=HO.tup ([V.str (Str.ofString "marks")]++ms.map V.str)) rF);exact appOk (jA _ _ RC.rows.top) (by rw [A6,RC.rows.len];exact L3 'a') ⟨true,_,_,RC.grow jA (Z6.free rF) (z:=("marks",ms)) A5,P0.marks qZ,by simp⟩
  rintro Y H8 ⟨bb,ts,R,rfl,RA,P,hbb⟩;walk_at "rd";refine ⟨a,ns,5,rfl,RA.same.seq hS,by decide,?_⟩;generalize cellF ns 5=c5;refine g8 (fun Y H8=>∃ (ts:List Addr) (R:List Rl),Y=[some (.ref a),some (.ref b),some (.int c5),some (.ref c),some (.ref r),none]/\RulesAt H H8 r ts R/\RulP ns ls ms bb 10 R) ?_ ?_
  .walk_at "rd";refine ⟨a,ns,1,rfl,RA.same.seq hS,by decide,_,rfl,iteD (fun e=>yV RA P 'h' 'g' fun _=>?_) fun _=>⟨ts,R,RA,P.wide 'h'⟩⟩;unfold Q0;exact decide_eq_false 'a'
  clear RA P ts R;rintro Y H9 ⟨ts,R,rfl,RA,P⟩;refine g8 (fun Y H8=>∃ (ts:List Addr) (R:List Rl),Y=[some (.ref a),some (.ref b),some (.int c5),some (.ref c),some (.ref r),none]/\RulesAt H H8 r ts R/\RulP ns ls ms bb 11 R) ?_ ?_
  .walk_at "rd";exact iteD (fun e=>yV RA P 'h' (.inr 'g') fun e=>absurd e 'd') fun _=>⟨ts,R,RA,P.wide 'h'⟩
  clear RA P ts R;rintro Y Q4 ⟨ts,R,rfl,RA,P⟩;refine g8 (fun Y H8=>∃ (ts:List Addr) (R:List Rl),Y=[some (.ref a),some (.ref b),some (.int c5),some (.ref c),some (.ref r),none]/\RulesAt H H8 r ts R/\RulP ns ls ms bb 12 R) ?_ ?_
  .walk_at "rd";exact iteD (fun e=>yV RA P 'h' (.inr (.inr rfl)) fun e=>absurd e 'd') fun _=>⟨ts,R,RA,P.wide 'h'⟩
  clear RA P ts R;rintro Y bJ ⟨ts,R,rfl,RA,P⟩;have hl:=P.len;have fK:=RA.rows.len;have hR1:1<=R.length:=by
   have:=P.row
   cases R with
   | nil=>exact absurd this (by simp [rowsW])
   | cons z R=>simp
  walk_at "rd";obtain ⟨t,ht,lS⟩:∃ t:Nat,c5 / 6 % (R.length:Int)=(t:Int)/\t<R.length:=⟨(c5 / 6 % (R.length:Int)).toNat,by
   have:=j6 (c5 / 6) (show (R.length:Int)≠0 by lia)
   lia,by
   have:=o6 (c5 / 6) (show 0<(R.length:Int) by lia)
   lia⟩
  refine ⟨R.length,.inl ⟨_,.of RA.rows.top,by rw [A6,fK]⟩,by lia,?_⟩;rw [ht];refine rSlR.l (.of RA.rows.top) fun l1 bL=>rSlR.l (.of (D1 RA.rows.top bL)) fun l2 bM=>?_
  rw [p5,<- aK] at bM ⊢
  rw [aS,<- u9];walk_at "rd";have A1:=akT RA.rows t bL;have A2:=aoO (RA.rows.same (Same.new (u:=HO.lst ((ts.drop t).map V.ref)) bL)) t bM;have A1':=A1.same (Same.new (u:=HO.lst ((ts.take t).map V.ref)) bM);have X0:Same bJ (A0 (A0 bJ l1 (HO.lst ((ts.drop t).map V.ref))) l2 (HO.lst ((ts.take t).map V.ref))):=(Same.new bL).trans (Same.new bM);generalize A0 (A0 bJ l1 (HO.lst ((ts.drop t).map V.ref))) l2 (HO.lst ((ts.take t).map V.ref))=H12 at A2 A1' X0 ⊢
  refine rAddR.l A1'.top A2.top (by simp only [A6,X1,E9];exact O8 'a') fun l3 jB=>?_
  refine q l3 _ _ ls ms _ ((RA.same.trans X0).trans (Same.new jB)) ((RA.same.trans X0).free jB) (A1'.cat A2 jB) ⟨⟨bb,P.turn t,hbb⟩,h0,by lia,JL.dis,JL.wd,vZ,qZ⟩
theorem sc_l_row_of:FnScope ["_law_rules_here", "_law_word", "_law_found", "_law_rule"] ["_law_rules_here", "_law_word"] (C3 cM):=G1
abbrev uW:List Str:=["_law_rules_here", "_law_word", "_law_found", "_law_rule"]
theorem vdI:VS uW cM "_law_rules_here" 0:=vq
theorem vdJ:VS uW cM "_law_word" 1:=vq
theorem vdK:VS uW cM "_law_found" 2:=vq
theorem vdL:VS uW cM "_law_rule" 3:=vq
theorem vdM:LS cM "_law_found":=lq
theorem vdN:LS cM "_law_rule":=lq
theorem aic(F:FunD K "_law_row_of" "_law_row_of" cM f fd)(T:Txt P w K mg C):FnOk P w K mg base E6 1 f fd ["_law_rules_here", "_law_word"] (zD K):=by
 refine F.ok sc_l_row_of ?_ ?_
 .rintro _ _ _ _ ⟨a,ts,R,w,rfl,_⟩;rfl
 .intro cdv A outer s H vs Q E hr h;have C2:=hu_of hr;have hu:=hr.units;refine ⟨_,QSs.out (A8 (C7 (n:=2) sc_l_row_of.nd rfl vdM (M7 A3))
   (A8 (L6 PassesOwn.never (P5 (K:=K) (vi vdI)) (D3 (n:=3) sc_l_row_of.nd rfl vdN 'g') (A7 (qs_if (D6 (q_eq (K:=K) hu) (qe_ix (K:=K) (vi vdL) A4) (vi vdJ)) (A7 (C7 (n:=2) sc_l_row_of.nd rfl vdM (qe_op 'i' (vi vdK) (qe_cT (k8 (K:=K) (calm:=true)) T.b_list j9 (qa_c (L9 (K:=K) (vi vdL) (I0 A4) O4) A3))))) F7)))
   (A7 (E4 (vi vdK))))),?_⟩
  obtain ⟨a,ts,R,w,rfl,hR,hl,hz,q⟩:=h;walk_at "rd";intro f nf;refine ⟨⟨_,.of (D1 hR.top nf)⟩,forLs (xs:=ts.map V.ref) (fun i Y H2=>∃ (l:Addr) (u:Option V),Y=[some (.ref a),some (.str w),some (.ref l),u]/\Same H H2/\H l=none/\H2 l=some (.lst ((rowsW (R.take i) w).flatten.map V.str))/\(rowsW (R.take i) w).flatten.length<=100*i) ⟨f,none,rfl,Same.new nf,nf,A5,F9 _⟩ (by rintro i Y H2 _ ⟨_,_,_,S,_⟩;exact .of (S _ _ hR.top)) ?_ ?_⟩
  .rintro P' Bk hP i x Y H2 hx ⟨l,u,rfl,S,nl,R0,hle⟩;obtain ⟨t,ht,rfl⟩:=G0 hx;obtain ⟨z,jC,D7⟩:=Paired.at hR.row ht;have N0:=hz z (N2 jC);have hi:i<R.length:=(G2.mp jC).1;have hT:C6 K H2 t ((z.1::z.2).map V.str):=.of (S _ _ D7);walk_at "rd";refine ⟨_,.inr hT,V.str z.1,T6 _ _,?_⟩;walk_at "rd";refine iteD (fun e=>rSlR.t hT (p7 (k:=1) 'h' 'c') fun s ns=>?_) fun e=>?_
   .rw [K5,xQ];walk_at "rd";refine rListR.l (.inr (.of A5)) fun s2 fH=>?_
    walk_at "rd";refine rAddR.l (D1 (D1 R0 ns) fH) A5 (by rw [A6,A6];exact O8 'a') fun s3 ns3=>?_
    have S2:=S.trans ((Same.new (u:=HO.tup (z.2.map V.str)) ns).trans (Same.new (u:=HO.lst (z.2.map V.str)) fH));exact hP _ _ _ ⟨s3,_,rfl,S2.trans (Same.new ns3),S2.free ns3,by rw [A5,tZ jC,if_pos e,E2],by rw [tZ jC,if_pos e,C4];lia⟩
   .exact hP _ _ _ ⟨l,_,rfl,S,nl,by rw [tZ jC,if_neg e];exact R0,by rw [tZ jC,if_neg e];lia⟩
  rintro Y H2 ⟨l,u,rfl,S,nl,R0,hle⟩;rw [A6,hR.len,K3] at R0;walk_at "rd";exact q l H2 nl S R0
theorem sc_l_forms:FnScope ["_law_rules_here", "_law_makes_here", "_law_k", "_law_case", "_law_other", "_law_j"] ["_law_rules_here", "_law_makes_here"] (C3 l9):=G1
abbrev lI:List Str:=["_law_rules_here", "_law_makes_here", "_law_k", "_law_case", "_law_other", "_law_j"]
theorem iB:VS lI l9 "_law_rules_here" 0:=vq
theorem vdP:VS lI l9 "_law_makes_here" 1:=vq
theorem lJ:VS lI l9 "_law_k" 2:=vq
theorem vdR:VS lI l9 "_law_case" 3:=vq
theorem vdS:VS lI l9 "_law_other" 4:=vq
theorem vdT:VS lI l9 "_law_j" 5:=vq
theorem vdU:LS l9 "_law_k":=lq
theorem vdV:LS l9 "_law_case":=lq
theorem vdW:LS l9 "_law_other":=lq
theorem vdX:LS l9 "_law_j":=lq
theorem ajF(F:FunD K "_law_forms" "_law_forms" l9 f fd)(T:Txt P w K mg C):FnOk P w K mg base E6 1 f fd ["_law_rules_here", "_law_makes_here"] (ag3 K):=by
 refine F.ok sc_l_forms ?_ ?_
 .rintro _ _ _ _ ⟨a,d,ts,R,ns,ls,ms,P,H0,rfl,_⟩;rfl
 .intro cdv A outer s H vs Q E hr h;have C2:=hu_of hr;have hu:=hr.units;refine ⟨_,QSs.out (A7 (L6 PassesOwn.never (qi_r1 T.b_range (qa_c (qe_cB (q_len (K:=K)) T.b_len P3 (qa_c (vi iB) A3)) A3)) (D3 (n:=2) sc_l_forms.nd rfl vdU 'g') (A7 (qs_if (D6 (q_eq (K:=K) hu) (qe_ix (K:=K) (qe_ix (K:=K) (vi iB) (vi lJ)) A4) G5) (A8 (C7 (n:=3) sc_l_forms.nd rfl vdV A4)
   (A8 (L6 PassesOwn.never (P5 (K:=K) (L9 (K:=K) (vi iB) O4 (I0 (vi lJ)))) (D3 (n:=4) sc_l_forms.nd rfl vdW 'g') (A7 (qs_if (D6 (q_eq (K:=K) hu) (L9 (K:=K) (vi vdS) O4 (I0 A4)) (L9 (K:=K) (qe_ix (K:=K) (vi iB) (vi lJ)) O4 (I0 A4))) (A7 (C7 (n:=3) sc_l_forms.nd rfl vdV (qe_op q_sub (qe_op 'i' (vi vdR) (qe_cB (q_len (K:=K)) T.b_len P3 (qa_c (vi vdS) A3))) A4))) F7)))
   (A7 (L6 PassesOwn.never (qi_r2 T.b_range (qa_c A4 (qa_c (qe_cB (q_len (K:=K)) T.b_len P3 (qa_c (qe_ix (K:=K) (vi iB) (vi lJ)) A3)) A3))) (D3 (n:=5) sc_l_forms.nd rfl vdX 'g') (A7 (e9 C2 (vi vdP) (qe_ix (K:=K) (qe_ix (K:=K) (vi iB) (vi lJ)) (vi vdT)) (M7 (qa_c (K7 (qa_c A4 (qa_c (qe_ix (K:=K) (qe_ix (K:=K) (e8 C2 (vi vdP) (qe_ix (K:=K) (qe_ix (K:=K) (vi iB) (vi lJ)) A4)) A4) A4) (qa_c (qe_op q_sub (qe_op 'i' (vi vdR) (vi vdT)) A4) A3)))) A3)))))))) F7)))),?_⟩
  obtain ⟨a,d,ts,R,ns,ls,ms,P,H0,rfl,nd,hR,hR0,G,hL,hM,J,hlP,hPl,q⟩:=h;have md:=yO G.good hL hM;have hRl:=G.len;have hfA:∀ n,(P6 (R.take n)).length<=10000:=fun n=>by
   have h1:(P6 (R.take n)).length<=(D0 (R.take n)).length:=by
    unfold P6;rw [<- aT,A6];exact mN _ _
   obtain ⟨more,e⟩:=yA R n;have h2:=G.good.plen;rw [e,C4] at h2;lia
  have hgr:∀ z∈R,z.1='e'->∃ l fs,z=('e',l::fs)/\l∈ls:=fun z hz e=>by
   rcases G.each hz with rfl | rfl | o | o
   .exact absurd (show Str.ofString "row"=_ from e) 'd'
   .exact absurd (show Str.ofString "marks"=_ from e) 'd'
   .rcases o with ⟨_,l,fs,e2,hl,_⟩ | ⟨e2,_⟩ | ⟨e2,_⟩
    .exact ⟨l,fs,Prod.ext e e2,hl⟩
    .rw [e2] at e;exact absurd e 'd'
    .rw [e2] at e;exact absurd e 'd'
   .exact absurd e o.2.no.2.2.1
  walk_at "rd";refine ⟨R.length,.inl ⟨_,.of hR.top,by rw [A6,hR.len]⟩,by lia,by lia,forRs (fun i Y H2=>∃ (u v w x:Option V),Y=[some (.ref a),some (.ref d),u,v,w,x]/\MkI H0 H2 d (P++P6 (R.take i)) (stepF R ls ms)) ⟨none,none,none,none,rfl,by rw [j4,show P6 []=[] from rfl,K9];exact J⟩ ?_ ?_⟩
  .clear J;rintro P' Bk hP i Y H2 hi ⟨u,v,w,x,rfl,J⟩;have hi:i<R.length:=by lia
   have hit:i<ts.length:=by rw [hR.len];exact hi
   have hz:R[i]?=some R[i]:=K8 hi;have iY:ts[i]?=some ts[i]:=K8 hit;generalize jC:R[i]=z at hz;generalize ts[i]=t at iY;obtain ⟨z',eY,D7⟩:=Paired.at hR0.row iY;rw [hz] at eY;cases eY;have j0:=N2 hz;have K1:G4 (ts.map V.ref) (0+(i:Int))=some (V.ref t):=by rw [bX];exact N9 (by rw [T8,iY];rfl)
   have hT:C6 K H2 t ((z.1::z.2).map V.str):=.of (J.same _ _ D7);walk_at "rd";refine ⟨_,.inl (.of (J.same _ _ hR0.top)),_,K1,?_⟩;walk_at "rd";refine ⟨_,.inr hT,V.str z.1,T6 _ _,?_⟩;walk_at "rd";refine iteD (fun e=>?_) fun e=>hP _ _ _ ⟨_,_,_,_,rfl,by rw [ae3 hz,ak6 e,K9];exact J⟩
   obtain ⟨l,fs,rfl,hl⟩:=hgr z j0 e;have iX:l∈E8 R:=mem_formKs.mpr ⟨(l,fs),fT.mpr ⟨_,j0,by rw [if_pos rfl];rfl⟩,rfl⟩;refine rSlR.l (.of (J.same _ _ hR0.top)) fun s fH=>?_
   rw [show cutV (ts.map V.ref) none (some (0+(i:Int)))=(ts.take i).map V.ref by rw [bX,aS,u9]];have S3:Same H2 (A0 H2 s (.lst ((ts.take i).map V.ref))):=Same.new fH;have jD:A0 H2 s (.lst ((ts.take i).map V.ref)) s=some (.lst ((ts.take i).map V.ref)):=A5;generalize A0 H2 s (.lst ((ts.take i).map V.ref))=H3 at S3 jD;have J3:=J.more S3;clear hT J;refine ⟨s,rfl,⟨_,.of jD⟩,forLs (xs:=(ts.take i).map V.ref) (fun m Y H4=>∃ (w:Option V),Y=[some (.ref a),some (.ref d),some (.int (0+(i:Int))),some (.int (1+((E3 (R.take m) l).length:Int))),w,x]/\Same H3 H4) ⟨w,by rfl,aQ _⟩ (by rintro m Y H4 _ ⟨_,_,S⟩;exact .of (S _ _ jD)) ?_ ?_⟩
   .rintro P2 B2 hP2 m y Y H4 hy ⟨w,rfl,S4⟩;obtain ⟨t2,rG,rfl⟩:=G0 hy;have hmi:m<i:=by
     have:=(G2.mp rG).1
     rw [E9] at this;lia
    rw [jK hmi] at rG;obtain ⟨z2,fO,rH⟩:=Paired.at hR0.row rG;have hz2m:=N2 fO;have J4:=J3.more S4;have hT2:C6 K H4 t2 ((z2.1::z2.2).map V.str):=.of (J4.same _ _ rH);walk_at "rd";refine W5 hT2 fun p1 H5 S5 z0=>?_
    have J5:=J4.more S5;have hT5:C6 K H5 t ((('e',l::fs).1::('e',l::fs).2).map V.str):=.of (J5.same _ _ D7);refine ⟨_,.inl (.of (J5.same _ _ hR0.top)),_,K1,?_⟩
    try walk_at "rd"
    refine W5 hT5 fun p2 H6 S6 U4=>?_
    rw [<- u9] at z0 U4;have ok1:∀ y∈(z2.1::z2.2).take 2,W0 y=true:=fun y hy=>G.str z2 hz2m y (jM hy)
    have ok2:∀ y∈('e'::l::fs).take 2,W0 y=true:=fun y hy=>G.str _ j0 y (jM hy)
    try walk_at "rd"
    refine ⟨_,.tup (C6.same S6 z0) (j8 ok1),_,.tup U4 (j8 ok2),by rw [g4,nQ];exact K6 (fW _ _) 'h',?_⟩;rw [aiN];have mF:=S4.trans (S5.trans S6);refine iteD (fun ee=>?_) fun ee=>?_
    .obtain ⟨fs2,rfl⟩:=ahM (show (z2.1::z2.2).take 2=['e',l] from ee);have hT6:C6 K H6 t2 ((('e',l::fs2).1::('e',l::fs2).2).map V.str):=C6.same (S5.trans S6) hT2;refine ⟨fs2.length+2,.inr (.inl ⟨_,hT6,by simp⟩),?_⟩;exact hP2 _ _ _ ⟨_,congrArg (fun v:V=>[some (V.ref a),some (.ref d),some (.int (0+(i:Int))),some v,some (.ref t2),x]) (congrArg V.int (by rw [M8 fO,kQ,if_pos rfl,C4];lia)),mF⟩
    .have e0:E3 (R.take (m+1)) l=E3 (R.take m) l:=by rw [M8 fO];exact agc ee
     exact hP2 _ _ _ ⟨_,by rw [e0],mF⟩
   rintro Y H4 ⟨w,rfl,S4⟩;rw [A6,E9,bR (by lia:i<=ts.length)];have J4:=J3.more S4;have hT4:C6 K H4 t ((('e',l::fs).1::('e',l::fs).2).map V.str):=.of (J4.same _ _ D7);walk_at "rd";refine ⟨_,.inl (.of (J4.same _ _ hR0.top)),_,K1,?_⟩;walk_at "rd";refine ⟨fs.length+2,.inr (.inl ⟨_,hT4,by simp⟩),?_⟩;have m9:fs.length<=100:=by have:=G.zl j0;simp only [K4] at this;lia
   have hfAi:=hfA i;have est:E3 (R.take (i+1)) l=E3 (R.take i) l++fs:=by rw [M8 hz,kQ,if_pos rfl]
   have dC:∀ j,j<fs.length->(E3 R l)[(E3 (R.take i) l).length+j]?=fs[j]?:=fun j hj=>by
    have e1:E3 R l=E3 (R.take (i+1)) l++E3 (R.drop (i+1)) l:=by
     unfold E3;rw [<- o3,<- dN,<- gO,V7]
    rw [e1,est,R3,fP (bQ _ _),Nat.add_sub_cancel_left,jI hj]
   refine ⟨by decide,by decide,by lia,by lia,forRs (fun jj Y H5=>∃ (x:Option V),Y=[some (.ref a),some (.ref d),some (.int (0+(i:Int))),some (.int (1+((E3 (R.take i) l).length:Int))),w,x]/\MkI H0 H5 d (P++P6 (R.take i)++fs.take jj) (stepF R ls ms)) ⟨x,rfl,by rw [j4,K9];exact J4⟩ ?_ ?_⟩
   .clear J4 hT4;rintro P2 B2 hP2 jj Y H5 hjj ⟨x,rfl,J5⟩;have hjj:jj<fs.length:=by lia
    have hf:fs[jj]?=some fs[jj]:=K8 hjj;generalize fs[jj]=f at hf;have hT5:C6 K H5 t ((('e',l::fs).1::('e',l::fs).2).map V.str):=.of (J5.same _ _ D7);obtain ⟨ad,h1,h2⟩:=J5.made;have L1:l∈G3 [] (P++P6 (R.take i)++fs.take jj):=(l6 _ _ _).mpr (.inr (T3 _ (T3 _ (hlP l hl))));obtain ⟨tt,e1,e2⟩:=(h2 l L1).ex;rw [md.letter hl] at e2;obtain ⟨t0,rfl,e3⟩:∃ t0,tt=[t0]/\H5 t0=some (tupT (2,(ls.idxOf l:Int),0)):=by
     cases e2 with
     | cons h t=>cases t;exact ⟨_,rfl,h⟩
    have hat2:G4 ((('e',l::fs).1::('e',l::fs).2).map V.str) (2+(jj:Int))=some (V.str f):=by
     rw [show (2+(jj:Int))=((jj+2:Nat):Int) by lia];exact N9 (by rw [T8];show (fs[jj]?).map V.str=_;rw [hf];rfl)
    walk_at "rd";refine ⟨_,.inl (.of (J5.same _ _ hR0.top)),_,K1,?_⟩;walk_at "rd";refine ⟨_,.inr hT5,V.str l,N9 (j:=1) rfl,V.ref (ad l),.inl ⟨_,Sum.inr l,.inl h1,rfl,by rw [O3,if_pos L1]⟩,?_⟩;walk_at "rd";refine ⟨_,.inl (.of e1),V.ref t0,T6 _ _,?_⟩;walk_at "rd";refine ⟨_,.inr (.of e3),V.int (ls.idxOf l:Int),N9 (j:=1) rfl,by decide,fun p1 N1=>⟨by decide,fun p2 Z4=>?_⟩⟩;have S6:Same H5 (A0 (A0 H5 p1 (.tup [V.int 2,V.int (ls.idxOf l:Int),V.int (1+((E3 (R.take i) l).length:Int)+(2+(jj:Int))-2)])) p2 (.lst [V.ref p1])):=(Same.new N1).trans (Same.new Z4);have Q8:StepL (A0 (A0 H5 p1 (.tup [V.int 2,V.int (ls.idxOf l:Int),V.int (1+((E3 (R.take i) l).length:Int)+(2+(jj:Int))-2)])) p2 (.lst [V.ref p1])) p2 (stepF R ls ms f):=by
     rw [md.gr l iX ((E3 (R.take i) l).length+jj) f (by rw [dC jj hjj];exact hf)];refine StepL.one A5 ?_;rw [show ((((E3 (R.take i) l).length+jj+1:Nat)):Int)=1+((E3 (R.take i) l).length:Int)+(2+(jj:Int))-2 by lia];exact D1 A5 Z4
    generalize A0 (A0 H5 p1 (.tup [V.int 2,V.int (ls.idxOf l:Int),V.int (1+((E3 (R.take i) l).length:Int)+(2+(jj:Int))-2)])) p2 (.lst [V.ref p1])=H6 at S6 Q8;have J6:=J5.more S6;refine ⟨_,.inl (.of (J6.same _ _ hR0.top)),_,K1,?_⟩;walk_at "rd";refine ⟨_,.inr (C6.same S6 hT5),V.str f,hat2,?_⟩;obtain ⟨xx,hx,J7⟩:=J6.put nd (by simp only [C4,E9];lia) Q8;exact ⟨xx,hx,hP2 _ _ _ ⟨_,rfl,by rw [M8 hf,<- R3];exact J7⟩⟩
   .rintro Y H5 ⟨x,rfl,J5⟩;rw [show (((fs.length+2:Nat):Int)-2).toNat=fs.length by lia,K3] at J5;exact hP _ _ _ ⟨_,_,_,_,rfl,by rw [ae3 hz,ajv,<- R3];exact J5⟩
  rintro Y H2 ⟨u,v,w,x,rfl,J⟩;rw [show ((R.length:Int)).toNat=R.length by lia,K3] at J;exact q H2 J
theorem sc_l_makes:FnScope ["_law_rules_here", "_law_makes_here", "_law_place", "_law_piece", "_law_rule"] ["_law_rules_here"] (C3 m5):=G1
abbrev pG:List Str:=["_law_rules_here", "_law_makes_here", "_law_place", "_law_piece", "_law_rule"]
theorem lK:VS pG m5 "_law_rules_here" 0:=vq
theorem iC:VS pG m5 "_law_makes_here" 1:=vq
theorem vd0:VS pG m5 "_law_place" 2:=vq
theorem vd1:VS pG m5 "_law_piece" 3:=vq
theorem vd2:VS pG m5 "_law_rule" 4:=vq
theorem vd3:LS m5 "_law_makes_here":=lq
theorem vd4:LS m5 "_law_place":=lq
theorem vd5:LS m5 "_law_piece":=lq
theorem vd6:LS m5 "_law_rule":=lq
theorem ajG(F:FunD K "_law_makes" "_law_makes" m5 f fd)(T:Txt P w K mg C)(G_l_row_of:FO P w K mg base 1 "_law_row_of" ["_law_rules_here", "_law_word"] [] (zD K))(G_l_forms:FO P w K mg base 1 "_law_forms" ["_law_rules_here", "_law_makes_here"] [] (ag3 K)):FnOk P w K mg base E6 2 f fd ["_law_rules_here"] (ak7 K):=by
 refine F.ok sc_l_makes ?_ ?_
 .rintro _ _ _ _ ⟨a,ts,R,ns,ls,ms,rfl,_⟩;rfl
 .intro cdv A outer s H vs Q E hr h;have C2:=hu_of hr;have hu:=hr.units;refine ⟨_,QSs.out (A8 (C7 (n:=1) sc_l_makes.nd rfl vd3 gI)
   (A8 (L6 PassesOwn.never (oB T.b_enumerate (qa_c (C8 G_l_row_of (hm hr) (qa_c (vi lK) (qa_c G5 A3))) A3)) (k5 (K:=K) (n:=2) (O2 ((D3 (n:=2) sc_l_makes.nd rfl vd4 'g')) (O2 ((D3 (n:=3) sc_l_makes.nd rfl vd5 'g')) k4))) (A7 (e9 C2 (vi iC) (vi vd1) (M7 (qa_c (K7 (qa_c A4 (qa_c (vi vd0) (qa_c A4 A3)))) A3)))))
   (A8 (L6 PassesOwn.never (oB T.b_enumerate (qa_c (C8 G_l_row_of (hm hr) (qa_c (vi lK) (qa_c G5 A3))) A3)) (k5 (K:=K) (n:=2) (O2 ((D3 (n:=2) sc_l_makes.nd rfl vd4 'g')) (O2 ((D3 (n:=3) sc_l_makes.nd rfl vd5 'g')) k4))) (A7 (e9 C2 (vi iC) (vi vd1) (M7 (qa_c (K7 (qa_c A4 (qa_c (vi vd0) (qa_c A4 A3)))) A3)))))
   (A8 (L6 PassesOwn.never (P5 (K:=K) (vi lK)) (D3 (n:=4) sc_l_makes.nd rfl vd6 'g') (A7 (qs_if (D6 (q_eq (K:=K) hu) (qe_ix (K:=K) (vi vd2) A4) G5) (A7 (e9 C2 (vi iC) (qe_ix (K:=K) (vi vd2) A4) (k7  (T9:CompOk ["_law_rules_here", "_law_makes_here", "_law_place", "_law_piece", "_law_rule"] (C3 m5).names _ ["_law_part_here", "_law_makes_here"] 1 [1]) (gJ (K:=K) (L9 (K:=K) (vi vd2) (I0 A4) O4)) (fun _ _ _ _ _=>D3 (n:=0) (show List.Nodup (["_law_part_here", "_law_makes_here"]:List Str) by decide +kernel) rfl (Or.inl rfl)) (fun _ _ _ _ _=>k6) (fun _ _ _ _ _=>(qe_ix (K:=K) (e8 C2 (qv 1) (qv 0)) A4))))) F7)))
   (A8 (O9 (C8 G_l_forms (hm hr) (qa_c (vi lK) (qa_c (vi iC) A3))))
   (A8 (L6 PassesOwn.never (P5 (K:=K) (C8 G_l_row_of (hm hr) (qa_c (vi lK) (qa_c G5 A3)))) (D3 (n:=3) sc_l_makes.nd rfl vd5 'g') (A7 (e9 C2 (vi iC) (vi vd1) (M7 A3))))
   (A8 (qs_if (D6 (q_inD (K:=K) hu) (K7 (qa_c G5 A3)) (vi lK)) (A7 (e9 C2 (vi iC) G5 (M7 A3))) F7)
   (A7 (E4 (vi iC)))))))))),?_⟩
  obtain ⟨a,ts,R,ns,ls,ms,rfl,hR,G,hL,hM,q⟩:=h;have md:=yO G.good hL hM;have hRl:=G.len;have N0:=fun z hz=>K6 (G.zl (z:=z) hz) (by decide:19<=100)
  have qF:=G.l1;have hm1:=G.m1;walk_at "rd";intro d nd;have J0:MkI H (A0 H d (.dK [])) d [] (stepF R ls ms):=⟨Same.new nd,fun _=>d,A5,by simp [G3]⟩
  generalize A0 H d (.dK [])=H1 at J0;refine ⟨a,ts,R, "row",rfl,hR.same J0.same,by lia,N0,fun l1 H2 bL S2 dE=>?_⟩;rw [G.row,fU,List.flatten_nil,K9] at dE;have nl1d:l1≠d:=fun e=>by obtain ⟨_,h1,_⟩:=J0.made;rw [<- e,bL] at h1;cases h1
  obtain ⟨B,SB,nB,JB,kB⟩:=(J0.more S2).cut nd;have hB1:=kB _ _ nl1d dE;refine ⟨l1,rfl,⟨_,dE⟩,forE (xs:=ls.map V.str) (fun i Y H3=>∃ (u v w:Option V),Y=[some (.ref a),some (.ref d),u,v,w]/\MkI B H3 d (ls.take i) (stepF R ls ms)) ⟨none,none,none,rfl,JB⟩ (by rintro i Y H3 ⟨_,_,_,_,h⟩;exact h.same _ _ hB1) ?_ ?_⟩
  .rintro i x t Y H3 hx ⟨u,v,w,rfl,J⟩ nt;obtain ⟨l,hl,rfl⟩:=G0 hx;walk_at "rd";refine ⟨_,.of A5,rfl,_,_,rfl,_,_,rfl,rfl,by decide,fun p np=>⟨by decide,fun p1 N1=>?_⟩⟩;rw [M8 hl];exact MkI.put nB (((J.more (Same.new nt)).more (Same.new np)).more (Same.new N1)) (by rw [E9];lia) (by
    rw [md.lt i l hl];exact StepL.one A5 (D1 A5 N1))
  rintro Y H3 ⟨u,v,w,rfl,J⟩;rw [A6,K3] at J;have J3:=J.base SB;clear J JB hB1 kB nB SB B J0 bL S2 dE nl1d l1 H2 H1;walk_at "rd";refine ⟨a,ts,R, "marks",rfl,hR.same J3.same,by lia,N0,fun l2 H4 bM S4 R0=>?_⟩;rw [G.mrk.1] at R0;have nl2d:l2≠d:=fun e=>by obtain ⟨_,h1,_⟩:=J3.made;rw [<- e,bM] at h1;cases h1
  obtain ⟨B,SB,nB,JB,kB⟩:=(J3.more S4).cut nd;have hB1:=kB _ _ nl2d R0;refine ⟨l2,rfl,⟨_,R0⟩,forE (xs:=ms.map V.str) (fun i Y H3=>∃ (u v w:Option V),Y=[some (.ref a),some (.ref d),u,v,w]/\MkI B H3 d (ls++ms.take i) (stepF R ls ms)) ⟨u,v,w,rfl,by rw [j4,K9];exact JB⟩ (by rintro i Y H3 ⟨_,_,_,_,h⟩;exact h.same _ _ hB1) ?_ ?_⟩
  .rintro i x t Y H3 hx ⟨u,v,w,rfl,J⟩ nt;obtain ⟨l,hl,rfl⟩:=G0 hx;walk_at "rd";refine ⟨_,.of A5,rfl,_,_,rfl,_,_,rfl,rfl,by decide,fun p np=>⟨by decide,fun p1 N1=>?_⟩⟩;rw [M8 hl,<- R3];exact MkI.put nB (((J.more (Same.new nt)).more (Same.new np)).more (Same.new N1)) (by rw [C4,E9];lia) (by
    rw [md.mr i l hl];exact StepL.one A5 (D1 A5 N1))
  clear J3;rintro Y H5 ⟨u,v,w,rfl,J⟩;rw [A6,K3] at J;have J5:=J.base SB;clear J JB hB1 kB nB SB B bM S4 R0 nl2d l2 H4 H3;walk_at "rd";refine ⟨⟨_,.of (J5.same _ _ hR.top)⟩,forLs (xs:=ts.map V.ref) (fun i Y H6=>∃ (w:Option V),Y=[some (.ref a),some (.ref d),u,v,w]/\MkI H H6 d (ls++ms++asKs (R.take i)) (stepF R ls ms)) ⟨w,rfl,by rw [j4,show asKs []=[] from rfl,K9];exact J5⟩ (by rintro i Y H6 _ ⟨_,_,h⟩;exact .of (h.same _ _ hR.top)) ?_ ?_⟩
  .clear J5;rintro P' Bk hP i x Y H6 hx ⟨w,rfl,J⟩;obtain ⟨t,ht,rfl⟩:=G0 hx;obtain ⟨zz,hz,D7⟩:=Paired.at hR.row ht;have j0:=N2 hz;have dA:=yM (R.take i);rw [E9] at dA;have hT:C6 K H6 t ((zz.1::zz.2).map V.str):=.of (J.same _ _ D7);walk_at "rd";refine ⟨_,.inr hT,V.str zz.1,T6 _ _,?_⟩;walk_at "rd";refine iteD (fun has=>?_) fun has=>hP _ _ _ ⟨_,rfl,by rw [tJ hz,yK has,K9];exact J⟩
   have G9:=md.ne _ j0 (.inl has);have fJ:=N0 _ j0;have hpt:=md.pt _ j0 has;have hasF:=md.as _ j0 has;obtain ⟨w1,ps⟩:=zz;obtain rfl:w1=("as" : Str):=has;obtain ⟨p,qs,rfl⟩:∃ p qs,ps=p::qs:=by
    cases ps with
    | nil=>exact absurd rfl G9
    | cons p qs=>exact ⟨p,qs,rfl⟩
   have n8:cutV (((("as" : Str),p::qs).1::(("as" : Str),p::qs).2).map V.str) (some 2) none=qs.map V.str:=p5 _ 2;simp only [K4] at fJ;refine rSlR.t hT (p7 (k:=2) 'h' 'c') fun s fH=>?_
   rw [n8];have S7:Same H6 (A0 H6 s (.tup (qs.map V.str))):=Same.new fH;have hs:A0 H6 s (.tup (qs.map V.str)) s=some (.tup (qs.map V.str)):=A5;generalize A0 H6 s (.tup (qs.map V.str))=H7 at S7 hs;have J7:=J.more S7;obtain ⟨ad,h1,h2⟩:=J7.made;refine ⟨s,rfl,⟨_,.of hs⟩,compT (xs:=qs.map V.str) [some (.ref d)] rfl (fun D j ys H8=>∃ Z5:List Addr,ys=Z5.map V.ref/\Same H7 H8/\Paired (fun t s=>H7 t=some (tupT s)) Z5 ((qs.take j).map fun q=>(stepF R ls ms q).headD (0,0,0))) (fun D nD=>⟨[],rfl,Same.new nD,.nil⟩) (by rintro D j ys H8 nD _ ⟨_,_,S,_⟩;exact .of (S _ _ hs)) ?_ ?_⟩
   .rintro D j yv ys H8 nD hi hy ⟨Z5,rfl,S8,P8⟩ hD F8;obtain ⟨qq,hq,rfl⟩:=G0 hy;have qW:=hpt qq (N2 hq);obtain ⟨st,Q8⟩:=md.base qW;have L1:qq∈G3 [] (ls++ms++asKs (R.take i)):=(l6 _ _ _).mpr (.inr (T3 _ (E1.mpr qW)));obtain ⟨tt,e1,e2⟩:=(h2 qq L1).ex;rw [Q8] at e2;obtain ⟨t0,rfl,e3⟩:∃ t0,tt=[t0]/\H7 t0=some (tupT st):=by
     cases e2 with
     | cons h t=>cases t;exact ⟨_,rfl,h⟩
    walk_at "rd";refine ⟨V.ref (ad qq),.inl ⟨_,Sum.inr qq,.inl (S8 _ _ h1),rfl,by rw [O3,if_pos L1]⟩,?_⟩;walk_at "rd";have bI:Z5.length<=1000:=by
     have:=Paired.length P8
     rw [A6,E9] at this;lia
    refine ⟨_,.inl (.of (S8 _ _ e1)),V.ref t0,T6 _ _,hD,by rw [A6];exact L3 'a',CW.put hi F8 ⟨Z5++[t0],by rw [E2];rfl,S8.put nD,?_⟩⟩;rw [M8 hq,E2];refine Paired.snoc P8 ?_;show H7 t0=some (tupT ((stepF R ls ms qq).headD (0,0,0)));rw [Q8];exact e3
   rintro D ys H8 nD ⟨Z5,rfl,S8,P8⟩ hD F8;rw [A6,K3] at P8;have K1:G4 (((("as" : Str),p::qs).1::(("as" : Str),p::qs).2).map V.str) 1=some (V.str p):=N9 (j:=1) rfl;refine ⟨_,.inr (C6.same (S7.trans S8) hT),V.str p,K1,?_⟩;obtain ⟨xx,hx,J9⟩:=MkI.put (l:=p) nd (J7.more S8) (by simp only [C4];lia) (by rw [hasF p qs rfl];exact ⟨Z5,hD,M5 P8 fun t s e=>S8 _ _ e⟩);exact ⟨xx,hx,hP _ _ _ ⟨_,rfl,by rw [tJ hz,yL,<- R3];exact J9⟩⟩
  clear J5;rintro Y H6 ⟨w,rfl,J⟩;rw [A6,hR.len,K3] at J;have dA:=yM R;walk_at "rd";refine ⟨a,d,ts,R,ns,ls,ms,_,H,rfl,nd,hR.same J.same,hR,G,hL,hM,J,fun p hp=>T3 _ (T3 _ hp),by simp only [C4];lia,fun H7 J7=>?_⟩;clear J;refine ⟨a,ts,R, "over",rfl,hR.same J7.same,by lia,N0,fun l3 H8 jB S8 hl3=>?_⟩;have nl3d:l3≠d:=fun e=>by obtain ⟨_,h1,_⟩:=J7.made;rw [<- e,jB] at h1;cases h1
  obtain ⟨B,SB,nB,JB,kB⟩:=(J7.more S8).cut nd;have hB1:=kB _ _ nl3d hl3;have m9:(P6 R).length<=10000:=by
   have h1:(P6 R).length<=(D0 R).length:=by
    unfold P6;rw [<- aT,A6];exact mN _ _
   have:=G.good.plen
   lia
  have hov:=amI (w:="over") N0;generalize bE:(rowsW R "over").flatten=os at hl3 hB1 hov;have hov2:os.length<=2000:=by lia
  refine ⟨l3,rfl,⟨_,.of hl3⟩,forLs (xs:=os.map V.str) (fun i Y H3=>∃ (v:Option V),Y=[some (.ref a),some (.ref d),u,v,w]/\MkI B H3 d (ls++ms++asKs R++P6 R++os.take i) (stepF R ls ms)) ⟨v,rfl,by rw [j4,K9];exact JB⟩ (by rintro i Y H3 _ ⟨_,_,h⟩;exact .of (h.same _ _ hB1)) ?_ ?_⟩
  .rintro P' Bk hP i x Y H3 hx ⟨v,rfl,J⟩;obtain ⟨l,hl,rfl⟩:=G0 hx;have hlo:stepF R ls ms l=[]:=G.over hL hM (by rw [bE];exact N2 hl);walk_at "rd";intro p np;obtain ⟨xx,hx,J2⟩:=MkI.put (l:=l) (p:=p) nB (J.more (Same.new (u:=.lst []) np)) (by simp only [C4,E9];lia) (by
    rw [hlo];exact ⟨[],A5,.nil⟩)
   exact ⟨xx,hx,hP _ _ _ ⟨_,rfl,by rw [M8 hl,<- R3];exact J2⟩⟩
  rintro Y H9 ⟨v,rfl,J⟩;rw [A6,K3] at J;have J9:=J.base SB;clear J JB hB1 kB nB SB B J7;walk_at "rd";have kin:∀ p,p∈G3 [] (ls++ms++asKs R++P6 R++os)↔p∈keysP (D0 R):=fun p=>by
   rw [l6,kK,G.names p,bE]
   simp
  refine ⟨by decide,fun p np=>?_⟩;have Z6:Same H9 (A0 H9 p (.tup [V.str (Str.ofString "blanks")])):=Same.new np;have rJ:A0 H9 p (.tup [V.str (Str.ofString "blanks")]) p=some (.tup ((("blanks" : Str)::[]).map V.str)):=A5;generalize A0 H9 p (.tup [V.str (Str.ofString "blanks")])=Q4 at Z6 rJ;have J10:=J9.more Z6;refine ⟨ruleD ("blanks",[]),.tup (.of rJ) (j8 (by intro y hy;rw [F6.mp hy];decide +kernel)),R.map ruleD,yQ (hR.same J10.same) G.str,K6 (fW _ _) (K6 (tM R) 'h'),?_⟩;rw [zE R "blanks" (G.flag (.inr (.inr rfl)))]
  by_cases hb:hasW R "blanks"=true
  .rw [if_pos hb];intro p1 N1;obtain ⟨x,hx,J11⟩:=MkI.put (l:=" ") (p:=p1) nd (J10.more (Same.new (u:=.lst []) N1)) (by simp only [C4];lia) (by rw [G.blank hL hM];exact ⟨[],A5,.nil⟩);refine ⟨x,hx,q d _ x nd J11.same J11.made (fun p=>?_) (K6 (dY _ []) (by simp only [C4,Y6,N3];lia))⟩;rw [yJ];unfold E5 X5;rw [if_pos hb,E1,<- kin p];unfold dd
   by_cases qV:(" " : Str)∈G3 [] (ls++ms++asKs R++P6 R++os)
   .rw [if_pos qV];exact ⟨.inl,fun h=>h.elim id fun e=>by rw [F6.mp e];exact qV⟩
   .rw [if_neg qV,E1]
  .rw [if_neg hb];refine q d _ Q4 nd J10.same J10.made (fun p=>?_) (K6 (dY _ []) (by simp only [C4,Y6];lia));unfold E5 X5;rw [if_neg hb,K9];exact kin p
theorem sc_l_parts:FnScope ["_law_makes_here", "_law_worth", "_law_text", "_law_parts_here", "_law_at", "_law_end"] ["_law_makes_here", "_law_worth", "_law_text"] (C3 t5):=G1
abbrev lL:List Str:=["_law_makes_here", "_law_worth", "_law_text", "_law_parts_here", "_law_at", "_law_end"]
theorem vd7:VS lL t5 "_law_makes_here" 0:=vq
theorem vd8:VS lL t5 "_law_worth" 1:=vq
theorem lM:VS lL t5 "_law_text" 2:=vq
theorem vea:VS lL t5 "_law_parts_here" 3:=vq
theorem iD:VS lL t5 "_law_at" 4:=vq
theorem pH:VS lL t5 "_law_end" 5:=vq
theorem ved:LS t5 "_law_parts_here":=lq
theorem vee:LS t5 "_law_at":=lq
theorem vef:LS t5 "_law_end":=lq
theorem ajH(F:FunD K "_law_parts" "_law_parts" t5 f fd)(T:Txt P w K mg C):FnOk P w K mg base E6 1 f fd ["_law_makes_here", "_law_worth", "_law_text"] aiO:=by
 refine F.ok sc_l_parts ?_ ?_
 .rintro _ _ _ _ ⟨d,z,ks,f,w,rfl,_⟩;rfl
 .intro cdv A outer s H vs Q E hr h;have C2:=hu_of hr;have hu:=hr.units;refine ⟨_,QSs.out (A8 (C7 (n:=3) sc_l_parts.nd rfl ved (M7 A3))
   (A8 (C7 (n:=4) sc_l_parts.nd rfl vee A4)
   (A8 (nV PassesOwn.never (D6 q_lt (vi iD) (qe_cB (q_len (K:=K)) T.b_len P3 (qa_c (vi lM) A3))) (A8 (C7 (n:=5) sc_l_parts.nd rfl vef (qe_op 'i' (vi iD) A4))
   (V1 (qs_if (QW.pt (p0 (W7 (K:=K) (vi vd8)) (v8 (D6 (q_in (K:=K) hu) (qe_ix (K:=K) (vi lM) (vi iD)) G5)))) (A7 (nV PassesOwn.never (QW.pt (p0 (D6 q_lt (vi pH) (qe_cB (q_len (K:=K)) T.b_len P3 (qa_c (vi lM) A3))) (v8 (D6 (q_in (K:=K) hu) (qe_ix (K:=K) (vi lM) (vi pH)) G5)))) (A7 (C7 (n:=5) sc_l_parts.nd rfl vef (qe_op 'i' (vi pH) A4))))) (A7 (qs_if (D6 (q_in (K:=K) hu) (L9 (K:=K) (vi lM) (I0 (vi iD)) (I0 (qe_op 'i' (vi iD) A4))) (vi vd7)) (A7 (C7 (n:=5) sc_l_parts.nd rfl vef (qe_op 'i' (vi iD) A4))) F7)))
   (A8 (O9 (qe_mB (K:=K) Q5 U9 U8 V0 (vi vea) (qa_c (L9 (K:=K) (vi lM) (I0 (vi iD)) (I0 (vi pH))) A3)))
   (A7 (C7 (n:=4) sc_l_parts.nd rfl vee (vi pH)))))))
   (A7 (E4 (vi vea)))))),?_⟩
  obtain ⟨d,z,ks,f,w,rfl,hd,hz,hw,q⟩:=h;have hsz:z.length<=sizeLine:=O8 'a';walk_at "rd";refine fun p np=>nW (fun m Y H6=>∃ (pre rest:List Nat) (ps:List Str) (n:Nat) (u:Option V),Y=[some (.ref d),some (.bl w),some (.str z),some (.ref p),some (.int n),u]/\Same H H6/\H6 p=some (.lst (ps.map V.str))/\z.cps.toList=pre++rest/\(rest≠[]->n=pre.length)/\(rest=[]->z.length<=n)/\(cutF w ks z.cps.toList).1=pre.length+(cutF w ks rest).1/\(cutF w ks z.cps.toList).2=ps++(cutF w ks rest).2/\ps.length<=pre.length/\m=rest.length) z.cps.toList.length
   ⟨[],z.cps.toList,[],0,none,rfl,Same.new np,A5,rfl,fun _=>rfl,fun e=>by rw [<- lenL,e];exact B5 _,by simp,rfl,F9 _,rfl⟩ ?_
  rintro m Y H6 ⟨pre,rest,ps,n,u,rfl,S6,h6,N0,rC,lP,Z7,Q9,L5,rfl⟩;have A9:z.length=pre.length+rest.length:=by
   have:=congrArg Y8 N0
   rw [lenL,C4] at this;exact this
  walk_at "rd";refine ⟨hsz,iteD (fun C9=>?_) fun lU=>?_⟩
  .cases rest with
   | nil=>
    exfalso
    have:=lP rfl
    lia
   | cons c r=>
    have hn:=rC 'c';subst hn;have X8:=hw;cases hy:partF w ks (c::r) with
    | none=>
     exfalso
     rw [gT hy] at Z7;unfold W8 at X8;rw [Z7] at X8;simp at A9 X8;lia
    | some y=>
     obtain ⟨rest',e1,e2,e3⟩:=eF hy;rw [e2] at Z7 Q9;have el:y.cps.toList.length=y.length:=by simp [Str.length]
     have erl:(c::r).length=y.length+rest'.length:=by rw [e1,C4,el]
     have ha:G4 z.cps.toList (pre.length:Int)=some c:=by rw [N0];exact tR
     refine ⟨_,fun _ _ h=>h,g8 (fun Y H2=>∃ (e:Nat),Y=[some (.ref d),some (.bl w),some (.str z),some (.ref p),some (.int pre.length),some (.int e)]/\H2=H6/\(e=pre.length+y.length\/(y=one c/\r=[]/\e=pre.length+2))) ?_ ?_⟩
     .have hd6:=S6 _ _ hd;have fin:partG ks (c::r)=some y->z.length<=sizeLine/\rInR K false (V.str (cutS z (some (pre.length:Int)) (some ((pre.length:Int)+2)))) d H6 fun x H'=>∃ k,x=V.bl k/\if k=true then ∃ e:Nat,(pre.length:Int)+2=(e:Int)/\H'=H6/\(e=pre.length+y.length\/y=one c/\r=[]/\e=pre.length+2) else ∃ e:Nat,(pre.length:Int)+1=(e:Int)/\H'=H6/\(e=pre.length+y.length\/y=one c/\r=[]/\e=pre.length+2):=fun hp=>by
       cases r with
       | nil=>
        rw [eE] at hp
        by_cases h1:one c∈ks
        .rw [if_pos h1] at hp;obtain rfl:=Option.some.inj hp;rw [tQ N0];refine ⟨hsz,rInR.d (c9 (k:=Sum.inr (one c)) hd6) ⟨_,rfl,?_⟩⟩;rw [O3,if_pos h1];exact iteT ⟨pre.length+2,by lia,rfl,.inr ⟨rfl,rfl,rfl⟩⟩
        .rw [if_neg h1] at hp;cases hp
       | cons e r=>
        rw [l7] at hp;have ec:cutS z (some (pre.length:Int)) (some ((pre.length:Int)+2))=L4 c e:=oJ (y:=[c,e]) (rest:=r) N0;rw [ec];refine ⟨hsz,rInR.d (c9 (k:=Sum.inr (L4 c e)) hd6) ⟨_,rfl,?_⟩⟩;rw [O3]
        by_cases h2:L4 c e∈ks
        .rw [if_pos h2] at hp ⊢
         obtain rfl:=Option.some.inj hp;exact iteT ⟨pre.length+2,by lia,rfl,.inl rfl⟩
        .rw [if_neg h2] at hp ⊢
         by_cases h1:one c∈ks
         .rw [if_pos h1] at hp;obtain rfl:=Option.some.inj hp;exact iteF ⟨pre.length+1,by lia,rfl,.inl rfl⟩
         .rw [if_neg h1] at hp;cases hp
      rw [cH] at hy;walk_at "rd"
      cases w with
      | false=>
       rw [jR,if_neg M4] at hy;exact iteF (fin hy)
      | true=>
       rw [Bool.true_and] at hy;refine iteT ⟨hsz,c,ha,?_⟩;rw [yW,bS]
       by_cases hf:figO c=true
       .rw [if_pos hf] at hy ⊢
        obtain rfl:=Option.some.inj hy;refine nW (fun m Y H2=>∃ (run left:List Nat),Y=[some (.ref d),some (.bl true),some (.str z),some (.ref p),some (.int pre.length),some (.int ((pre++run).length:Nat))]/\H2=H6/\c::r=run++left/\(c::r).takeWhile figO=run++left.takeWhile figO/\m=left.length) r.length ⟨[c],r,by simp,rfl,rfl,by rw [jH hf];rfl,rfl⟩ ?_;rintro m Y H2 ⟨run,left,rfl,rfl,hr,mE,rfl⟩;have dB:z.cps.toList=pre++(run++left):=by rw [N0,hr]
        have fK:(c::r).length=run.length+left.length:=by rw [hr,C4]
        have hpr:(pre++run).length=pre.length+run.length:=C4;have rK:left.takeWhile figO=[]->(pre++run).length=pre.length+(⟨((c::r).takeWhile figO).toArray⟩:Str).length:=fun h=>by
         rw [<- lenL];show _=pre.length+((c::r).takeWhile figO).length;rw [mE,h,K9,hpr]
        walk_at "rd";refine ⟨hsz,iteD (fun C9=>⟨hsz,?_⟩) fun lU=>?_⟩
        .cases left with
         | nil=>
          rw [Y6] at fK;lia
         | cons x l2=>
          refine ⟨x,by rw [dB,<- R3];exact tR,?_⟩;rw [yW,bS]
          by_cases hx:figO x=true
          .rw [hx];refine iteT ⟨_,fun _ _ h=>h,l2.length,by simp,run++[x],by simp;lia,rfl,l2,by rw [hr];simp,?_,rfl⟩;rw [mE,jH hx]
           simp
          .rw [fX] at hx;rw [hx];exact iteF ⟨_,rfl,.inl (rK (List.takeWhile_cons_of_neg (by simp [hx])))⟩
        .have pX:left=[]:=j3.mp 'a';exact ⟨_,rfl,.inl (rK (by rw [pX];rfl))⟩
       .rw [if_neg hf] at hy ⊢
        exact fin hy
     .rintro Y H2 ⟨e,rfl,rfl,he⟩;have ec:cutS z (some (pre.length:Int)) (some (e:Int))=y:=by
       rcases he with rfl | ⟨rfl,rfl,rfl⟩
       .have:=oJ (y:=y.cps.toList) (rest:=rest') (pre:=pre) (z:=z) (N0.trans (by rw [e1]))
        rw [el] at this;exact this
       .exact tQ N0
      walk_at "rd";rw [ec];refine ⟨Q7 h6,hsz,appOk h6 (by rw [A6];exact L3 'a') ⟨rest'.length,by rw [K4] at erl;lia,pre++y.cps.toList,rest',ps++[y],e,rfl,S6.put np,by rw [A5,E2];rfl,N0.trans (by rw [R3];exact congrArg (pre++·) e1),fun G9=>?_,fun h0=>?_,by rw [C4,el,Z7];dsimp only;lia,by rw [Q9,R3];rfl,by rw [C4,C4,el,N3];lia,rfl⟩⟩
      .rw [C4,el]
       rcases he with rfl | ⟨rfl,rfl,rfl⟩
       .rfl
       .have:rest'.length=0:=by
         have h1:(one c).length=1:=rfl;rw [h1,N3] at erl;lia
        exact absurd (j3.mp this) G9
      .rw [h0,Y6] at erl
       rcases he with rfl | ⟨rfl,rfl,rfl⟩
       .lia
       .simp at A9;lia
  .have hr:rest=[]:=by
    cases rest with
    | nil=>rfl
    | cons c r=>have:=rC 'c';simp at A9;lia
   rw [hr] at Z7 Q9;refine q p H6 np S6 ?_;rw [h6,Q9];show some (HO.lst (ps.map V.str))=some (HO.lst ((ps++[]).map V.str));rw [K9]
theorem sc_l_units:FnScope ["_law_makes_here", "_law_worth", "_law_text", "_law_found", "_law_part_here", "_law_steps", "_law_kind", "_law_place", "_law_case", "_law_last"] ["_law_makes_here", "_law_worth", "_law_text"] (C3 V3):=G1
abbrev bA:List Str:=["_law_makes_here", "_law_worth", "_law_text", "_law_found", "_law_part_here", "_law_steps", "_law_kind", "_law_place", "_law_case", "_law_last"]
theorem veg:VS bA V3 "_law_makes_here" 0:=vq
theorem veh:VS bA V3 "_law_worth" 1:=vq
theorem vei:VS bA V3 "_law_text" 2:=vq
theorem iE:VS bA V3 "_law_found" 3:=vq
theorem vek:VS bA V3 "_law_part_here" 4:=vq
theorem vel:VS bA V3 "_law_steps" 5:=vq
theorem vem:VS bA V3 "_law_kind" 6:=vq
theorem ven:VS bA V3 "_law_place" 7:=vq
theorem veo:VS bA V3 "_law_case" 8:=vq
theorem uX:VS bA V3 "_law_last" 9:=vq
theorem veq:LS V3 "_law_found":=lq
theorem ver:LS V3 "_law_part_here":=lq
theorem ves:LS V3 "_law_steps":=lq
theorem vet:LS V3 "_law_kind":=lq
theorem veu:LS V3 "_law_place":=lq
theorem vev:LS V3 "_law_case":=lq
theorem vew:LS V3 "_law_last":=lq
theorem ajI(F:FunD K "_law_units" "_law_units" V3 f fd)(T:Txt P w K mg C)(G_l_parts:FO P w K mg base 1 "_law_parts" ["_law_makes_here", "_law_worth", "_law_text"] [] aiO):FnOk P w K mg base E6 2 f fd ["_law_makes_here", "_law_worth", "_law_text"] (aiR K):=by
 refine F.ok sc_l_units ?_ ?_
 .rintro _ _ _ _ ⟨d,z,ks,F,w,rfl,_⟩;rfl
 .intro cdv A outer s H vs Q E hr h;have C2:=hu_of hr;have hu:=hr.units;refine ⟨_,QSs.out (A8 (C7 (n:=3) sc_l_units.nd rfl veq (M7 A3))
   (A8 (L6 PassesOwn.never (P5 (K:=K) (C8 G_l_parts (hm hr) (qa_c (vi veg) (qa_c (vi veh) (qa_c (vi vei) A3))))) (D3 (n:=4) sc_l_units.nd rfl ver 'g') (A8 (C7 (n:=5) sc_l_units.nd rfl ves (M7 (qa_c (K7 (qa_c A4 (qa_c A4 (qa_c A4 A3)))) A3)))
   (V1 (qs_if (QW.pt (qw_or (sT (W7 (K:=K) (vi veh))) (kH (D6 (sV (K:=K) hu) (qe_ix (K:=K) (vi vek) A4) G5)))) (A7 (C7 (n:=5) sc_l_units.nd rfl ves (e8 C2 (vi veg) (vi vek)))) F7)
   (A7 (L6 PassesOwn.never (P5 (K:=K) (vi vel)) (k5 (K:=K) (n:=3) (O2 ((D3 (n:=6) sc_l_units.nd rfl vet 'g')) (O2 ((D3 (n:=7) sc_l_units.nd rfl veu 'g')) (O2 ((D3 (n:=8) sc_l_units.nd rfl vev 'g')) k4)))) (A7 (qs_if (D6 (q_eq (K:=K) hu) (vi vem) A4) (A7 (O9 (qe_mB (K:=K) Q5 U9 U8 V0 (vi iE) (qa_c (K7 (qa_c A4 (qa_c (qe_cT tO T.b_int nN (qa_c (vi vek) A3)) (qa_c (K7 A3) (qa_c A4 A3))))) A3)))) (A7 (qs_if (D6 (q_eq (K:=K) hu) (vi vem) A4) (A7 (O9 (qe_mB (K:=K) Q5 U9 U8 V0 (vi iE) (qa_c (K7 (qa_c A4 (qa_c (vi ven) (qa_c (K7 A3) (qa_c (vi veo) A3))))) A3)))) (A7 (qs_if (D6 (q_eq (K:=K) hu) (vi iE) (M7 A3)) (A7 (O9 (qe_mB (K:=K) Q5 U9 U8 V0 (vi iE) (qa_c (K7 (qa_c A4 (qa_c A4 (qa_c (K7 (qa_c (vi ven) A3)) (qa_c A4 A3))))) A3)))) (A8 (C7 (n:=9) sc_l_units.nd rfl vew (qe_ix (K:=K) (vi iE) (qe_un q_neg A4)))
   (A7 (aq8 (K7 (qa_c (qe_ix (K:=K) (vi uX) A4) (qa_c (qe_ix (K:=K) (vi uX) A4) (qa_c (qe_op (arz (K:=K)) (qe_ix (K:=K) (vi uX) A4) (K7 (qa_c (vi ven) A3))) (qa_c (qe_ix (K:=K) (vi uX) A4) A3))))) (aoK (vi iE) (qe_un q_neg A4))))))))))))))))
   (A7 (E4 (vi iE))))),?_⟩
  obtain ⟨d,z,ks,F,w,rfl,hd,hz,hw,hF,hk,q⟩:=h;have hf:=zC (w:=w) (g:=ks) _ z.cps.toList (B5 _);have G9:=zA (w:=w) (g:=ks) _ z.cps.toList (B5 _);have rL:=aiQ (w:=w) (g:=ks) _ z.cps.toList (B5 _);have dC:=(tS (w:=w) (g:=ks) _ z.cps.toList (B5 _)).2.1;rw [lenL] at dC;have T0:=zB (w:=w) (g:=ks) _ z.cps.toList (B5 _);rw [lenL] at T0;have hsW:∀ y,(stepW w F y).length<=15:=fun y=>by
   unfold stepW
   by_cases h:(w&&figO (y.cps.toList.headD 0))=true
   .rw [if_pos h];simp
   .rw [if_neg h];exact hF y
  walk_at "rd";intro l nl;have J1:UnJ H (A0 H l (.lst [])) l [] []:=⟨Same.new nl,nl,A5,.nil⟩
  generalize A0 H l (.lst [])=H1 at J1;obtain ⟨ad,Y1,O5⟩:=hd;have hdH:=Y1;refine ⟨d,z,ks,_,w,rfl,J1.same _ _ Y1,hz,hw,fun a H2 na S2 ha=>?_⟩;have nal:a≠l:=fun e=>by rw [e,J1.top] at na;cases na
  obtain ⟨B,SB,JB,kB⟩:=(J1.more S2).cut;have hB1:=kB _ _ nal ha;generalize (cutF w ks z.cps.toList).2=ps at ha hf G9 dC T0 rL q hB1;refine ⟨a,rfl,⟨_,.of ha⟩,forLs (xs:=ps.map V.str) (fun i Y H3=>∃ (u1 u2 u3 u4 u5 u6:Option V) (es:List (Addr×Addr)),Y=[some (.ref d),some (.bl w),some (.str z),some (.ref l),u1,u2,u3,u4,u5,u6]/\UnJ B H3 l es (P1 (stepW w F) (ps.take i))) ⟨_,_,_,_,_,_,[],rfl,JB⟩ (by rintro i Y H3 _ ⟨_,_,_,_,_,_,_,_,h⟩;exact .of (h.same _ _ hB1)) ?_ ?_⟩
  .clear Y1 ha nal JB J1 S2 na;rintro P' Bk hP i v Y H3 hv ⟨u1,u2,u3,u4,u5,u6,es,rfl,J⟩;obtain ⟨y,hy,rfl⟩:=G0 hv;have hi:i<ps.length:=(G2.mp hy).1;have Y4:=N2 hy;obtain ⟨C2,t7⟩:=tX (S:=stepW w F) hsW (ps.take i);rw [E9] at C2 t7;obtain ⟨c,r,wA⟩:∃ c r,y.cps.toList=c::r:=by
    have:=G9 y Y4
    rw [<- lenL] at this;cases e:y.cps.toList with
    | nil=>rw [e] at this;simp at this
    | cons c r=>exact ⟨c,r,rfl⟩
   have fL:y.cps.toList.headD 0=c:=by rw [wA];rfl
   have F8:y.length<=640:=by have:=T0 y Y4;lia
   have hsy:y.length<=sizeLine:=O8 'a';have hdB:=SB _ _ hdH;have eU:=ae1 (S:=stepW w F) hy;have hW:=hsW y;generalize P1 (stepW w F) (ps.take i)=U at J C2 t7 eU;walk_at "rd";refine ⟨by decide,fun t0 vP=>⟨by decide,fun r1 wE=>?_⟩⟩;have S4:Same H3 (A0 (A0 H3 t0 (.tup [V.int 1,V.int 0,V.int 0])) r1 (.lst [V.ref t0])):=(Same.new vP).trans (Same.new wE);have hr1:StepL (A0 (A0 H3 t0 (.tup [V.int 1,V.int 0,V.int 0])) r1 (.lst [V.ref t0])) r1 [(1,0,0)]:=StepL.one A5 (D1 A5 wE);have nr1l:r1≠l:=fun e=>by rw [e,(Same.new vP) _ _ J.top] at wE;cases wE
   generalize A0 (A0 H3 t0 (.tup [V.int 1,V.int 0,V.int 0])) r1 (.lst [V.ref t0])=H4 at S4 hr1;have J4:=J.more S4;refine g8 (fun Y H5=>∃ (r0:Addr) (ss:List Tr),Y=[some (.ref d),some (.bl w),some (.str z),some (.ref l),some (.str y),some (.ref r0),u3,u4,u5,u6]/\H5=H4/\r0≠l/\StepL H4 r0 ss/\ss.map (fixS y)=stepW w F y/\(∀ s∈ss,s.1=0\/s.1=1\/s.1=2)/\∀ s∈ss,s.1=1->PySem.NumText.AllDigits y.cps.toList) ?_ ?_
   .have lZ:=rL y Y4;rw [fL] at lZ;have fin:(w&&figO c)=false->y∈ks/\ad y≠l/\StepL H4 (ad y) (F y)/\(F y).map (fixS y)=stepW w F y/\(∀ s∈F y,s.1=0\/s.1=1\/s.1=2)/\∀ s∈F y,s.1=1->PySem.NumText.AllDigits y.cps.toList:=fun h=>by
     rw [h] at lZ;have mG:=lZ.resolve_left M4;have h2:=O5 y mG;refine ⟨mG,fun e=>?_,(h2.same SB).same J4.same,?_,fun s hs=>?_,fun s hs e=>?_⟩
     .obtain ⟨_,h3,_⟩:=h2.ex;rw [e,nl] at h3;cases h3
     .unfold stepW;rw [fL,h,if_neg M4]
      have:∀ s∈F y,fixS y s=id s:=fun s hs=>by
       unfold fixS;rw [if_neg (fun e=>by rcases hk y s hs with q | q <;> lia)];rfl
      rw [fR this,List.map_id]
     .rcases hk y s hs with q | q
      .exact .inl q
      .exact .inr (.inr q)
     .rcases hk y s hs with q | q <;> lia
    have Y2:=J4.same _ _ hdB;walk_at "rd"
    cases w with
    | false=>
     obtain ⟨mG,f1,f2⟩:=fin rfl;exact iteT ⟨V.ref (ad y),.inl ⟨_,Sum.inr y,.inl Y2,rfl,by rw [O3,if_pos mG]⟩,_,rfl,f1,_,f2⟩
    | true=>
     refine iteF ⟨hsy,c,by rw [wA];exact T6 _ _,?_⟩;rw [yW]
     by_cases hc:figO c=true
     .rw [hc];refine iteF ⟨nr1l,_,hr1,?_,?_,fun _ _ _=>hf y Y4 rfl (by rw [fL];exact hc)⟩
      .unfold stepW;rw [fL,hc,Bool.and_self,if_pos rfl];rfl
      .intro s hs;rw [F6.mp hs];exact .inr 'g'
     .rw [fX] at hc;obtain ⟨mG,f1,f2⟩:=fin (by rw [hc];rfl);rw [hc];exact iteT ⟨V.ref (ad y),.inl ⟨_,Sum.inr y,.inl Y2,rfl,by rw [O3,if_pos mG]⟩,_,rfl,f1,_,f2⟩
   rintro Y H5 ⟨r0,ss,rfl,rfl,nr0,Q8,rM,x9,hdig⟩;obtain ⟨ts,e1,e2⟩:=Q8.ex;obtain ⟨B2,SB2,JB2,kB2⟩:=J4.cut;have e1':=kB2 _ _ nr0 e1;have e2':=M5 e2 fun t s (e:H5 t=some (tupT s))=>(show B2 t=some (tupT s) from kB2 _ _ (fun q=>by rw [q,J4.top] at e;cases e) e)
   have hsl:ss.length<=15:=by rw [<- A6 (f:=fixS y),rM];exact hW
   walk_at "rd";refine ⟨⟨_,.of e1⟩,forLs (xs:=ts.map V.ref) (fun j Y H6=>∃ (u3 u4 u5 u6:Option V) (es:List (Addr×Addr)),Y=[some (.ref d),some (.bl w),some (.str z),some (.ref l),some (.str y),some (.ref r0),u3,u4,u5,u6]/\UnJ B2 H6 l es (((ss.map (fixS y)).take j).foldl addS U)) ⟨_,_,_,_,es,rfl,JB2⟩ (by rintro j Y H6 _ ⟨_,_,_,_,_,_,h⟩;exact .of (h.same _ _ e1')) ?_ ?_⟩
   .clear JB2 J4 J e1 Q8;rintro P2 Bk2 hP2 j v Y H6 hv ⟨u3,u4,u5,u6,es,rfl,J⟩;obtain ⟨t,ht,rfl⟩:=G0 hv;obtain ⟨s,hs,vR⟩:=Paired.at e2' ht;have hj:j<ss.length:=(G2.mp hs).1;have hsm:=N2 hs;have R0:=tV ((ss.map (fixS y)).take j) U;have m8:=tW ((ss.map (fixS y)).take j) U _ t7;rw [E9,A6] at R0 m8;have et:((ss.map (fixS y)).take (j+1)).foldl addS U=addS (((ss.map (fixS y)).take j).foldl addS U) (fixS y s):=by rw [M8 (by rw [T8,hs];rfl),aJ];rfl
    have iY:C6 K H6 t [V.int s.1,V.int s.2.1,V.int s.2.2]:=.of (J.same _ _ vR);generalize ((ss.map (fixS y)).take j).foldl addS U=U2 at J R0 m8 et;have fin2:∀ {u3 u4 u5 u6:Option V} {H':Hp} {es:List (Addr×Addr)},UnJ B2 H' l es (addS U2 (fixS y s))->P2 (j+1) [some (.ref d),some (.bl w),some (.str z),some (.ref l),some (.str y),some (.ref r0),u3,u4,u5,u6] H':=fun h=>hP2 _ _ _ ⟨_,_,_,_,_,rfl,by rw [et];exact h⟩
    have Z3:=Paired.length J.row;have A9:(es.map fun e=>V.ref e.1).length<sizeLine:=by rw [A6,Z3];exact L3 'a'
    have psh:∀ {H7:Hp} {p t:Addr} {k w c:Int} {ms:List Int},Same H6 H7->H7 t=some (.tup [.int k,.int w,.ref p,.int c])->H7 p=some (.tup (ms.map V.int))->∃ x,UnJ B2 (A0 H7 l (.lst ((es.map fun e=>V.ref e.1)++[V.ref t]))) l x (U2++[(k,w,ms,c)]):=fun S ht hp=>⟨es++[(_,_)],(J.more S).lay (Paired.snoc (J.more S).row ⟨ht,hp⟩) (by rw [E2];rfl)⟩
    walk_at "rd";refine ⟨_,iY,rfl,_,_,rfl,_,_,rfl,_,_,rfl,rfl,?_⟩;walk_at "rd";refine iteD (fun h1=>?_) fun h1=>iteD (fun h2=>?_) fun h2=>fun p np=>?_
    .have eA:addS U2 (fixS y s)=U2++[(1,((bW y.cps.toList:Nat):Int),[],0)]:=by
      unfold addS fixS;rw [if_pos h1,if_neg (by show ¬((1:Int)=0);decide)]
     refine ⟨Q7 J.top,hdig s hsm h1,G9 y Y4,F8,fun p np=>⟨by decide,fun p1 N1=>?_⟩⟩;have S7:Same H6 (A0 (A0 H6 p (.tup [])) p1 (.tup [V.int 1,V.int ((bW y.cps.toList:Nat):Int),V.ref p,V.int 0])):=(Same.new np).trans (Same.new N1);exact appOk (S7 _ _ J.top) A9 (let ⟨_,h⟩:=psh (ms:=[]) S7 A5 (D1 A5 N1);fin2 (by rw [eA];exact h))
    .have eA:addS U2 (fixS y s)=U2++[(2,s.2.1,[],s.2.2)]:=by
      unfold addS fixS;rw [if_neg h1,if_neg 'a',h2]
     refine ⟨Q7 J.top,fun p np=>⟨by decide,fun p1 N1=>?_⟩⟩;have S7:Same H6 (A0 (A0 H6 p (.tup [])) p1 (.tup [V.int 2,V.int s.2.1,V.ref p,V.int s.2.2])):=(Same.new np).trans (Same.new N1);exact appOk (S7 _ _ J.top) A9 (let ⟨_,h⟩:=psh (ms:=[]) S7 A5 (D1 A5 N1);fin2 (by rw [eA];exact h))
    .have h0:s.1=0:=by rcases x9 s hsm with q | q | q <;> lia
     have eA:addS U2 (fixS y s)=addM U2 s.2.1:=by
      unfold addS fixS;rw [if_neg h1,if_pos h0]
     have S7:Same H6 (A0 H6 p (.lst [])):=Same.new np;have hp7:A0 H6 p (.lst []) p=some (.lst []):=A5;generalize A0 H6 p (.lst [])=H7 at S7 hp7;have J7:=J.more S7;refine ⟨_,J7.out.dn,_,.lst (.of hp7) .nil,K6 (mX _ _) 'h',?_⟩;rw [P7]
     by_cases hU:U2=[]
     .subst hU;obtain rfl:es=[]:=j3.mp (by rw [Z3];rfl);refine iteT ⟨Q7 J7.top,by decide,fun p1 N1=>⟨by decide,fun p2 Z4=>?_⟩⟩;have S8:Same H7 (A0 (A0 H7 p1 (.tup [V.int s.2.1])) p2 (.tup [V.int 0,V.int 0,V.ref p1,V.int 0])):=(Same.new N1).trans (Same.new Z4);exact appOk (S8 _ _ J7.top) A9 (let ⟨_,h⟩:=psh (ms:=[s.2.1]) (S7.trans S8) A5 (D1 A5 Z4);fin2 (by rw [eA];exact h))
     .obtain ⟨U',u,rfl⟩:=oM hU;obtain ⟨es',e,rfl⟩:=oM (l:=es) (fun h=>by rw [h] at Z3;simp at Z3);obtain ⟨hr,hu⟩:=nS J7.row;have K1:G4 ((es'++[e]).map fun e=>V.ref e.1) (-1)=some (V.ref e.1):=by rw [E2];exact aij _ _
      have hul:u.2.2.1.length<=9000:=by have:=m8 u 'c';lia
      rw [if_neg (by cases U' <;> exact M4)];refine ⟨_,.inl (.of J7.top),_,K1,?_⟩;walk_at "rd";refine ⟨_,.inr (.of hu.1),_,N9 (j:=0) rfl,_,.inr (.of hu.1),_,N9 (j:=1) rfl,_,.inr (.of hu.1),_,N9 (j:=2) rfl,?_⟩;walk_at "rd";refine ⟨by decide,fun p1 N1=>?_⟩;have S8:Same H7 (A0 H7 p1 (.tup [V.int s.2.1])):=Same.new N1;have hp8:A0 H7 p1 (.tup [V.int s.2.1]) p1=some (.tup [V.int s.2.1]):=A5;generalize A0 H7 p1 (.tup [V.int s.2.1])=H8 at S8 hp8;refine ⟨_,.of (S8 _ _ hu.2),_,.of hp8,by simp,by rw [A6,N3];have:=L3 (n:=u.2.2.1.length+1) 'a';lia,fun m H9 S9 _ hm=>?_⟩;have hm9:H9 m=some (.tup ((u.2.2.1++[s.2.1]).map V.int)):=by
       rcases hm with hm | ⟨h0,rfl⟩
       .rw [hm,E2];rfl
       .rw [S9 _ _ hp8,E2,h0];rfl
      have S79:=S8.trans S9;refine ⟨_,.inr (.of (S79 _ _ hu.1)),_,N9 (j:=3) rfl,by decide,fun t2 Z8=>?_⟩;have Z6:Same H9 (A0 H9 t2 (.tup [V.int u.1,V.int u.2.1,V.ref m,V.int u.2.2.2])):=Same.new Z8;have rG:A0 H9 t2 (.tup [V.int u.1,V.int u.2.1,V.ref m,V.int u.2.2.2]) t2=some (.tup [V.int u.1,V.int u.2.1,V.ref m,V.int u.2.2.2]):=A5;have J10:=(J7.more S79).more Z6;refine ⟨_,J10.top,es'.length,?_,fin2 (es:=es'++[(t2,m)]) ?_⟩
      .rw [A6,C4,N3];unfold g6;rw [if_neg 'h',if_pos 'a'];exact congrArg some 'a'
      .have ea:addM (U'++[u]) s.2.1=U'++[(u.1,u.2.1,u.2.2.1++[s.2.1],u.2.2.2)]:=by
        unfold addM;rw [List.getLast?_append,List.getLast?_singleton]
        simp
       rw [eA,ea];refine J10.lay (Paired.snoc (nS J10.row).1 ⟨rG,Z6 _ _ hm9⟩) ?_;rw [E2,E2,List.set_append_right _ _ (by rw [A6];exact B5 _),A6,Nat.sub_self];rfl
   rintro Y H6 ⟨u3,u4,u5,u6,es,rfl,J6⟩;rw [A6,Paired.length e2,<- A6 (f:=fixS y),K3,rM] at J6;exact hP _ _ _ ⟨_,_,_,_,_,_,_,rfl,by rw [eU];exact J6.base SB2⟩
  rintro Y H3 ⟨u1,u2,u3,u4,u5,u6,es,rfl,J⟩;rw [A6,K3] at J;walk_at "rd";exact q l H3 nl (SB.trans J.same) J.out
theorem sc_l_pieces:FnScope ["_law_makes_here", "_law_worth", "_law_cells", "_law_known", "_law_parts_here", "_law_cell", "_law_run"] ["_law_makes_here", "_law_worth", "_law_cells"] (C3 i0):=G1
abbrev iF:List Str:=["_law_makes_here", "_law_worth", "_law_cells", "_law_known", "_law_parts_here", "_law_cell", "_law_run"]
theorem vex:VS iF i0 "_law_makes_here" 0:=vq
theorem vey:VS iF i0 "_law_worth" 1:=vq
theorem vez:VS iF i0 "_law_cells" 2:=vq
theorem veA:VS iF i0 "_law_known" 3:=vq
theorem veB:VS iF i0 "_law_parts_here" 4:=vq
theorem pI:VS iF i0 "_law_cell" 5:=vq
theorem veD:VS iF i0 "_law_run" 6:=vq
theorem veE:LS i0 "_law_known":=lq
theorem veF:LS i0 "_law_parts_here":=lq
theorem veG:LS i0 "_law_cell":=lq
theorem veH:LS i0 "_law_run":=lq
theorem aid(F:FunD K "_law_pieces" "_law_pieces" i0 f fd)(T:Txt P w K mg C):FnOk P w K mg base E6 1 f fd ["_law_makes_here", "_law_worth", "_law_cells"] (aiT K):=by
 refine F.ok sc_l_pieces ?_ ?_
 .rintro _ _ _ _ ⟨d,c,w,ks,f,cs,rfl,_⟩;rfl
 .intro cdv A outer s H vs Q E hr h;have C2:=hu_of hr;have hu:=hr.units;refine ⟨_,QSs.out (A8 (C7 (n:=3) sc_l_pieces.nd rfl veE (qe_cT (k8 (K:=K) (calm:=true)) T.b_list j9 (qa_c (vi vex) A3)))
   (A8 (C7 (n:=4) sc_l_pieces.nd rfl veF (M7 A3))
   (A8 (L6 PassesOwn.never (P5 (K:=K) (vi vez)) (D3 (n:=5) sc_l_pieces.nd rfl veG 'g') (A7 (qs_if (QW.pt (p0 (W7 (K:=K) (vi vey)) (v8 (D6 (q_eq (K:=K) hu) (qe_op q_mod (vi pI) A4) A4)))) (A8 (C7 (n:=6) sc_l_pieces.nd rfl veH (qe_cT aoR T.b_str aq6 (qa_c (qe_op q_mod (qe_op L7 (vi pI) A4) (qe_ix (K:=K) (M7 (qa_c A4 (qa_c (qe_op q_pow A4 A4) A3))) (qe_op q_mod (qe_op L7 (vi pI) A4) A4))) A3)))
   (A7 (O9 (qe_mB (K:=K) Q5 U9 U8 V0 (vi veB) (qa_c (qe_op 'i' (qe_ix (K:=K) (M7 (qa_c G5 (qa_c G5 (qa_c G5 A3)))) (qe_op q_mod (qe_op L7 (vi pI) A4) A4)) (vi veD)) A3))))) (A7 (O9 (qe_mB (K:=K) Q5 U9 U8 V0 (vi veB) (qa_c (qe_ix (K:=K) (vi veA) (qe_op q_mod (qe_op L7 (vi pI) A4) (qe_cB (q_len (K:=K)) T.b_len P3 (qa_c (vi veA) A3)))) A3)))))))
   (A7 (E4 (vi veB)))))),?_⟩
  obtain ⟨d,c,w,ks,f,cs,rfl,hd,lV,hk2,hc,qT,q⟩:=h;walk_at "rd";refine rListR.d (.of hd) fun k nk=>?_
  rw [show (C1 ks f).map (fun kv=>kV kv.1)=ks.map V.str by unfold C1;rw [b0];rfl];have S1:Same H (A0 H k (.lst (ks.map V.str))):=Same.new nk;have hk:A0 H k (.lst (ks.map V.str)) k=some (.lst (ks.map V.str)):=A5;generalize A0 H k (.lst (ks.map V.str))=H1 at S1 hk;intro p np;have np0:=S1.free np;have U4:A0 H1 p (.lst []) p=some (.lst []):=A5;have S2:Same H1 (A0 H1 p (.lst [])):=Same.new np;generalize A0 H1 p (.lst [])=H2 at U4 S2;refine ⟨⟨_,S2.seq (S1.seq hc)⟩,forL (xs:=cs.map V.int) (fun i Y H3=>∃ (u v:Option V) (ps:List Str),Y=[some (.ref d),some (.bl w),some (.ref c),some (.ref k),some (.ref p),u,v]/\Same H1 H3/\H3 p=some (.lst (ps.map V.str))/\(∀ x∈ps,l8 w ks x)/\ps.length=i) ⟨none,none,[],rfl,S2,U4,by simp,rfl⟩ (by rintro i Y H3 _ ⟨_,_,_,_,S,_⟩;exact S.seq (S1.seq hc)) ?_ ?_⟩
  .rintro i v Y H3 hv ⟨u1,u2,ps,rfl,S3,R1,R9,L5⟩;obtain ⟨n,hn,rfl⟩:=G0 hv;have hi:i<cs.length:=(G2.mp hn).1;have hk3:=S3 _ _ hk;have A9:(ps.map V.str).length<sizeLine:=by rw [A6];exact L3 'a'
   have put:∀ {H4:Hp} {x:Str},Same H3 H4->l8 w ks x->Same H1 (A0 H4 p (.lst (ps.map V.str++[V.str x])))/\A0 H4 p (.lst (ps.map V.str++[V.str x])) p=some (.lst ((ps++[x]).map V.str))/\(∀ y∈ps++[x],l8 w ks y)/\(ps++[x]).length=i+1:=fun {H4 x} S4 hx=>⟨(S3.trans S4).put np,by rw [A5,E2];rfl,fun y hy=>by
    rcases E1.mp hy with h | h
    .exact R9 y h
    .rw [F6.mp h];exact hx,by rw [C4,L5];rfl⟩
   have els:∃ m:Nat,LenR K H3 k m/\0<(m:Int)/\∃ xs,(D9 K H3 k xs\/C6 K H3 k xs)/\∃ x,G4 xs (n / 5 % (m:Int))=some x/\nK (V.ref p) [x] H3 fun x H4=>Same H1 H4/\∃ x:List Str,H4 p=some (HO.lst (x.map V.str))/\(∀ y∈x,l8 w ks y)/\x.length=i+1:=by
    obtain ⟨x,hx,K1⟩:=pickA (zs:=ks) (n / 5) lV;obtain ⟨p1,p2,p3,p4⟩:=put (aQ H3) (.inl hx);exact ⟨ks.length,.inl ⟨_,.of hk3,by rw [A6]⟩,by lia,_,.inl (.of hk3),_,K1,appOk R1 A9 ⟨p1,_,p2,p3,p4⟩⟩
   walk_at "rd"
   cases w with
   | false=>exact iteF ⟨Q7 R1,els⟩
   | true=>
    refine iteT (iteD (fun _=>?_) fun _=>⟨Q7 R1,els⟩);refine ⟨10,12,rfl,rfl,⟨by decide,by decide,by decide⟩,by decide,fun p1 N1=>?_⟩;have S4:Same H3 (A0 H3 p1 (.lst [V.int 10,V.int ((10:Int) ^ (12:Int).toNat)])):=Same.new N1;have z0:A0 H3 p1 (.lst [V.int 10,V.int ((10:Int) ^ (12:Int).toNat)]) p1=some (.lst [V.int 10,V.int ((10:Int) ^ (12:Int).toNat)]):=A5;generalize A0 H3 p1 (.lst [V.int 10,V.int ((10:Int) ^ (12:Int).toNat)])=H4 at S4 z0;obtain ⟨m,hm,wD,hm1⟩:∃ m:Int,G4 [V.int 10,V.int ((10:Int) ^ (12:Int).toNat)] (n / 150 % 2)=some (V.int m)/\0<m/\m<=10 ^ 12:=by
     have h0:n / 150 % 2=0\/n / 150 % 2=1:=by lia
     rcases h0 with e | e
     .rw [e];exact ⟨10,rfl,by decide,by decide⟩
     .rw [e];exact ⟨_,rfl,by decide,by decide⟩
    obtain ⟨v,hv,qI⟩:∃ v:Nat,n / 15 % m=(v:Int)/\v<10 ^ 12:=⟨(n / 15 % m).toNat,by
     have:=j6 (n / 15) (show m≠0 by lia)
     lia,by
     have h1:=j6 (n / 15) (show m≠0 by lia);have h2:=o6 (n / 15) wD;have h3:((10 ^ 12:Nat):Int)=10 ^ 12:=by decide
     lia⟩
    refine ⟨_,.inl (.of z0),_,hm,m,rfl,wD,_,rfl,?_,Q7 (S4 _ _ R1),by decide,fun p2 Z4=>?_⟩
    .rw [hv];show v.log2<1920
     by_cases h0:v=0
     .rw [h0];decide
     .rw [Nat.log2_lt h0];exact T4 qI 'd'
    rw [hv];have S5:Same H4 (A0 H4 p2 (.lst [V.str (Str.ofString ""),V.str (Str.ofString "0"),V.str (Str.ofString "00")])):=Same.new Z4;have rE:A0 H4 p2 (.lst [V.str (Str.ofString ""),V.str (Str.ofString "0"),V.str (Str.ofString "00")]) p2=some (.lst (([Str.ofString "",Str.ofString "0",Str.ofString "00"]:List Str).map V.str)):=A5;generalize A0 H4 p2 (.lst [V.str (Str.ofString ""),V.str (Str.ofString "0"),V.str (Str.ofString "00")])=H5 at S5 rE;obtain ⟨y,hy,K1⟩:=pickA (zs:=[Str.ofString "",Str.ofString "0",Str.ofString "00"]) (n / 5) 'h';have vQ:∀ y∈([Str.ofString "",Str.ofString "0",Str.ofString "00"]:List Str),y.length<=2/\∀ c∈y.cps.toList,figO c=true:=by decide +kernel
    obtain ⟨F8,hyf⟩:=vQ y hy;have hr:=aoT qI F8 hyf;have fK:=hr.2;refine ⟨_,.inl (.of rE),_,K1,?_⟩;obtain ⟨p1',p2',p3',p4'⟩:=put (S4.trans S5) (.inr ⟨⟨rfl,hr.1⟩,hr.2⟩);walk_at "rd";refine ⟨?_,appOk ((S4.trans S5) _ _ R1) A9 ⟨p1',_,p2',p3',p4'⟩⟩;have e:(y++Str.ofString (toString (v:Int))).length=y.length+(Str.ofString (toString (v:Int))).length:=by
     rw [<- lenL,<- lenL,<- lenL,Str.cps_append,Array.toList_append,C4]
    exact O8 'a'
  rintro Y H3 ⟨u1,u2,ps,rfl,S3,R1,R9,L5⟩;rw [A6] at L5;walk_at "rd";exact q p H3 ps np0 (S1.trans S3) R1 R9 'a'
theorem alu:FnScope ["_law_makes_here", "_law_piece"] ["_law_makes_here", "_law_piece"] (C3 kY):=G1
abbrev aiY:List Str:=["_law_makes_here", "_law_piece"]
theorem veI:VS aiY kY "_law_makes_here" 0:=vq
theorem veJ:VS aiY kY "_law_piece" 1:=vq
theorem alv(F:FunD K "_law_bare" "_law_bare" kY f fd)(T:Txt P w K mg C):FnOk P w K mg base E6 1 f fd ["_law_makes_here", "_law_piece"] (anm K):=by
 refine F.ok alu ?_ ?_
 .rintro _ _ _ _ ⟨d,y,ks,ad,ss,rfl,_⟩;rfl
 .intro cdv A outer s H vs Q E hr h;have C2:=hu_of hr;have hu:=hr.units;refine ⟨_,QSs.out (A7 (E4 (k7  (T9:CompOk ["_law_makes_here", "_law_piece"] (C3 kY).names _ ["_law_step"] 1 []) (P5 (K:=K) (e8 C2 (vi veI) (vi veJ))) (fun _ _ _ _ _=>D3 (n:=0) (show List.Nodup (["_law_step"]:List Str) by decide +kernel) rfl (Or.inl rfl)) (fun _ _ _ _ _=>(dZ (D6 (q_eq (K:=K) hu) (qe_ix (K:=K) (qv 0) A4) A4))) (fun _ _ _ _ _=>(qe_ix (K:=K) (qv 0) A4))))),?_⟩;obtain ⟨d,y,ks,ad,ss,rfl,hd,hy,hs,hl,q⟩:=h;obtain ⟨ts,t1,t2⟩:=hs.ex;have lS:=Paired.length t2;walk_at "rd";refine ⟨V.ref (ad y),?_,ad y,rfl,⟨_,.of t1⟩,compL (xs:=ts.map V.ref) [] rfl (fun D i ys H2=>Same H H2/\ys=(bareL (ss.take i)).map V.int) (fun D nD=>⟨Same.new nD,rfl⟩) (by rintro D i ys H2 nD _ ⟨S,_⟩;exact .of (S _ _ t1)) ?_ ?_⟩
  .have:DGet H d (kV (Sum.inr y)) (valV (C1 ks fun y=>V.ref (ad y)) (Sum.inr y)):=.inl ⟨_,Sum.inr y,hd,rfl,rfl⟩
   rw [O3,if_pos hy] at this;exact this
  .rintro D i x ys H2 nD hi hx ⟨S2,rfl⟩ hD F8;obtain ⟨t,ht,rfl⟩:=G0 hx;obtain ⟨u,t7,hut⟩:=Paired.at t2 ht;have vT:i<ts.length:=(G2.mp ht).1;have est:bareL (ss.take (i+1))=bareL (ss.take i)++(if u.1=2 then [u.2.1] else []):=by
    unfold bareL;rw [M8 t7,dN,E2]
    by_cases h2:u.1=2
    .rw [if_pos h2];simp [h2]
    .rw [if_neg h2];simp [h2]
   have t3:H2 t=some (.tup [.int u.1,.int u.2.1,.int u.2.2]):=S2 _ _ hut;walk_at "rd";refine ⟨_,.inr (.of t3),V.int u.1,T6 _ _,?_⟩;walk_at "rd";refine iteD (fun h2=>⟨_,.inr (.of t3),V.int u.2.1,N9 (j:=1) rfl,hD,?_,CW.put hi F8 ⟨S2.put nD,?_⟩⟩) fun h2=>⟨hD,nO hi F8 ⟨S2,?_⟩⟩
   .rw [A6] at F8 ⊢
    exact L3 'a'
   .rw [est,if_pos h2,E2];rfl
   .rw [est,if_neg h2,K9]
  rintro D ys H2 nD ⟨S2,rfl⟩ hD _;rw [A6,lS,K3] at hD;exact q D H2 nD S2 hD
theorem sc_l_changed:FnScope ["_law_makes_here", "_law_parts_here", "_law_cell", "_law_way", "_law_at", "_law_number", "_law_some", "_law_piece"] ["_law_makes_here", "_law_parts_here", "_law_cell"] (C3 W9):=G1
abbrev eP:List Str:=["_law_makes_here", "_law_parts_here", "_law_cell", "_law_way", "_law_at", "_law_number", "_law_some", "_law_piece"]
theorem uY:VS eP W9 "_law_makes_here" 0:=vq
theorem bB:VS eP W9 "_law_parts_here" 1:=vq
theorem veM:VS eP W9 "_law_cell" 2:=vq
theorem pJ:VS eP W9 "_law_way" 3:=vq
theorem eQ:VS eP W9 "_law_at" 4:=vq
theorem veP:VS eP W9 "_law_number" 5:=vq
theorem veQ:VS eP W9 "_law_some" 6:=vq
theorem veR:VS eP W9 "_law_piece" 7:=vq
theorem veS:LS W9 "_law_way":=lq
theorem veT:LS W9 "_law_at":=lq
theorem veU:LS W9 "_law_number":=lq
theorem veV:LS W9 "_law_some":=lq
theorem veW:LS W9 "_law_piece":=lq
theorem ahm(F:FunD K "_law_changed" "_law_changed" W9 f fd)(T:Txt P w K mg C)(G_l_bare:FO P w K mg base 1 "_law_bare" ["_law_makes_here", "_law_piece"] [] (anm K)):FnOk P w K mg base E6 2 f fd ["_law_makes_here", "_law_parts_here", "_law_cell"] (ag9 K):=by
 refine F.ok sc_l_changed ?_ ?_
 .rintro _ _ _ _ ⟨d,p,c,ks,ps,F,rfl,_⟩;rfl
 .intro cdv A outer s H vs Q E hr h;have C2:=hu_of hr;have hu:=hr.units;refine ⟨_,QSs.out (A8 (C7 (n:=3) sc_l_changed.nd rfl veS (qe_op q_mod (vi veM) A4))
   (A8 (C7 (n:=4) sc_l_changed.nd rfl veT (qe_op q_mod (qe_op L7 (vi veM) A4) (qe_op 'i' (qe_cB (q_len (K:=K)) T.b_len P3 (qa_c (vi bB) A3)) A4)))
   (A8 (C7 (n:=5) sc_l_changed.nd rfl veU (qe_op L7 (qe_op q_mod (qe_op q_mul (qe_op L7 (vi veM) A4) A4) A4) A4))
   (A8 (C7 (n:=6) sc_l_changed.nd rfl veV (qe_cT (k8 (K:=K) (calm:=true)) T.b_list j9 (qa_c (vi uY) A3)))
   (V1 (qs_if (D6 q_lt (vi pJ) A4) (A7 (ae5 (n:=6) sc_l_changed.nd rfl veV (T9:CompOk ["_law_makes_here", "_law_parts_here", "_law_cell", "_law_way", "_law_at", "_law_number", "_law_some", "_law_piece"] (C3 W9).names _ ["_law_piece", "_law_makes_here"] 1 [0]) (ald (K:=K) (vi uY)) (fun _ _ _ _ _=>D3 (n:=0) (show List.Nodup (["_law_piece", "_law_makes_here"]:List Str) by decide +kernel) rfl (Or.inl rfl)) (fun _ _ _ _ _=>(dZ (D6 (q_eq (K:=K) hu) (C8 G_l_bare (hm hr) (qa_c (qv 1) (qa_c (qv 0) A3))) (M7 A3)))) (fun _ _ _ _ _=>(qv 0)))) (A7 (qs_if (QW.pt (p0 (D6 q_lt (vi pJ) A4) (p0 (D6 q_lt (vi eQ) (qe_cB (q_len (K:=K)) T.b_len P3 (qa_c (vi bB) A3))) (v8 (D6 (q_in (K:=K) hu) (qe_ix (K:=K) (vi bB) (vi eQ)) (vi uY)))))) (A7 (ae5 (n:=6) sc_l_changed.nd rfl veV (T9:CompOk ["_law_makes_here", "_law_parts_here", "_law_cell", "_law_way", "_law_at", "_law_number", "_law_some", "_law_piece"] (C3 W9).names _ ["_law_piece", "_law_makes_here", "_law_parts_here", "_law_at"] 1 [0,1,4]) (ald (K:=K) (vi uY)) (fun _ _ _ _ _=>D3 (n:=0) (show List.Nodup (["_law_piece", "_law_makes_here", "_law_parts_here", "_law_at"]:List Str) by decide +kernel) rfl (Or.inl rfl)) (fun _ _ _ _ _=>(dZ (D6 (q_eq (K:=K) hu) (C8 G_l_bare (hm hr) (qa_c (qv 1) (qa_c (qv 0) A3))) (C8 G_l_bare (hm hr) (qa_c (qv 1) (qa_c (qe_ix (K:=K) (qv 2) (qv 3)) A3)))))) (fun _ _ _ _ _=>(qv 0)))) F7)))
   (A8 (qs_if (QW.pt (qw_or (D6 (q_eq (K:=K) hu) (vi veQ) (M7 A3)) (kH (D6 (q_eq (K:=K) hu) (vi pJ) A4)))) (A7 (E4 (qe_cT (k8 (K:=K) (calm:=true)) T.b_list j9 (qa_c (vi bB) A3)))) F7)
   (A8 (C7 (n:=7) sc_l_changed.nd rfl veW (qe_ix (K:=K) (vi veQ) (qe_op q_mod (vi veP) (qe_cB (q_len (K:=K)) T.b_len P3 (qa_c (vi veQ) A3)))))
   (A8 (qs_if (D6 q_lt (vi pJ) A4) (A7 (E4 (qe_op 'i' (qe_op 'i' (L9 (K:=K) (vi bB) O4 (I0 (vi eQ))) (M7 (qa_c (vi veR) A3))) (L9 (K:=K) (vi bB) (I0 (vi eQ)) O4)))) F7)
   (A8 (qs_if (D6 (q_eq (K:=K) hu) (vi pJ) A4) (A7 (E4 (qe_op 'i' (L9 (K:=K) (vi bB) O4 (I0 (vi eQ))) (L9 (K:=K) (vi bB) (I0 (qe_op 'i' (vi eQ) A4)) O4)))) F7)
   (A7 (E4 (qe_op 'i' (qe_op 'i' (L9 (K:=K) (vi bB) O4 (I0 (vi eQ))) (M7 (qa_c (vi veR) A3))) (L9 (K:=K) (vi bB) (I0 (qe_op 'i' (vi eQ) A4)) O4))))))))))))),?_⟩
  obtain ⟨d,p,c,ks,ps,F,rfl,hd,hF,lV,i5,hko,hp,L5,q⟩:=h;obtain ⟨ad,Y1,O5⟩:=hd;have rN:=j6 (c / 9) (show ((ps.length:Int)+1)≠0 by lia);have C9:=o6 (c / 9) (show 0<(ps.length:Int)+1 by lia);walk_at "rd";refine ⟨ps.length,.inl ⟨_,.of hp,by rw [A6]⟩,by lia,.inr ⟨by decide,by decide⟩,rListR.d (.of Y1) fun s ns=>?_⟩;rw [show (C1 ks fun y=>V.ref (ad y)).map (fun kv=>kV kv.1)=ks.map V.str by unfold C1;rw [b0];rfl];obtain ⟨at_,K1⟩:∃ m:Nat,c / 9 % ((ps.length:Int)+1)=(m:Int):=⟨(c / 9 % ((ps.length:Int)+1)).toNat,by lia⟩
  rw [K1] at C9 ⊢
  clear rN K1;have mD:at_<=ps.length:=by lia
  have S1:Same H (A0 H s (.lst (ks.map V.str))):=Same.new ns;have hs1:A0 H s (.lst (ks.map V.str)) s=some (.lst (ks.map V.str)):=A5;have nsd:s≠d:=fun e=>by rw [e,Y1] at ns;cases ns
  generalize A0 H s (.lst (ks.map V.str))=H1 at S1 hs1;have Y5:=S1 _ _ Y1;have dF:=S1 _ _ hp;have npd:p≠d:=fun e=>by rw [e,Y1] at hp;cases hp
  have SB:=oK H1 [d];have hB:∀ y∈ks,StepL (cutH H1 [d]) (ad y) (F y):=fun y hy=>alg Y5 ((O5 y hy).same S1)
  have hpB:cutH H1 [d] p=some (.lst (ps.map V.str)):=by
   unfold cutH;rw [if_neg (fun e=>npd (F6.mp e))];exact dF
  have nB:∀ b,b≠d->H1 b=none->cutH H1 [d] b=none:=fun b hb e=>by
   unfold cutH;rw [if_neg (fun q=>hb (F6.mp q))];exact e
  have cB:∀ b o,b≠d->H1 b=some o->cutH H1 [d] b=some o:=fun b o hb e=>by
   unfold cutH;rw [if_neg (fun q=>hb (F6.mp q))];exact e
  have nBd:cutH H1 [d] d=none:=by unfold cutH;exact if_pos 'c'
  generalize cutH H1 [d]=B at SB hB hpB nB cB nBd;have SF:∀ o,Same B (A0 H1 d (.frz o (.dK (C1 ks fun y=>V.ref (ad y))))):=fun o b v hb=>by
   rw [B1 (fun e=>by rw [e,nBd] at hb;cases hb)];exact SB _ _ hb
  have hkn:(C1 ks fun y=>V.ref (ad y)).length=ks.length:=k9 _ _;have hw:∀ {H2:Hp},Same B H2->(∃ o,H2 d=some (.frz o (.dK (C1 ks fun y=>V.ref (ad y)))))->Same H1 (A0 H2 d (.dK (C1 ks fun y=>V.ref (ad y)))):=fun {H2} S ⟨o,e⟩ b v hb=>by
   by_cases hbd:b=d
   .subst hbd;rw [A5];rw [Y5] at hb;exact hb
   .rw [B1 hbd];exact S _ _ (cB b v hbd hb)
  refine midS (fun Y H'=>∃ (s:Addr) (ss:List Str),Y=[some (.ref d),some (.ref p),some (.int c),some (.int (c % 9)),some (.int at_),some (.int (c / 9*48271 % 2147483647 / 97)),some (.ref s),none]/\Same H H'/\H' s=some (.lst (ss.map V.str))/\(∀ x∈ss,x∈ks)/\ss.length<=100000) ?_ ?_
  .intro M' hM';walk_at "rd";have keep:=hM' _ _ ⟨s,ks,rfl,S1,hs1,fun _ h=>h,i5⟩;refine iteD (fun _=>⟨d,_,Y5,_,Y5,fun o=>compD [some (.ref d)] rfl (fun D i ys H2=>Same B H2/\H2 d=some (.frz o (.dK (C1 ks fun y=>V.ref (ad y))))/\∃ xs:List Str,ys=xs.map V.str/\∀ x∈xs,x∈ks) (fun D nD=>⟨(SF o).trans (Same.new nD),D1 A5 nD,[],rfl,by simp⟩) (fun D i ys H2 _ _ h=>h.2.1) ?_ ?_⟩) fun _=>?_
   .rintro D i k v ys H2 nD hi hk ⟨S2,e2,xs,rfl,dG⟩ hD F8;obtain ⟨y,hy,rfl,rfl⟩:=sZ hk;have Y4:=N2 hy;have nDd:D≠d:=fun e=>by rw [e,A5] at nD;cases nD
    have nDB:B D=none:=by rw [B1 nDd] at nD;exact nB D nDd nD
    walk_at "rd";refine ⟨d,y,ks,ad,F y,rfl,.inr ⟨o,e2⟩,Y4,(hB y Y4).same S2,hF y,fun l H3 nl S3 hl=>fun p3 mH=>?_⟩;refine ⟨_,.lst (.of (D1 hl mH)) g7,_,.lst (.of A5) .nil,by rw [g4,dX];lia,?_⟩;have S4:=S3.trans (show Same H3 (A0 H3 p3 (.lst [])) from Same.new mH)
    split
    .refine ⟨S4 _ _ hD,by rw [A6] at F8 ⊢;exact L3 'a',CW.put hi F8 ⟨(S2.trans S4).put nDB,by rw [B1 nDd.symm];exact S4 _ _ e2,xs++[y],by rw [E2];rfl,fun x hx=>?_⟩⟩
     rcases E1.mp hx with h | h
     .exact dG x h
     .rw [F6.mp h];exact Y4
    .exact ⟨S4 _ _ hD,nO hi F8 ⟨S2.trans S4,S4 _ _ e2,xs,rfl,dG⟩⟩
   .rintro D ys H2 nD ⟨S2,e2,xs,rfl,dG⟩ hD F8;have nDd:D≠d:=fun e=>by rw [e,A5] at nD;cases nD
    rw [A6] at F8;exact ⟨⟨o,e2⟩,hM' _ _ ⟨D,xs,rfl,S1.trans (hw S2 ⟨o,e2⟩),by rw [B1 nDd];exact hD,dG,by lia⟩⟩
   refine iteD (fun _=>⟨ps.length,.inl ⟨_,.of dF,by rw [A6]⟩,iteD (fun hal2=>?_) fun _=>keep⟩) fun _=>keep
   have hal3:at_<ps.length:=by lia
   obtain ⟨w,rA⟩:∃ w,ps[at_]?=some w:=⟨_,K8 hal3⟩
   have iw:G4 (ps.map V.str) (at_:Int)=some (V.str w):=N9 (by rw [T8,rA];rfl);refine ⟨_,.inl (.of dF),_,iw,rInR.d (c9 (k:=Sum.inr w) Y5) ⟨_,rfl,?_⟩⟩;rw [O3]
   by_cases jE:w∈ks
   .rw [if_pos jE,if_pos (by rfl)];refine ⟨d,_,Y5,_,Y5,fun o=>compD [some (.ref d),some (.ref p),some (.int at_)] rfl (fun D i ys H2=>Same B H2/\H2 d=some (.frz o (.dK (C1 ks fun y=>V.ref (ad y))))/\∃ xs:List Str,ys=xs.map V.str/\∀ x∈xs,x∈ks) (fun D nD=>⟨(SF o).trans (Same.new nD),D1 A5 nD,[],rfl,by simp⟩) (fun D i ys H2 _ _ h=>h.2.1) ?_ ?_⟩
    .rintro D i k v ys H2 nD hi hk ⟨S2,e2,xs,rfl,dG⟩ hD F8;obtain ⟨y,hy,rfl,rfl⟩:=sZ hk;have Y4:=N2 hy;have nDd:D≠d:=fun e=>by rw [e,A5] at nD;cases nD
     have nDB:B D=none:=by rw [B1 nDd] at nD;exact nB D nDd nD
     walk_at "rd";refine ⟨d,y,ks,ad,F y,rfl,.inr ⟨o,e2⟩,Y4,(hB y Y4).same S2,hF y,fun l H3 nl S3 hl=>?_⟩;refine ⟨_,.inl (.of (S3 _ _ (S2 _ _ hpB))),_,iw,d,w,ks,ad,F w,rfl,.inr ⟨o,S3 _ _ e2⟩,jE,(hB w jE).same (S2.trans S3),hF w,fun l4 H4 nl4 S4' hl4=>?_⟩;walk_at "rd";refine ⟨_,.lst (.of (S4' _ _ hl)) g7,_,.lst (.of hl4) g7,by rw [g4,dX];lia,?_⟩;have S4:=S3.trans S4'
     split
     .refine ⟨S4 _ _ hD,by rw [A6] at F8 ⊢;exact L3 'a',CW.put hi F8 ⟨(S2.trans S4).put nDB,by rw [B1 nDd.symm];exact S4 _ _ e2,xs++[y],by rw [E2];rfl,fun x hx=>?_⟩⟩
      rcases E1.mp hx with h | h
      .exact dG x h
      .rw [F6.mp h];exact Y4
     .exact ⟨S4 _ _ hD,nO hi F8 ⟨S2.trans S4,S4 _ _ e2,xs,rfl,dG⟩⟩
    .rintro D ys H2 nD ⟨S2,e2,xs,rfl,dG⟩ hD F8;have nDd:D≠d:=fun e=>by rw [e,A5] at nD;cases nD
     rw [A6] at F8;exact ⟨⟨o,e2⟩,hM' _ _ ⟨D,xs,rfl,S1.trans (hw S2 ⟨o,e2⟩),by rw [B1 nDd];exact hD,dG,by lia⟩⟩
   .rw [if_neg jE,if_neg 'h'];exact keep
  rintro Y H2 ⟨s2,ss,rfl,S2,x6,rM,hsl⟩;have U4:=S2 _ _ hp;clear S1 hs1 nsd Y5 dF SB hB hpB nB cB hw npd ns SF nBd H1 B s;have f8:∀ {H3:Hp} (l:Addr) (qs:List Str),Same H H3->H3 l=some (.lst (qs.map V.str))->H l=none->(∀ x∈qs,x∈ps\/x∈ks)->qs.length<=ps.length+1->Q (.ref l) H3:=fun l qs S h n h1 h2=>q l _ qs n S h h1 h2
  walk_at "rd";intro p3 mH;have S3:Same H2 (A0 H2 p3 (.lst [])):=Same.new mH;have h3:A0 H2 p3 (.lst []) p3=some (.lst []):=A5;generalize A0 H2 p3 (.lst [])=H3 at S3 h3;have aF:=S2.trans S3;have R1:=aF _ _ hp;have jD:=S3 _ _ x6;refine ⟨_,.lst (.of jD) (j8 fun x hx=>hko x (rM x hx)),_,.lst (.of h3) .nil,K6 (mX _ _) 'h',?_⟩;have rO:rListR K true p H3 Q:=rListR.l (.inl (.of R1)) fun l nl=>f8 l ps (aF.trans (Same.new nl)) A5 (aF.free nl) (fun x hx=>.inl hx) 'a'
  by_cases hse:ss=[]
  .subst hse;rw [if_pos (by rfl)];exact rO
  split
  .exact rO
  refine iteD (fun _=>rO) fun _=>?_
  have hs0:0<ss.length:=mO.mpr hse;obtain ⟨x,hx,K1⟩:=pickA (zs:=ss) (c / 9*48271 % 2147483647 / 97) hs0;have fin1:∀ l H4 (qs:List Str),Same H3 H4->H3 l=none->H4 l=some (.lst (qs.map V.str))->(∀ y∈qs,y∈ps\/y=x)->qs.length<=ps.length+1->Q (.ref l) H4:=fun l H4 qs S n h h1 h2=>f8 l qs (aF.trans S) h (aF.free n) (fun y hy=>(h1 y hy).imp id fun (e:y=x)=>by rw [e];exact rM x hx) h2
  refine ⟨ss.length,.inl ⟨_,.of jD,by rw [A6]⟩,by lia,_,.inl (.of jD),_,K1,?_⟩;rw [show (at_:Int)+1=((at_+1:Nat):Int) by lia];refine iteD (fun _=>ae7 R1 L5 (B5 _) fin1) fun _=>iteD (fun _=>ahS R1 L5 (Nat.le_succ _) fun l H4 qs S n h h1 h2=>f8 l qs (aF.trans S) h (aF.free n) (fun y hy=>.inl (h1 y hy)) h2) fun _=>ae7 R1 L5 (Nat.le_succ _) fin1
theorem amS:FnScope ["_law_one", "_law_other"] ["_law_one", "_law_other"] (C3 oV):=G1
abbrev alw:List Str:=["_law_one", "_law_other"]
theorem veX:VS alw oV "_law_one" 0:=vq
theorem veY:VS alw oV "_law_other" 1:=vq
theorem amT(F:FunD K "_law_put" "_law_put" oV f fd)(T:Txt P w K mg C):FnOk P w K mg base E6 1 f fd ["_law_one", "_law_other"] (spPut K):=by
 refine F.ok amS ?_ ?_
 .rintro _ _ _ _ ⟨v,v',s,rfl,_⟩;rfl
 .intro cdv A outer s H vs Q E hr h;have C2:=hu_of hr;have hu:=hr.units;refine ⟨_,QSs.out (A7 (E4 (qe_op q_sub (qe_cT tO T.b_int nN (qa_c (gH (q_ltK hu (K:=K)) (vi veY) (vi veX)) A3)) (qe_cT tO T.b_int nN (qa_c (gH (q_ltK hu (K:=K)) (vi veX) (vi veY)) A3))))),?_⟩;obtain ⟨v,v',s,rfl,hp,q⟩:=h
  rcases hp with ⟨a,b,rfl,rfl,rfl⟩ | ⟨p,p',xs,ys,rfl,rfl,h1,h2,rfl⟩ | ⟨z,z',rfl,rfl,rfl⟩
  .walk_at "rd";exact q
  .walk_at "rd";refine .inr (.inl ⟨ys,xs,.of h2,.of h1,?_⟩);walk_at "rd";refine .inr (.inl ⟨xs,ys,.of h1,.of h2,?_⟩);walk_at "rd";exact q
  .walk_at "rd";exact q
theorem sc_l_compare:FnScope ["_law_mine", "_law_theirs", "_law_texts", "_law_behind", "_law_strength", "_law_one", "_law_other", "_law_so"] ["_law_mine", "_law_theirs", "_law_texts", "_law_behind", "_law_strength"] (C3 i3):=G1
abbrev eR:List Str:=["_law_mine", "_law_theirs", "_law_texts", "_law_behind", "_law_strength", "_law_one", "_law_other", "_law_so"]
theorem pK:VS eR i3 "_law_mine" 0:=vq
theorem pL:VS eR i3 "_law_theirs" 1:=vq
theorem ve1:VS eR i3 "_law_texts" 2:=vq
theorem ve2:VS eR i3 "_law_behind" 3:=vq
theorem ve3:VS eR i3 "_law_strength" 4:=vq
theorem pM:VS eR i3 "_law_one" 5:=vq
theorem pN:VS eR i3 "_law_other" 6:=vq
theorem pO:VS eR i3 "_law_so" 7:=vq
theorem ve7:LS i3 "_law_one":=lq
theorem ve8:LS i3 "_law_other":=lq
theorem uZ:LS i3 "_law_so":=lq
theorem ahn(F:FunD K "_law_compare" "_law_compare" i3 f fd)(T:Txt P w K mg C)(G_l_put:FO P w K mg base 1 "_law_put" ["_law_one", "_law_other"] [] (spPut K)):FnOk P w K mg base E6 2 f fd ["_law_mine", "_law_theirs", "_law_texts", "_law_behind", "_law_strength"] (zO K):=by
 refine F.ok sc_l_compare ?_ ?_
 .rintro _ _ _ _ ⟨a,b,t,bh,n,U,U',z,z',rfl,_⟩;rfl
 .intro cdv A outer s H vs Q E hr h;have C2:=hu_of hr;have hu:=hr.units;refine ⟨_,QSs.out (V1 (L6 PassesOwn.never (sX T.b_zip (qa_c (vi pK) (qa_c (vi pL) A3))) (k5 (K:=K) (n:=2) (O2 ((D3 (n:=5) sc_l_compare.nd rfl ve7 'g')) (O2 ((D3 (n:=6) sc_l_compare.nd rfl ve8 'g')) k4))) (A7 (qs_if (D6 (q_ne (K:=K) hu) (L9 (K:=K) (vi pM) O4 (I0 A4)) (L9 (K:=K) (vi pN) O4 (I0 A4))) (A7 (E4 (C8 G_l_put (hm hr) (qa_c (L9 (K:=K) (vi pM) O4 (I0 A4)) (qa_c (L9 (K:=K) (vi pN) O4 (I0 A4)) A3))))) F7)))
   (A8 (qs_if (D6 (q_ne (K:=K) hu) (qe_cB (q_len (K:=K)) T.b_len P3 (qa_c (vi pK) A3)) (qe_cB (q_len (K:=K)) T.b_len P3 (qa_c (vi pL) A3))) (A7 (E4 (C8 G_l_put (hm hr) (qa_c (qe_cB (q_len (K:=K)) T.b_len P3 (qa_c (vi pK) A3)) (qa_c (qe_cB (q_len (K:=K)) T.b_len P3 (qa_c (vi pL) A3)) A3))))) F7)
   (A8 (C7 (n:=7) sc_l_compare.nd rfl uZ A4)
   (V1 (qs_if (D6 q_gt (vi ve3) A4) (A7 (L6 PassesOwn.never (sX T.b_zip (qa_c (vi pK) (qa_c (vi pL) A3))) (k5 (K:=K) (n:=2) (O2 ((D3 (n:=5) sc_l_compare.nd rfl ve7 'g')) (O2 ((D3 (n:=6) sc_l_compare.nd rfl ve8 'g')) k4))) (A7 (qs_if (QW.pt (p0 (D6 (q_ne (K:=K) hu) (qe_ix (K:=K) (vi pM) A4) (qe_ix (K:=K) (vi pN) A4)) (v8 (QW.pt (qw_or (D6 (q_eq (K:=K) hu) (vi pO) A4) (kH (W7 (K:=K) (vi ve2)))))))) (A7 (C7 (n:=7) sc_l_compare.nd rfl uZ (C8 G_l_put (hm hr) (qa_c (qe_ix (K:=K) (vi pM) A4) (qa_c (qe_ix (K:=K) (vi pN) A4) A3))))) F7)))) F7)
   (V1 (qs_if (QW.pt (p0 (D6 q_gt (vi ve3) A4) (v8 (D6 (q_eq (K:=K) hu) (vi pO) A4)))) (A7 (L6 PassesOwn.never (sX T.b_zip (qa_c (vi pK) (qa_c (vi pL) A3))) (k5 (K:=K) (n:=2) (O2 ((D3 (n:=5) sc_l_compare.nd rfl ve7 'g')) (O2 ((D3 (n:=6) sc_l_compare.nd rfl ve8 'g')) k4))) (A7 (qs_if (D6 (q_eq (K:=K) hu) (vi pO) A4) (A7 (C7 (n:=7) sc_l_compare.nd rfl uZ (C8 G_l_put (hm hr) (qa_c (qe_ix (K:=K) (vi pM) A4) (qa_c (qe_ix (K:=K) (vi pN) A4) A3))))) F7)))) F7)
   (V1 (qs_if (QW.pt (p0 (D6 q_gt (vi ve3) A4) (v8 (D6 (q_eq (K:=K) hu) (vi pO) A4)))) (A7 (C7 (n:=7) sc_l_compare.nd rfl uZ (C8 G_l_put (hm hr) (qa_c (qe_ix (K:=K) (vi ve1) A4) (qa_c (qe_ix (K:=K) (vi ve1) A4) A3))))) F7)
   (A7 (E4 (vi pO))))))))),?_⟩
  obtain ⟨a,b,t,bh,n,U,U',z,z',rfl,⟨es,e1,e2⟩,⟨fs,f1,f2⟩,ht,h1,h4,hl,wC,q⟩:=h;have el:=Paired.length e2;have fl:=Paired.length f2;have vL:(U0 bh U z)[0]?=some (.tt (U.map fun u=>[u.1,u.2.1])):=rfl;have jF:(U0 bh U' z')[0]?=some (.tt (U'.map fun u=>[u.1,u.2.1])):=rfl;have Y1:(U0 bh U z)[1]?=some (.tt ((if bh=true then U.reverse else U).map fun u=>u.2.2.1)):=rfl;have rP:(U0 bh U' z')[1]?=some (.tt ((if bh=true then U'.reverse else U').map fun u=>u.2.2.1)):=rfl;have O5:(U0 bh U z)[2]?=some (.ii (U.map fun u=>u.2.2.2)):=rfl;have hd2':(U0 bh U' z')[2]?=some (.ii (U'.map fun u=>u.2.2.2)):=rfl;have Y0:(U0 bh U z)[3]?=some (.ss z):=rfl;have hd3':(U0 bh U' z')[3]?=some (.ss z'):=rfl;have rv:∀ W:List K0,((if bh=true then W.reverse else W).map fun u=>u.2.2.1)=if bh=true then (W.map fun u=>u.2.2.1).reverse else W.map fun u=>u.2.2.1:=fun W=>by
   by_cases hb:bh=true
   .rw [if_pos hb,if_pos hb,List.map_reverse]
   .rw [if_neg hb,if_neg hb]
  rw [rv] at Y1 rP;generalize U0 bh U z=ds at *;generalize U0 bh U' z'=ds' at *;have first:(U.map fun u=>[u.1,u.2.1])≠(U'.map fun u=>[u.1,u.2.1])->cmpF n ds ds'=if (U.map fun u=>[u.1,u.2.1])<(U'.map fun u=>[u.1,u.2.1]) then -1 else 1:=fun G9=>by
   rw [uD (i:=0) 'a' vL jF (fun k hk=>by lia) (fun e=>G9 (LvD.tt.inj e))];exact alo G9
  walk_at "rd";refine g8 (fun Y H'=>(∃ u v:Option V,Y=[some (.ref a),some (.ref b),some (.ref t),some (.bl bh),some (.int n),u,v,none])/\Same H H'/\∀ k,k<U.length->k<U'.length->(U.map fun u=>[u.1,u.2.1])[k]?=(U'.map fun u=>[u.1,u.2.1])[k]?) ?_ ?_
  .walk_at "rd";refine ⟨⟨_,e1⟩,⟨_,f1⟩,forZs (xs:=es.map fun e=>V.ref e.1) (ys:=fs.map fun e=>V.ref e.1) (fun i Y H2=>(∃ u v:Option V,Y=[some (.ref a),some (.ref b),some (.ref t),some (.bl bh),some (.int n),u,v,none])/\Same H H2/\∀ k<i,(U.map fun u=>[u.1,u.2.1])[k]?=(U'.map fun u=>[u.1,u.2.1])[k]?) ⟨⟨none,none,rfl⟩,aQ _,by simp⟩ (fun i Y H2 h=>⟨h.2.1 _ _ e1,h.2.1 _ _ f1⟩) ?_ ?_⟩
   .rintro P' Bk hP i x y t2 Y H2 hx hy ⟨⟨u,v,rfl⟩,S2,he⟩ nt;obtain ⟨e,rQ,rfl⟩:=G0 (f:=fun e:Addr×Addr=>V.ref e.1) hx;obtain ⟨f,bG,rfl⟩:=G0 (f:=fun e:Addr×Addr=>V.ref e.1) hy;obtain ⟨w,hw,bN⟩:=Paired.at e2 rQ;obtain ⟨w',iZ,U6⟩:=Paired.at f2 bG;have aU:(U.map fun u=>[u.1,u.2.1])[i]?=some [w.1,w.2.1]:=by rw [T8,hw];rfl
    have aU':(U'.map fun u=>[u.1,u.2.1])[i]?=some [w'.1,w'.2.1]:=by rw [T8,iZ];rfl
    have S3:Same H2 (A0 H2 t2 (.tup [V.ref e.1,V.ref f.1])):=Same.new nt;have ht3:A0 H2 t2 (.tup [V.ref e.1,V.ref f.1]) t2=some (.tup [V.ref e.1,V.ref f.1]):=A5;generalize A0 H2 t2 (.tup [V.ref e.1,V.ref f.1])=H3 at S3 ht3;have aF:=S2.trans S3;walk_at "rd";refine ⟨_,.of ht3,rfl,_,_,rfl,_,_,rfl,rfl,?_⟩;walk_at "rd";have sl:∀ {H4:Hp} {Z:VK},Same H H4->(∀ p H5,Same H4 H5->H5 p=some (.tup ([w.1,w.2.1].map V.int))->Z (.ref p) H5)->rSlR K e.1 none (some 2) H4 Z:=fun S hZ=>by
     refine rSlR.t (.of (S _ _ bN.1)) (by simp [HT.sIx]) fun p np=>?_
     rw [show cutV [V.int w.1,V.int w.2.1,V.ref e.2,V.int w.2.2.2] none (some 2)=[w.1,w.2.1].map V.int from aS _ 2];exact hZ p _ (Same.new np) A5
    have sl':∀ {H4:Hp} {Z:VK},Same H H4->(∀ p H5,Same H4 H5->H5 p=some (.tup ([w'.1,w'.2.1].map V.int))->Z (.ref p) H5)->rSlR K f.1 none (some 2) H4 Z:=fun S hZ=>by
     refine rSlR.t (.of (S _ _ U6.1)) (by simp [HT.sIx]) fun p np=>?_
     rw [show cutV [V.int w'.1,V.int w'.2.1,V.ref f.2,V.int w'.2.2.2] none (some 2)=[w'.1,w'.2.1].map V.int from aS _ 2];exact hZ p _ (Same.new np) A5
    refine sl aF fun p1 H4 S4 h4=>sl' (aF.trans S4) fun p2 H5 S5 h5=>?_
    walk_at "rd";refine ⟨_,.tup (.of (S5 _ _ h4)) g7,_,.tup (.of h5) g7,by rw [g4,dX];lia,?_⟩;rw [P7,kD];have U5:=aF.trans (S4.trans S5)
    by_cases rR:[w.1,w.2.1]=[w'.1,w'.2.1]
    .rw [if_neg (by simp [rR])];refine hP _ _ _ ⟨⟨_,_,rfl⟩,U5,fun k hk=>?_⟩
     by_cases iT:k=i
     .rw [iT,aU,aU',rR]
     .exact he k 'a'
    .rw [if_pos (by rw [decide_eq_false rR];rfl)];obtain ⟨n1,n2⟩:=zL oX aU aU' he rR;have hq:=first n1
     refine sl U5 fun p3 H6 S6 h6=>sl' (U5.trans S6) fun p4 H7 S7 h7=>⟨_,_,_,rfl,.inr (.inl ⟨p3,p4,_,_,rfl,rfl,S7 _ _ h6,h7,rfl⟩),?_⟩
     rw [sg_ne oX lI_tr zN rR]
     have:=q H7 (U5.trans (S6.trans S7))
     rw [hq] at this
     by_cases c:[w.1,w.2.1]<[w'.1,w'.2.1]
     .rw [if_pos (n2.mpr c)] at this;rw [if_pos c];exact this
     .rw [if_neg (fun z=>c (n2.mp z))] at this;rw [if_neg c];exact this
   rintro Y H2 ⟨⟨u,v,rfl⟩,S2,he⟩;refine ⟨⟨_,_,rfl⟩,S2,fun k k1 k2=>he k ?_⟩;simp only [A6];lia
  rintro Y H2 ⟨⟨u,v,rfl⟩,S2,he⟩;obtain ⟨x1,x2⟩:=aoZ oX (xs:=U.map fun u=>[u.1,u.2.1]) (ys:=U'.map fun u=>[u.1,u.2.1]) (fun k k1 k2=>he k (by simpa using k1) (by simpa using k2));rw [A6,A6] at x1 x2;walk_at "rd";refine ⟨U.length,.inl ⟨_,.of (S2 _ _ e1),by rw [A6];lia⟩,U'.length,.inl ⟨_,.of (S2 _ _ f1),by rw [A6];lia⟩,?_⟩
  by_cases A9:¬ U.length=U'.length
  .rw [if_pos (by simp;lia)];refine ⟨U.length,.inl ⟨_,.of (S2 _ _ e1),by rw [A6];lia⟩,U'.length,.inl ⟨_,.of (S2 _ _ f1),by rw [A6];lia⟩,?_⟩;have hq:=first fun e=>A9 (x1.mp e)
   have:=q H2 S2
   rw [hq] at this;refine ⟨_,_,_,rfl,.inl ⟨_,_,rfl,rfl,rfl⟩,?_⟩;rw [sg_ne aN (fun _ _ _=>Int.lt_trans) lA (show ((U.length:Nat):Int)≠((U'.length:Nat):Int) by lia)]
   by_cases c:U.length<U'.length
   .rw [if_pos (x2.mpr c)] at this;rw [if_pos 'a'];exact this
   .rw [if_neg (fun z=>c (x2.mp z))] at this;rw [if_neg 'a'];exact this
  have A9:U.length=U'.length:=Decidable.of_not_not A9;rw [if_neg (by simp;lia)];have c1:cmpF 1 ds ds'=0:=uE fun k hk=>by
   obtain rfl:k=0:=by lia
   rw [vL,jF,x1.mpr A9]
  clear first he x1 x2 vL jF
  refine g8 (fun Y H'=>(∃ u v:Option V,Y=[some (.ref a),some (.ref b),some (.ref t),some (.bl bh),some (.int n),u,v,some (.int (cmpF (min n 2) ds ds'))])/\Same H H') ?_ ?_
  .walk_at "rd";refine iteD (fun hn=>?_) fun hn=>⟨by rw [show min n 2=1 by lia,c1],S2⟩
   rw [show min n 2=1+1 by lia,zM c1 Y1 rP,amL];refine ⟨⟨_,S2 _ _ e1⟩,⟨_,S2 _ _ f1⟩,forZs (xs:=es.map fun e=>V.ref e.1) (ys:=fs.map fun e=>V.ref e.1) (fun i Y H3=>∃ (u v:Option V) (s:Int),Y=[some (.ref a),some (.ref b),some (.ref t),some (.bl bh),some (.int n),u,v,some (.int s)]/\Same H H3/\DiffI bh (U.map fun u=>u.2.2.1) (U'.map fun u=>u.2.2.1) i s) ⟨u,v,0,rfl,S2,.inl ⟨rfl,by simp⟩⟩ (by rintro i Y H3 ⟨_,_,_,_,S,_⟩;exact ⟨S _ _ e1,S _ _ f1⟩) ?_ ?_⟩
   .rintro P' Bk hP i x y t2 Y H3 hx hy ⟨u,v,s,rfl,S3,hI⟩ nt;obtain ⟨e,rQ,rfl⟩:=G0 (f:=fun e:Addr×Addr=>V.ref e.1) hx;obtain ⟨f,bG,rfl⟩:=G0 (f:=fun e:Addr×Addr=>V.ref e.1) hy;obtain ⟨w,hw,bN⟩:=Paired.at e2 rQ;obtain ⟨w',iZ,U6⟩:=Paired.at f2 bG;have hI2:=hI.step oX lI_tr zN (x:=w.2.2.1) (y:=w'.2.2.1) (by rw [T8,hw];rfl) (by rw [T8,iZ];rfl);have S4:Same H3 (A0 H3 t2 (.tup [V.ref e.1,V.ref f.1])):=Same.new nt;have rS:A0 H3 t2 (.tup [V.ref e.1,V.ref f.1]) t2=some (.tup [V.ref e.1,V.ref f.1]):=A5;generalize A0 H3 t2 (.tup [V.ref e.1,V.ref f.1])=H4 at S4 rS;have Z9:=S3.trans S4;have i1:G4 [V.int w.1,V.int w.2.1,V.ref e.2,V.int w.2.2.2] 2=some (V.ref e.2):=N9 (j:=2) rfl;have i2:G4 [V.int w'.1,V.int w'.2.1,V.ref f.2,V.int w'.2.2.2] 2=some (V.ref f.2):=N9 (j:=2) rfl;walk_at "rd";refine ⟨_,.of rS,rfl,_,_,rfl,_,_,rfl,rfl,?_⟩;walk_at "rd";refine ⟨_,.inr (.of (Z9 _ _ bN.1)),_,i1,_,.inr (.of (Z9 _ _ U6.1)),_,i2,?_⟩;walk_at "rd";refine ⟨_,.tup (.of (Z9 _ _ bN.2)) g7,_,.tup (.of (Z9 _ _ U6.2)) g7,by rw [g4,dX];lia,?_⟩;rw [P7,kD]
    by_cases dH:w.2.2.1=w'.2.2.1
    .rw [if_neg (fun q=>q.1 dH)] at hI2;rw [if_neg (by rw [decide_eq_true dH];decide)];exact hP _ _ _ ⟨_,_,_,rfl,Z9,hI2⟩
    rw [if_pos (by rw [decide_eq_false dH];rfl)]
    by_cases s0:s=0
    .rw [if_pos ⟨dH,.inl s0⟩] at hI2;rw [if_pos (decide_eq_true s0)];exact ⟨_,.inr (.of (Z9 _ _ bN.1)),_,i1,_,.inr (.of (Z9 _ _ U6.1)),_,i2,_,_,_,rfl,.inr (.inl ⟨e.2,f.2,_,_,rfl,rfl,Z9 _ _ bN.2,Z9 _ _ U6.2,rfl⟩),hP _ _ _ ⟨_,_,_,rfl,Z9,hI2⟩⟩
    rw [if_neg (by simpa using s0)]
    by_cases hb:bh=true
    .rw [if_pos ⟨dH,.inr hb⟩] at hI2;rw [if_pos hb];exact ⟨_,.inr (.of (Z9 _ _ bN.1)),_,i1,_,.inr (.of (Z9 _ _ U6.1)),_,i2,_,_,_,rfl,.inr (.inl ⟨e.2,f.2,_,_,rfl,rfl,Z9 _ _ bN.2,Z9 _ _ U6.2,rfl⟩),hP _ _ _ ⟨_,_,_,rfl,Z9,hI2⟩⟩
    .rw [if_neg (fun q=>q.2.elim s0 hb)] at hI2;rw [if_neg hb];exact hP _ _ _ ⟨_,_,_,rfl,Z9,hI2⟩
   rintro Y H3 ⟨u,v,s,rfl,S3,hI⟩;rw [show min (es.map fun e=>V.ref e.1).length (fs.map fun e=>V.ref e.1).length=(U.map fun u=>u.2.2.1).length by simp only [A6];lia] at hI;have hs:=hI.fin oX lI_tr zN (by simpa using A9);rw [<- hs];exact ⟨⟨_,_,rfl⟩,S3⟩
  clear S2 u v;rintro Y H3 ⟨⟨u,v,rfl⟩,S3⟩;refine g8 (fun Y H'=>(∃ u v:Option V,Y=[some (.ref a),some (.ref b),some (.ref t),some (.bl bh),some (.int n),u,v,some (.int (cmpF (min n 3) ds ds'))])/\Same H H') ?_ ?_
  .walk_at "rd";refine iteD (fun hn=>?_) fun hn=>⟨by rw [show min n 3=min n 2 by lia],S3⟩
   have m2:min n 2=2:=by lia
   have m3:min n 3=2+1:=by lia
   by_cases s1:¬ cmpF (min n 2) ds ds'=0
   .rw [if_neg (by simpa using s1)];rw [m2] at s1 ⊢
    exact ⟨by rw [m3,alh (Nat.le_succ 2) s1],S3⟩
   have s0:cmpF (min n 2) ds ds'=0:=Decidable.of_not_not s1;rw [if_pos (decide_eq_true s0),s0];rw [m2] at s0;rw [m3,zM s0 O5 hd2',amM];refine ⟨⟨_,S3 _ _ e1⟩,⟨_,S3 _ _ f1⟩,forZs (xs:=es.map fun e=>V.ref e.1) (ys:=fs.map fun e=>V.ref e.1) (fun i Y H4=>∃ (u v:Option V) (s:Int),Y=[some (.ref a),some (.ref b),some (.ref t),some (.bl bh),some (.int n),u,v,some (.int s)]/\Same H H4/\DiffI false (U.map fun u=>u.2.2.2) (U'.map fun u=>u.2.2.2) i s) ⟨u,v,0,rfl,S3,.inl ⟨rfl,by simp⟩⟩ (by rintro i Y H4 ⟨_,_,_,_,S,_⟩;exact ⟨S _ _ e1,S _ _ f1⟩) ?_ ?_⟩
   .rintro P' Bk hP i x y t2 Y H4 hx hy ⟨u,v,s,rfl,S4,hI⟩ nt;obtain ⟨e,rQ,rfl⟩:=G0 (f:=fun e:Addr×Addr=>V.ref e.1) hx;obtain ⟨f,bG,rfl⟩:=G0 (f:=fun e:Addr×Addr=>V.ref e.1) hy;obtain ⟨w,hw,bN⟩:=Paired.at e2 rQ;obtain ⟨w',iZ,U6⟩:=Paired.at f2 bG;have hI2:=hI.step aN (fun _ _ _=>Int.lt_trans) lA (x:=w.2.2.2) (y:=w'.2.2.2) (by rw [T8,hw];rfl) (by rw [T8,iZ];rfl);have S5:Same H4 (A0 H4 t2 (.tup [V.ref e.1,V.ref f.1])):=Same.new nt;have aE:A0 H4 t2 (.tup [V.ref e.1,V.ref f.1]) t2=some (.tup [V.ref e.1,V.ref f.1]):=A5;generalize A0 H4 t2 (.tup [V.ref e.1,V.ref f.1])=H5 at S5 aE;have U5:=S4.trans S5;have i1:G4 [V.int w.1,V.int w.2.1,V.ref e.2,V.int w.2.2.2] 3=some (V.int w.2.2.2):=N9 (j:=3) rfl;have i2:G4 [V.int w'.1,V.int w'.2.1,V.ref f.2,V.int w'.2.2.2] 3=some (V.int w'.2.2.2):=N9 (j:=3) rfl;walk_at "rd";refine ⟨_,.of aE,rfl,_,_,rfl,_,_,rfl,rfl,?_⟩
    by_cases s0:s=0
    .rw [if_pos (decide_eq_true s0)];have hI3:DiffI false (U.map fun u=>u.2.2.2) (U'.map fun u=>u.2.2.2) (i+1) (sg w.2.2.2 w'.2.2.2):=by
      by_cases dH:w.2.2.2=w'.2.2.2
      .rw [if_neg (fun q=>q.1 dH),s0] at hI2;rw [dH,sg_eq aN];exact hI2
      .rw [if_pos ⟨dH,.inl s0⟩] at hI2;exact hI2
     walk_at "rd";exact ⟨_,.inr (.of (U5 _ _ bN.1)),_,i1,_,.inr (.of (U5 _ _ U6.1)),_,i2,_,_,_,rfl,.inl ⟨_,_,rfl,rfl,rfl⟩,hP _ _ _ ⟨_,_,_,rfl,U5,hI3⟩⟩
    .rw [if_neg (by simpa using s0)];rw [if_neg (fun q=>q.2.elim s0 'h')] at hI2;exact hP _ _ _ ⟨_,_,_,rfl,U5,hI2⟩
   rintro Y H4 ⟨u,v,s,rfl,S4,hI⟩;rw [show min (es.map fun e=>V.ref e.1).length (fs.map fun e=>V.ref e.1).length=(U.map fun u=>u.2.2.2).length by simp only [A6];lia] at hI;have hs:=hI.fin aN (fun _ _ _=>Int.lt_trans) lA (by simpa using A9);simp only [mY,if_false] at hs;rw [<- hs];exact ⟨⟨_,_,rfl⟩,S4⟩
  clear S3 u v;rintro Y H4 ⟨⟨u,v,rfl⟩,S4⟩;refine g8 (fun Y H'=>(∃ u v:Option V,Y=[some (.ref a),some (.ref b),some (.ref t),some (.bl bh),some (.int n),u,v,some (.int (cmpF n ds ds'))])/\Same H H') ?_ ?_
  .walk_at "rd";refine iteD (fun hn=>?_) fun hn=>⟨by rw [show min n 3=n by lia],S4⟩
   have m3:min n 3=3:=by lia
   have m4:n=3+1:=by lia
   by_cases s1:¬ cmpF (min n 3) ds ds'=0
   .rw [if_neg (by simpa using s1)];rw [m3] at s1 ⊢
    refine ⟨?_,S4⟩;rw [m4,alh (Nat.le_succ 3) s1]
   have s0:cmpF (min n 3) ds ds'=0:=Decidable.of_not_not s1;rw [if_pos (decide_eq_true s0)];rw [m3] at s0;have rS:=S4 _ _ ht;refine ⟨_,.inr (.of rS),_,T6 _ _,_,.inr (.of rS),_,N9 (j:=1) rfl,_,_,_,rfl,.inr (.inr ⟨z,z',rfl,rfl,rfl⟩),?_⟩;refine ⟨?_,S4⟩;rw [m4,zM s0 Y0 hd3',amN]
  rintro Y H5 ⟨⟨u,v,rfl⟩,S5⟩;walk_at "rd";exact q _ S5
theorem sc_l_marked:FnScope ["_law_rules_here", "_law_parts_here", "_law_cell", "_law_marks", "_law_at"] ["_law_rules_here", "_law_parts_here", "_law_cell"] (C3 aZ):=G1
abbrev pP:List Str:=["_law_rules_here", "_law_parts_here", "_law_cell", "_law_marks", "_law_at"]
theorem vfa:VS pP aZ "_law_rules_here" 0:=vq
theorem vA:VS pP aZ "_law_parts_here" 1:=vq
theorem vfc:VS pP aZ "_law_cell" 2:=vq
theorem vfd:VS pP aZ "_law_marks" 3:=vq
theorem vfe:VS pP aZ "_law_at" 4:=vq
theorem vff:LS aZ "_law_marks":=lq
theorem vfg:LS aZ "_law_at":=lq
theorem aie(F:FunD K "_law_marked" "_law_marked" aZ f fd)(T:Txt P w K mg C)(G_l_row_of:FO P w K mg base 1 "_law_row_of" ["_law_rules_here", "_law_word"] [] (zD K)):FnOk P w K mg base E6 2 f fd ["_law_rules_here", "_law_parts_here", "_law_cell"] (aiW K):=by
 refine F.ok sc_l_marked ?_ ?_
 .rintro _ _ _ _ ⟨r,p,c,ts,R,ns,ls,ms,ps,rfl,_⟩;rfl
 .intro cdv A outer s H vs Q E hr h;have C2:=hu_of hr;have hu:=hr.units;refine ⟨_,QSs.out (A8 (C7 (n:=3) sc_l_marked.nd rfl vff (C8 G_l_row_of (hm hr) (qa_c (vi vfa) (qa_c G5 A3))))
   (A8 (C7 (n:=4) sc_l_marked.nd rfl vfg (qe_op q_mod (vi vfc) (qe_op 'i' (qe_cB (q_len (K:=K)) T.b_len P3 (qa_c (vi vA) A3)) A4)))
   (A8 (qs_if (D6 (q_eq (K:=K) hu) (vi vfd) (M7 A3)) (A7 (E4 (qe_cT (k8 (K:=K) (calm:=true)) T.b_list j9 (qa_c (vi vA) A3)))) F7)
   (A7 (E4 (qe_op 'i' (qe_op 'i' (L9 (K:=K) (vi vA) O4 (I0 (vi vfe))) (M7 (qa_c (qe_ix (K:=K) (vi vfd) (qe_op q_mod (qe_op L7 (vi vfc) A4) (qe_cB (q_len (K:=K)) T.b_len P3 (qa_c (vi vfd) A3)))) A3))) (L9 (K:=K) (vi vA) (I0 (vi vfe)) O4))))))),?_⟩
  obtain ⟨r,p,c,ts,R,ns,ls,ms,ps,rfl,hR,G,hp,L5,q⟩:=h;have hRl:=G.len;have rN:=j6 c (show ((ps.length:Int)+1)≠0 by lia);have C9:=o6 c (show 0<(ps.length:Int)+1 by lia);have dD:∀ x∈ms,W0 x=true:=fun x hx=>by
   obtain ⟨k,hk⟩:=G.pc (D8.mpr ⟨_,G.mark.mpr hx,rfl⟩);exact (gG hk.ok.1).1
  walk_at "rd";refine ⟨r,ts,R, "marks",rfl,hR,by lia,fun z hz=>K6 (G.zl hz) 'h',fun m H1 nm S1 hm=>?_⟩;rw [G.mrk.1] at hm;refine ⟨ps.length,.inl ⟨_,.of (S1 _ _ hp),by rw [A6]⟩,by lia,fun p3 mH=>?_⟩;have S2:Same H1 (A0 H1 p3 (.lst [])):=Same.new mH;have h3:A0 H1 p3 (.lst []) p3=some (.lst []):=A5;generalize A0 H1 p3 (.lst [])=H2 at S2 h3;have fN:=S1.trans S2;have m8:=S2 _ _ hm;have U4:=fN _ _ hp;obtain ⟨k,hk⟩:∃ m:Nat,c % ((ps.length:Int)+1)=(m:Int):=⟨(c % ((ps.length:Int)+1)).toNat,by lia⟩
  rw [hk];refine ⟨_,.lst (.of m8) (j8 dD),_,.lst (.of h3) .nil,K6 (mX _ _) 'h',?_⟩
  by_cases wF:ms=[]
  .subst wF;rw [if_pos (by rfl)];exact rListR.l (.inl (.of U4)) fun l nl=>q l _ ps (fN.free nl) (fN.trans (Same.new nl)) A5 (fun x hx=>.inl hx) 'a'
  rw [if_neg (by
   cases ms with
   | nil=>exact absurd rfl wF
   | cons x r=>simp [P7,Y9])]
  obtain ⟨x,hx,K1⟩:=pickA (zs:=ms) (c / 13) (mO.mpr wF);have vZ:=mO.mpr wF;refine rSlR.l (.of U4) fun a1 n1=>?_
  rw [aS,<- u9];have S3:Same H2 (A0 H2 a1 (.lst ((ps.take k).map V.str))):=Same.new n1;have h1:A0 H2 a1 (.lst ((ps.take k).map V.str)) a1=some (.lst ((ps.take k).map V.str)):=A5;generalize A0 H2 a1 (.lst ((ps.take k).map V.str))=H3 at S3 h1;refine ⟨ms.length,.inl ⟨_,.of (S3 _ _ m8),by rw [A6]⟩,_,rfl,by lia,?_⟩;walk_at "rd";refine ⟨_,.inl (.of (S3 _ _ m8)),_,K1,by decide,fun a2 n2=>?_⟩;have S4:Same H3 (A0 H3 a2 (.lst ([x].map V.str))):=Same.new n2;have h2:A0 H3 a2 (.lst ([x].map V.str)) a2=some (.lst ([x].map V.str)):=A5;show rAddU K (.ref a1) (.ref a2) (A0 H3 a2 (.lst ([x].map V.str))) _;generalize A0 H3 a2 (.lst ([x].map V.str))=H4 at S4 h2;refine rAddR.l (S4 _ _ h1) h2 (by simp only [A6,E9,N3];exact O8 'a') fun a3 n3=>?_
  rw [<- E2];have S5:Same H4 (A0 H4 a3 (.lst ((ps.take k++[x]).map V.str))):=Same.new n3;have h5:A0 H4 a3 (.lst ((ps.take k++[x]).map V.str)) a3=some (.lst ((ps.take k++[x]).map V.str)):=A5;generalize A0 H4 a3 (.lst ((ps.take k++[x]).map V.str))=H5 at S5 h5;have S25:=S3.trans (S4.trans S5);refine rSlR.l (.of (S25 _ _ U4)) fun a4 n4=>?_
  rw [p5,<- aK];refine rAddR.l (D1 h5 n4) A5 (by simp only [A6,C4,E9,X1,N3];exact O8 'a') fun a5 n5=>?_
  rw [<- E2];refine q a5 _ (ps.take k++[x]++ps.drop k) ((fN.trans (S25.trans (Same.new n4))).free n5) (fN.trans (S25.trans ((Same.new n4).trans (Same.new n5)))) A5 (fun y hy=>?_) (by simp only [C4,E9,X1,N3];lia)
  rcases E1.mp hy with h | h
  .rcases E1.mp h with h | h
   .exact .inl (jM h)
   .rw [F6.mp h];exact .inr hx
  .exact .inl (List.mem_of_mem_drop h)
theorem alx:FnScope ["_law_found", "_law_due"] ["_law_found", "_law_due"] (C3 oW):=G1
abbrev aiZ:List Str:=["_law_found", "_law_due"]
theorem vfh:VS aiZ oW "_law_found" 0:=vq
theorem vfi:VS aiZ oW "_law_due" 1:=vq
theorem aly(F:FunD K "_law_held" "_law_held" oW f fd)(T:Txt P w K mg C):FnOk P w K mg base E6 1 f fd ["_law_found", "_law_due"] alp:=by
 refine F.ok alx ?_ ?_
 .rintro _ _ _ _ ⟨i,k,rfl,_⟩;rfl
 .intro cdv A outer s H vs Q E hr h;have C2:=hu_of hr;have hu:=hr.units;refine ⟨_,QSs.out (A7 (E4 (xO (qe_cB q_isi T.b_isinstance adP (qa_c (vi vfh) (qa_c (qe_ty T.b_int nN) A3))) (xO (aos (K:=K) (qe_cB q_isi T.b_isinstance adP (qa_c (vi vfh) (qa_c (qe_ty T.b_bool aor) A3)))) (am3 (gH (q_eq (K:=K) hu) (vi vfh) (vi vfi))))))),?_⟩;obtain ⟨i,k,rfl,q⟩:=h;walk_at "rd";refine ⟨"int",rfl,rfl,?_⟩;rw [if_pos 'h'];refine ⟨"int",rfl,rfl,?_⟩;rw [if_pos 'h'];exact q
theorem sc_law:FnScope ["_law_script", "_law_rules_here", "_law_makes_here", "_law_worth", "_law_parts_here", "_law_others_here", "_law_k", "_law_one", "_law_other", "_law_mine", "_law_theirs", "_law_handed", "_law_order", "_law_strength", "_law_due"] ["_law_script"] (C3 s_law):=G1
abbrev n_law:List Str:=["_law_script", "_law_rules_here", "_law_makes_here", "_law_worth", "_law_parts_here", "_law_others_here", "_law_k", "_law_one", "_law_other", "_law_mine", "_law_theirs", "_law_handed", "_law_order", "_law_strength", "_law_due"]
theorem iG:VS n_law s_law "_law_script" 0:=vq
theorem lN:VS n_law s_law "_law_rules_here" 1:=vq
theorem vB:VS n_law s_law "_law_makes_here" 2:=vq
theorem vfm:VS n_law s_law "_law_worth" 3:=vq
theorem vC:VS n_law s_law "_law_parts_here" 4:=vq
theorem vfo:VS n_law s_law "_law_others_here" 5:=vq
theorem vfp:VS n_law s_law "_law_k" 6:=vq
theorem iH:VS n_law s_law "_law_one" 7:=vq
theorem pQ:VS n_law s_law "_law_other" 8:=vq
theorem vfs:VS n_law s_law "_law_mine" 9:=vq
theorem vft:VS n_law s_law "_law_theirs" 10:=vq
theorem vfu:VS n_law s_law "_law_handed" 11:=vq
theorem vD:VS n_law s_law "_law_order" 12:=vq
theorem vE:VS n_law s_law "_law_strength" 13:=vq
theorem vfx:VS n_law s_law "_law_due" 14:=vq
theorem vfy:LS s_law "_law_rules_here":=lq
theorem vfz:LS s_law "_law_makes_here":=lq
theorem vfA:LS s_law "_law_worth":=lq
theorem vfB:LS s_law "_law_parts_here":=lq
theorem vfC:LS s_law "_law_others_here":=lq
theorem vfD:LS s_law "_law_k":=lq
theorem vfE:LS s_law "_law_one":=lq
theorem vfF:LS s_law "_law_other":=lq
theorem vfG:LS s_law "_law_mine":=lq
theorem vfH:LS s_law "_law_theirs":=lq
theorem vfI:LS s_law "_law_handed":=lq
theorem vfJ:LS s_law "_law_order":=lq
theorem vfK:LS s_law "_law_strength":=lq
theorem vfL:LS s_law "_law_due":=lq
theorem arG(F:FunD K "law" "law" s_law f fd)(T:Txt P w K mg C)(G_Order___init__:KO P w K mg base 5 C "Order" ["self", "rules"] (yP C))(G_compare:FO P w K mg base 8 "compare" ["order", "one", "other", "strength"] [.int 4] (kZ C))(G3_compare:FO P w K mg base 8 "compare" ["order", "one", "other", "strength"] [] (kZ C))(G_l_cell_at:FO P w K mg base 1 "_law_cell_at" ["_law_script", "_law_k"] [] (kL K))(G_l_rules:FO P w K mg base 5 "_law_rules" ["_law_script"] [] (aiJ K))(G_l_makes:FO P w K mg base 2 "_law_makes" ["_law_rules_here"] [] (ak7 K))(G_l_units:FO P w K mg base 2 "_law_units" ["_law_makes_here", "_law_worth", "_law_text"] [] (aiR K))(G_l_pieces:FO P w K mg base 1 "_law_pieces" ["_law_makes_here", "_law_worth", "_law_cells"] [] (aiT K))(G_l_changed:FO P w K mg base 2 "_law_changed" ["_law_makes_here", "_law_parts_here", "_law_cell"] [] (ag9 K))(G_l_compare:FO P w K mg base 2 "_law_compare" ["_law_mine", "_law_theirs", "_law_texts", "_law_behind", "_law_strength"] [] (zO K))(G_l_marked:FO P w K mg base 2 "_law_marked" ["_law_rules_here", "_law_parts_here", "_law_cell"] [] (aiW K))(G_l_held:FO P w K mg base 1 "_law_held" ["_law_found", "_law_due"] [] alp):FnOk P w K mg base E6 9 f fd ["_law_script"] (spLaw K):=by
 refine F.ok sc_law ?_ ?_
 .rintro _ _ _ _ ⟨a,ns,rfl,_⟩;rfl
 .intro cdv A outer s H vs Q E hr h;have C2:=hu_of hr;have hu:=hr.units;refine ⟨_,QSs.out (A8 (C7 (n:=1) sc_law.nd rfl vfy (C8 G_l_rules (hm hr) (qa_c (vi iG) A3)))
   (A8 (C7 (n:=2) sc_law.nd rfl vfz (C8 G_l_makes (hm hr) (qa_c (vi lN) A3)))
   (A8 (C7 (n:=3) sc_law.nd rfl vfA (gH (q_inD (K:=K) hu) (K7 (qa_c G5 A3)) (vi lN)))
   (V1 (C7 (n:=4) sc_law.nd rfl vfB (C8 G_l_pieces (hm hr) (qa_c (vi vB) (qa_c (vi vfm) (qa_c (L9 (K:=K) (vi iG) (I0 A4) (I0 A4)) A3)))))
   (A8 (C7 (n:=5) sc_law.nd rfl vfC (qe_cT (k8 (K:=K) (calm:=true)) T.b_list j9 (qa_c (vi vC) A3)))
   (A8 (L6 PassesOwn.never (qi_r1 T.b_range (qa_c (qe_op 'i' A4 (qe_op q_mod (C8 G_l_cell_at (hm hr) (qa_c (vi iG) (qa_c A4 A3))) A4)) A3)) (D3 (n:=6) sc_law.nd rfl vfD 'g') (A7 (C7 (n:=5) sc_law.nd rfl vfC (C8 G_l_changed (hm hr) (qa_c (vi vB) (qa_c (vi vfo) (qa_c (C8 G_l_cell_at (hm hr) (qa_c (vi iG) (qa_c (qe_op 'i' A4 (vi vfp)) A3))) A3)))))))
   (V1 (qs_if (D6 (q_eq (K:=K) hu) (qe_op q_mod (qe_op L7 (C8 G_l_cell_at (hm hr) (qa_c (vi iG) (qa_c A4 A3))) A4) A4) A4) (A8 (C7 (n:=5) sc_law.nd rfl vfC (C8 G_l_marked (hm hr) (qa_c (vi lN) (qa_c (vi vC) (qa_c (C8 G_l_cell_at (hm hr) (qa_c (vi iG) (qa_c A4 A3))) A3)))))
   (A7 (C7 (n:=4) sc_law.nd rfl vfB (C8 G_l_marked (hm hr) (qa_c (vi lN) (qa_c (vi vC) (qa_c (C8 G_l_cell_at (hm hr) (qa_c (vi iG) (qa_c A4 A3))) A3))))))) F7)
   (A8 (C7 (n:=7) sc_law.nd rfl vfE (qe_mB (K:=K) PySem.F.plainAttrs_str PySem.F.slot_str_join PySem.F.type_str_join (am8 (K:=K)) G5 (qa_c (vi vC) A3)))
   (A8 (C7 (n:=8) sc_law.nd rfl vfF (qe_mB (K:=K) PySem.F.plainAttrs_str PySem.F.slot_str_join PySem.F.type_str_join (am8 (K:=K)) G5 (qa_c (vi vfo) A3)))
   (A8 (C7 (n:=9) sc_law.nd rfl vfG (C8 G_l_units (hm hr) (qa_c (vi vB) (qa_c (vi vfm) (qa_c (vi iH) A3)))))
   (A8 (C7 (n:=10) sc_law.nd rfl vfH (C8 G_l_units (hm hr) (qa_c (vi vB) (qa_c (vi vfm) (qa_c (vi pQ) A3)))))
   (A8 (C7 (n:=11) sc_law.nd rfl vfI (qe_cT (k8 (K:=K) (calm:=true)) T.b_list j9 (qa_c (vi lN) A3)))
   (A8 (C7 (n:=12) sc_law.nd rfl vfJ (aoC G_Order___init__ (hm hr) (qa_c (vi vfu) A3)))
   (A8 (O9 (qe_m0 (K:=K) Q5 PySem.F.slot_list_clear PySem.F.type_list_clear aot (vi vfu)))
   (A8 (L6 PassesOwn.never (qi_r2 T.b_range (qa_c A4 (qa_c A4 A3))) (D3 (n:=13) sc_law.nd rfl vfK 'g') (A8 (C7 (n:=14) sc_law.nd rfl vfL (C8 G_l_compare (hm hr) (qa_c (vi vfs) (qa_c (vi vft) (qa_c (K7 (qa_c (vi iH) (qa_c (vi pQ) A3))) (qa_c (gH (q_inD (K:=K) hu) (K7 (qa_c G5 A3)) (vi lN)) (qa_c (vi vE) A3)))))))
   (A8 (qs_if (sT (W7 (K:=K) (C8 G_l_held (hm hr) (qa_c (C8 G3_compare (hm hr) (qa_c (vi vD) (qa_c (vi iH) (qa_c (vi pQ) (qa_c (vi vE) A3))))) (qa_c (vi vfx) A3))))) (A7 (E4 qe_bl)) F7)
   (A7 (qs_if (QW.pt (qw_or (sT (W7 (K:=K) (C8 G_l_held (hm hr) (qa_c (C8 G3_compare (hm hr) (qa_c (vi vD) (qa_c (vi pQ) (qa_c (vi iH) (qa_c (vi vE) A3))))) (qa_c (qe_op q_sub A4 (vi vfx)) A3))))) (kH (D6 (q_ne (K:=K) hu) (C8 G3_compare (hm hr) (qa_c (vi vD) (qa_c (vi iH) (qa_c (vi iH) (qa_c (vi vE) A3))))) A4)))) (A7 (E4 qe_bl)) F7)))))
   (A7 (E4 (C8 G_l_held (hm hr) (qa_c (C8 G_compare (hm hr) (qa_c (vi vD) (qa_c (vi iH) (qa_c (vi pQ) A3)))) (qa_c (vi vfx) A3)))))))))))))))))))),?_⟩
  obtain ⟨a,ns,rfl,hS,A9,q⟩:=h;walk_at "rd";refine ⟨a,ns,rfl,hS,fun r ts R ls ms H1 S1 nr hR G=>?_⟩;obtain ⟨hL,hM⟩:=G.lines;refine ⟨r,ts,R,ns,ls,ms,rfl,hR,G,hL,hM,fun d ks H2 nd S2 hd y7 i5=>?_⟩;have hR2:=hR.same S2;have hS2:=(S1.trans S2).seq hS;clear hR S1 S2 nr nd hS;have eqk:∀ l,cutF 'f' ks l=cutF 'f' (E5 R) l:=fun l=>afI y7 l
  refine ⟨by decide,fun p np=>?_⟩;have S3:Same H2 (A0 H2 p (.tup [V.str (Str.ofString "figures")])):=Same.new np;have R1:A0 H2 p (.tup [V.str (Str.ofString "figures")]) p=some (.tup ((("figures" : Str)::[]).map V.str)):=A5;generalize A0 H2 p (.tup [V.str (Str.ofString "figures")])=H3 at S3 R1;refine ⟨ruleD ("figures",[]),.tup (.of R1) (j8 (by intro y hy;rw [F6.mp hy];decide +kernel)),R.map ruleD,yQ (hR2.same S3) G.str,K6 (fW _ _) (K6 (tM R) 'h'),?_⟩;rw [zE R "figures" (G.flag 'g')];refine midS (fun Y H5=>∃ (l:Addr) (ps:List Str),Y=[some (.ref a),some (.ref r),some (.ref d),some (.bl 'f'),some (.ref l),none,none,none,none,none,none,none,none,none,none]/\Same H3 H5/\H5 l=some (.lst (ps.map V.str))/\(∀ p∈ps,l8 'f' ks p)/\ps.length<=18) ?_ ?_
  .intro M' hM';walk_at "rd";refine rSlR.l (S3.seq hS2) fun c nc=>?_
   rw [show cutV (ns.map V.int) (some 10) (some 28)=((ns.drop 10).take 18).map V.int by rw [show cutV (ns.map V.int) (some 10) (some 28)=_ from yI _ (i:=10) (j:=28) 'h',<- aK,<- u9]];have qT:((ns.drop 10).take 18).length<=18:=by rw [E9];lia
   generalize (ns.drop 10).take 18=cs at qT;have S4:Same H3 (A0 H3 c (.lst (cs.map V.int))):=Same.new nc;have cV:A0 H3 c (.lst (cs.map V.int)) c=some (.lst (cs.map V.int)):=A5;generalize A0 H3 c (.lst (cs.map V.int))=H4 at S4 cV;obtain ⟨ad,Y1,O5⟩:=hd.same (S3.trans S4);exact ⟨d,c,_,ks,_,cs,rfl,Y1,G.known_pos y7,i5,.of cV,by lia,fun l H5 ps nl S5 z9 R9 L5=>hM' _ _ ⟨_,_,rfl,S4.trans S5,z9,R9,by lia⟩⟩
  rintro Y H5 ⟨l,ps,rfl,S5,z9,R9,L5⟩;have qR:=hd.same (S3.trans S5);have hR5:=hR2.same (S3.trans S5);have hS5:=(S3.trans S5).seq hS2;clear hd hR2 hS2 S3 S5 R1 np;have hko:∀ x∈ks,W0 x=true:=fun x hx=>by
   rcases oO ((y7 x).mp hx) with rfl | h
   .decide +kernel
   .obtain ⟨k,hk⟩:=G.pc h;exact (gG hk.ok.1).1
  have fB:∀ x∈ms,l8 'f' ks x:=fun x hx=>.inl ((y7 x).mpr (zF (D8.mpr ⟨_,G.mark.mpr hx,rfl⟩)))
  walk_at "rd";refine rListR.l (.inl (.of z9)) fun l2 bM=>?_
  have S6:Same H5 (A0 H5 l2 (.lst (ps.map V.str))):=Same.new bM;have hl6:A0 H5 l2 (.lst (ps.map V.str)) l2=some (.lst (ps.map V.str)):=A5;generalize A0 H5 l2 (.lst (ps.map V.str))=H6 at S6 hl6;refine ⟨a,ns,6,rfl,S6.seq hS5,by decide,_,rfl,by lia,by lia,?_⟩;obtain ⟨m,hm,hm3⟩:∃ m:Nat,(1+cellF ns 6 % 3).toNat=m/\m<=3:=⟨_,rfl,by lia⟩
  rw [hm];refine forRs (fun i Y H'=>∃ (u:Option V) (l2:Addr) (qs:List Str),Y=[some (.ref a),some (.ref r),some (.ref d),some (.bl 'f'),some (.ref l),some (.ref l2),u,none,none,none,none,none,none,none,none]/\Same H5 H'/\H' l2=some (.lst (qs.map V.str))/\(∀ p∈qs,l8 'f' ks p)/\qs.length<=18+i) ⟨none,l2,ps,rfl,S6,hl6,R9,by lia⟩ ?_ ?_
  .rintro P' Bk hP i Y H' hi ⟨u,l2,qs,rfl,S',wC,y4,fJ⟩;walk_at "rd";refine ⟨a,ns,_,rfl,S'.seq hS5,by lia,?_⟩;refine ⟨d,l2,_,ks,qs,stepF R ls ms,rfl,qR.same S',tY G ls ms,G.known_pos y7,i5,hko,wC,by lia,fun l3 H7 rs jB S7 fF hrs fK=>?_⟩;refine hP _ _ _ ⟨_,l3,rs,rfl,S'.trans S7,fF,fun p hp=>?_,by lia⟩
   rcases hrs p hp with h | h
   .exact y4 p h
   .exact .inl h
  rintro Y H7 ⟨u,l2,qs,rfl,S7,fF,y4,fJ⟩;clear hl6 S6 bM;walk_at "rd";refine midS (fun Y H'=>∃ (l l2:Addr) (ps qs:List Str),Y=[some (.ref a),some (.ref r),some (.ref d),some (.bl 'f'),some (.ref l),some (.ref l2),u,none,none,none,none,none,none,none,none]/\Same H5 H'/\H' l=some (.lst (ps.map V.str))/\(∀ p∈ps,l8 'f' ks p)/\ps.length<=21/\H' l2=some (.lst (qs.map V.str))/\(∀ p∈qs,l8 'f' ks p)/\qs.length<=21) ?_ ?_
  .intro M' hM';walk_at "rd";refine ⟨a,ns,6,rfl,S7.seq hS5,by decide,?_⟩;refine ⟨_,rfl,?_⟩
   by_cases hc:cellF ns 6 / 3 % 3=1
   .rw [if_pos (decide_eq_true hc)];have hR7:=hR5.same S7;have rT:=S7 _ _ z9;have hS7:=S7.seq hS5;refine ⟨a,ns,7,rfl,hS7,by decide,?_⟩;refine ⟨r,l,_,ts,R,ns,ls,ms,ps,rfl,hR7,G,rT,by lia,fun l3 H8 rs jB S8 bI hrs fK=>?_⟩;refine ⟨a,ns,8,rfl,S8.seq hS7,by decide,?_⟩;refine ⟨r,l,_,ts,R,ns,ls,ms,ps,rfl,hR7.same S8,G,S8 _ _ rT,by lia,fun l4 H9 rs4 nl4 S9 vV hrs4 hrl4=>?_⟩;exact hM' _ _ ⟨l4,l3,rs4,rs,rfl,S7.trans (S8.trans S9),vV,fun p hp=>(hrs4 p hp).elim (R9 p) (fB p),by lia,S9 _ _ bI,fun p hp=>(hrs p hp).elim (R9 p) (fB p),by lia⟩
   .rw [if_neg (by simpa using hc)];exact hM' _ _ ⟨l,l2,ps,qs,rfl,S7,S7 _ _ z9,R9,by lia,fF,y4,by lia⟩
  clear z9 R9 L5 y4 fJ fF S7;rintro Y H8 ⟨l,l2,ps,qs,rfl,S8,bI,R9,L5,rV,y4,fJ⟩;have hd8:=qR.same S8;have hR8:=hR5.same S8;obtain ⟨s1,s2,s3,s4⟩:=ag8 G y7 R9;obtain ⟨t1,t2,t3,t4⟩:=ag8 G y7 y4;clear qR hR5 S8 hS5 hm;walk_at "rd";refine ⟨_,l,ps,rfl,rfl,.inl (.of bI),by decide,by lia,_,l2,qs,rfl,rfl,.inl (.of rV),by decide,by lia,?_⟩;have n6:(Str.join (Str.ofString "") ps).length<=300:=by lia
  have fO:(Str.join (Str.ofString "") qs).length<=300:=by lia
  clear s1 s2 s3 t1 t2 t3 bI rV;generalize Str.join (Str.ofString "") ps=z at n6 s4;generalize Str.join (Str.ofString "") qs=z' at fO t4;have jE:∀ {y:Str},W8 'f' (E5 R) y->W8 'f' ks y:=fun h=>by
   unfold W8 at h ⊢
   rw [eqk];exact h
  refine ⟨d,z,ks,stepF R ls ms,_,rfl,hd8,by lia,jE s4,tY G ls ms,fun y=>afK,fun du H9 ndu S9 hdu=>?_⟩;refine ⟨d,z',ks,stepF R ls ms,_,rfl,hd8.same S9,by lia,jE t4,tY G ls ms,fun y=>afK,fun du' Q4 ndu' Z6 jG=>?_⟩;rw [eqk] at hdu jG;have hdY:IsUn Q4 du (P1 (stepY R ls ms) (cutF 'f' (E5 R) z.cps.toList).2):=hdu.same Z6;have hdY':IsUn Q4 du' (P1 (stepY R ls ms) (cutF 'f' (E5 R) z'.cps.toList).2):=jG;have hR10:=hR8.same (S9.trans Z6);clear hdu jG hR8 hd8 S9 Z6 ndu ndu';refine rListR.l (.inl (.of hR10.top)) fun h nh=>?_
  have hR11:IsRules (A0 Q4 h (.lst (ts.map V.ref))) h ts R:=⟨A5,M5 hR10.row fun _ _ e=>D1 e nh⟩
  have jA:Same Q4 (A0 Q4 h (.lst (ts.map V.ref))):=Same.new nh;generalize A0 Q4 h (.lst (ts.map V.ref))=bJ at hR11 jA;intro x dx nx ndx ndxx;have X0:Same bJ (A0 (A0 bJ dx (.own x)) x (.ins C dx [])):=(Same.new ndx).trans (Same.new (by rw [B1 ndxx.symm];exact nx));have dI:A0 (A0 bJ dx (.own x)) x (.ins C dx []) x=some (.ins C dx []):=A5;generalize A0 (A0 bJ dx (.own x)) x (.ins C dx [])=H12 at X0 dI;have o0:=X0 _ _ hR11.top;refine ⟨x,dx,h,ts,R,oI R,_,_,rfl,dI,hR11.same X0,G.good,fun j ll ml md L M H13 nj nll nml nmd B13 hO=>?_⟩;obtain rfl:=G.lets hO.l1;obtain rfl:=G.mrks hO.l2;have hxh:h≠x:=fun e=>by rw [e,dI] at o0;cases o0
  have S1D:Same Q4 H13:=fun b o hb=>B13 _ _ (fun e=>by rw [e] at hb;have:=jA _ _ hb;rw [nx] at this;cases this) (X0 _ _ (jA _ _ hb))
  have dJ:=B13 _ _ hxh o0;have hO2:=hO.modL (o:=.lst []) dJ (fun e=>by rw [e,o0] at nll;cases nll) (fun e=>by rw [e,o0] at nml;cases nml);have S1E:Same Q4 (A0 H13 h (.lst [])):=S1D.put nh;refine ⟨rfl,Q7 dJ,clrOk dJ ?_⟩;generalize A0 H13 h (.lst [])=H14 at hO2 S1E;have hdA:=hdY.same S1E;have hdA':=hdY'.same S1E;have hRA:=hR10.same S1E;clear hdY hdY' hR10 S1E S1D dJ hxh hO B13 nj nll nml nmd o0 dI X0 nx ndx ndxx hR11 jA nh;have hsY:=ak4 G L M;have hkl2:=G.known_len;obtain ⟨b1,_,_⟩:=zG hsY (w:=hasW R "figures") (ks:=E5 R) (y:=z) 'a';obtain ⟨b1',_,_⟩:=zG hsY (w:=hasW R "figures") (ks:=E5 R) (y:=z') 'a';have Z7:∀ {y y':Str} {H':Hp} {n:Nat} {Z:VK},y.length<=300->y'.length<=300->W8 'f' (E5 R) y->W8 'f' (E5 R) y'->Same H14 H'->n<=4->(∀ H'',Same H' H''->Z (.int (cmpF n (W4 R L M y) (W4 R L M y'))) H'')->kZ C [V.ref x,V.str y,V.str y',V.int n] H' Z E0:=fun h1 h2 w1 w2 S hn hZ=>
   ⟨x,j,ll,ml,md,_,_,_,oI R,R,L,M,rfl,hn,hO2.same S,hkl2,by lia,by lia,w1,w2,hsY,hZ⟩
  have rO:∀ {H':Hp} {n:Nat} {t:Addr} {Z:VK},Same H14 H'->H' t=some (.tup [V.str z,V.str z'])->1<=n->n<=4->(∀ H'',Same H' H''->Z (.int (cmpF n (W4 R L M z) (W4 R L M z'))) H'')->zO K [V.ref du,V.ref du',V.ref t,V.bl (hasW R "behind"),V.int n] H' Z E0:=fun S ht h1 hn hZ=>
   ⟨du,du',_,_,_,_,_,z,z',rfl,hdA.same S,hdA'.same S,ht,h1,hn,by lia,by lia,hZ⟩
  have anti:∀ n,cmpF n (W4 R L M z') (W4 R L M z)=0-cmpF n (W4 R L M z) (W4 R L M z'):=fun n=>by
   rw [zJ,zJ,aha (ahb n z z')];lia
  have self:∀ n,cmpF n (W4 R L M z) (W4 R L M z)=0:=fun n=>uE fun _ _=>rfl
  refine ⟨by decide,by decide,by decide,by decide,forRs (fun i Y H'=>(∃ (v w:Option V),Y=[some (.ref a),some (.ref r),some (.ref d),some (.bl 'f'),some (.ref l),some (.ref l2),u,some (.str z),some (.str z'),some (.ref du),some (.ref du'),some (.ref h),some (.ref x),v,w]/\(i≠0->w=some (.int (cmpF i (W4 R L M z) (W4 R L M z')))))/\Same H14 H') ⟨⟨none,none,rfl,fun e=>absurd rfl e⟩,aQ _⟩ ?_ ?_⟩
  .rintro P' Bk hP i Y H' hi ⟨⟨v,w,rfl,_⟩,S'⟩;have hi4:i<4:=hi;walk_at "rd";refine ⟨by decide,fun p np=>?_⟩;have S15:Same H' (A0 H' p (.tup [V.str z,V.str z'])):=Same.new np;have rW:A0 H' p (.tup [V.str z,V.str z']) p=some (.tup [V.str z,V.str z']):=A5;generalize A0 H' p (.tup [V.str z,V.str z'])=wG at S15 rW;refine ⟨by decide,fun p2 Z4=>?_⟩;have S16:Same wG (A0 wG p2 (.tup [V.str (Str.ofString "behind")])):=Same.new Z4;have rX:A0 wG p2 (.tup [V.str (Str.ofString "behind")]) p2=some (.tup ((("behind" : Str)::[]).map V.str)):=A5;generalize A0 wG p2 (.tup [V.str (Str.ofString "behind")])=H16 at S16 rX;have T16:=S'.trans (S15.trans S16);refine ⟨ruleD ("behind",[]),.tup (.of rX) (j8 (by intro y hy;rw [F6.mp hy];decide +kernel)),R.map ruleD,yQ (hRA.same T16) G.str,K6 (fW _ _) (K6 (tM R) 'h'),?_⟩;rw [zE R "behind" (G.flag (.inr 'g')),show (1:Int)+(i:Int)=((i+1:Nat):Int) by lia];refine rO T16 (S16 _ _ rW) 'a' 'a' fun H17 S17=>?_
   have T17:=T16.trans S17;refine Z7 n6 fO s4 t4 T17 'a' fun H18 S18=>⟨_,_,rfl,true,(decide_eq_true rfl).symm,?_⟩
   have T18:=T17.trans S18;refine iteF (Z7 fO n6 t4 s4 T18 'a' fun H19 S19=>⟨_,rfl,_,_,rfl,true,(decide_eq_true (anti _)).symm,?_⟩);have T19:=T18.trans S19;refine iteF (Z7 n6 n6 s4 s4 T19 'a' fun H20 S20=>?_);walk_at "rd";rw [self];exact iteF (hP _ _ _ ⟨⟨_,_,rfl,fun _=>rfl⟩,T19.trans S20⟩)
  rintro Y H' ⟨⟨v,w,rfl,hw⟩,S'⟩;obtain rfl:=hw 'h';walk_at "rd";refine Z7 n6 fO s4 t4 S' 'h' fun H20 S20=>⟨_,_,rfl,?_⟩
  rw [show (5-1:Int).toNat=4 from rfl,decide_eq_true rfl];exact q _
end
theorem all_mk{l:PySem.W.OpenLaw}{w:World}(X:K.In h)(G:h.Ns mainGlobals mg)(dC:mg "law"=some (.ref fa))(d0:DF K "told" aW)(d1:DF K "followers" g9)(d2:DF K "count_ahead" aX)(d3:DF K "lined_up" T7)(d4:DF K "is_figure" uB)(d5:DF K "has_rule" oP)(d6:DF K "pieces_told" uC)(d7:DF K "is_clash" eI)(d8:DF K "jobs_of" q0)(d9:DF K "misused" cI)(d10:DF K "check_letters" cJ)(d11:DF K "line_of" oQ)(d12:DF K "forms_of" eJ)(d13:DF K "steps_of" R7){f14:Addr}{od14 an14:Option Addr}{sl14:Array (Option Value)}{oc14 kV14 dc14 pm14 cd14 ct14:Value}(a14:R4 K (.ref C) "__init__"=some (some (.ref f14)))(i14:bU K (.ref f14)=true)(l14:K.lookup f14=some ⟨oc14,od14,.func (V9 "__init__" "Order.__init__" (X4 eK) (W6 eK) (C3 eK) .none kV14 dc14 pm14 an14 cd14 ct14),sl14⟩)(c14:b8 K cd14 "Order.__init__"=true)(k14:X3 K (.ref f14)=true){f15:Addr}{od15 an15:Option Addr}{sl15:Array (Option Value)}{oc15 kV15 dc15 pm15 cd15 ct15:Value}(a15:R4 K (.ref C) "letters"=some (some (.ref f15)))(i15:bU K (.ref f15)=true)(l15:K.lookup f15=some ⟨oc15,od15,.func (V9 "letters" "Order.letters" (X4 gU) (W6 gU) (C3 gU) .none kV15 dc15 pm15 an15 cd15 ct15),sl15⟩)(c15:b8 K cd15 "Order.letters"=true)(k15:X3 K (.ref f15)=true){f16:Addr}{od16 an16:Option Addr}{sl16:Array (Option Value)}{oc16 kV16 dc16 pm16 cd16 ct16:Value}(a16:R4 K (.ref C) "marks"=some (some (.ref f16)))(i16:bU K (.ref f16)=true)(l16:K.lookup f16=some ⟨oc16,od16,.func (V9 "marks" "Order.marks" (X4 gW) (W6 gW) (C3 gW) .none kV16 dc16 pm16 an16 cd16 ct16),sl16⟩)(c16:b8 K cd16 "Order.marks"=true)(k16:X3 K (.ref f16)=true){f17:Addr}{od17 an17:Option Addr}{sl17:Array (Option Value)}{oc17 kV17 dc17 pm17 cd17 ct17:Value}(a17:R4 K (.ref C) "job"=some (some (.ref f17)))(i17:bU K (.ref f17)=true)(l17:K.lookup f17=some ⟨oc17,od17,.func (V9 "job" "Order.job" (X4 eL) (W6 eL) (C3 eL) .none kV17 dc17 pm17 an17 cd17 ct17),sl17⟩)(c17:b8 K cd17 "Order.job"=true)(k17:X3 K (.ref f17)=true)(d18:DF K "figures_at" gX)(d19:DF K "part_at" cK){f20:Addr}{od20 an20:Option Addr}{sl20:Array (Option Value)}{oc20 kV20 dc20 pm20 cd20 ct20:Value}{tD20:Addr}{nD20:Nat}{cD20:Value}{oD20:Option Addr}{sD20:Array (Option Value)}(dl20:K.lookup tD20=some ⟨cD20,oD20,.seq #[.bool false] nD20,sD20⟩)(a20:Q6 K mainGlobals "cut"=some (some (.ref f20)))(l20:K.lookup f20=some ⟨oc20,od20,.func (V9 "cut" "cut" (X4 s_cut) (W6 s_cut) (C3 s_cut) (.ref tD20) kV20 dc20 pm20 an20 cd20 ct20),sl20⟩)(c20:b8 K cd20 "cut"=true)(k20:X3 K (.ref f20)=true){f21:Addr}{od21 an21:Option Addr}{sl21:Array (Option Value)}{oc21 kV21 dc21 pm21 cd21 ct21:Value}(a21:R4 K (.ref C) "known"=some (some (.ref f21)))(i21:bU K (.ref f21)=true)(l21:K.lookup f21=some ⟨oc21,od21,.func (V9 "known" "Order.known" (X4 gY) (W6 gY) (C3 gY) .none kV21 dc21 pm21 an21 cd21 ct21),sl21⟩)(c21:b8 K cd21 "Order.known"=true)(k21:X3 K (.ref f21)=true){f22:Addr}{od22 an22:Option Addr}{sl22:Array (Option Value)}{oc22 kV22 dc22 pm22 cd22 ct22:Value}(a22:R4 K (.ref C) "steps"=some (some (.ref f22)))(i22:bU K (.ref f22)=true)(l22:K.lookup f22=some ⟨oc22,od22,.func (V9 "steps" "Order.steps" (X4 eM) (W6 eM) (C3 eM) .none kV22 dc22 pm22 an22 cd22 ct22),sl22⟩)(c22:b8 K cd22 "Order.steps"=true)(k22:X3 K (.ref f22)=true)(d23:DF K "parts_of" oR)(d24:DF K "steps_by" oS)(d25:DF K "add_mark" oT)(d26:DF K "add_part" q9)(d27:DF K "units" aY)(d28:DF K "looks" r8){f29:Addr}{od29 an29:Option Addr}{sl29:Array (Option Value)}{oc29 kV29 dc29 pm29 cd29 ct29:Value}{kD29:Tok}{tD29:Addr}{nD29:Nat}{cD29:Value}{oD29:Option Addr}{sD29:Array (Option Value)}(dl29:K.lookup tD29=some ⟨cD29,oD29,.seq #[.int 4 kD29] nD29,sD29⟩)(a29:Q6 K mainGlobals "compare"=some (some (.ref f29)))(l29:K.lookup f29=some ⟨oc29,od29,.func (V9 "compare" "compare" (X4 Z2) (W6 Z2) (C3 Z2) (.ref tD29) kV29 dc29 pm29 an29 cd29 ct29),sl29⟩)(c29:b8 K cd29 "compare"=true)(k29:X3 K (.ref f29)=true)(d30:DF K "_law_cell_at" oU)(d31:DF K "_law_sign" cL)(d32:DF K "_law_letters" W3)(d33:DF K "_law_part" gZ)(d34:DF K "_law_two" kX)(d35:DF K "_law_others" R8)(d36:DF K "_law_rules" f6)(d37:DF K "_law_row_of" cM)(d38:DF K "_law_forms" l9)(d39:DF K "_law_makes" m5)(d40:DF K "_law_parts" t5)(d41:DF K "_law_units" V3)(d42:DF K "_law_pieces" i0)(d43:DF K "_law_bare" kY)(d44:DF K "_law_changed" W9)(d45:DF K "_law_put" oV)(d46:DF K "_law_compare" i3)(d47:DF K "_law_marked" aZ)(d48:DF K "_law_held" oW){f49:Addr}{od49 an49:Option Addr}{sl49:Array (Option Value)}{oc49 kV49 dc49 pm49 cd49 ct49:Value}(a49:Q6 K mainGlobals "law"=some (some (.ref f49)))(l49:K.lookup f49=some ⟨oc49,od49,.func (V9 "law" "law" (X4 s_law) (W6 s_law) (C3 s_law) .none kV49 dc49 pm49 an49 cd49 ct49),sl49⟩)(c49:b8 K cd49 "law"=true)(k49:X3 K (.ref f49)=true)(aC:Q6 K mainGlobals "Order"=some (some (.ref C)))(pgC:nA K C Str.empty=true)(hdC:PySem.W.hasDictIn K C=true)(poC:PySem.W.plainOver K C=true)(saC:R4 K (.ref C) "__setattr__"=some (some (.builtin "object.__setattr__")))(mkC:PySem.W.makesIn K C=true)(kcC:X3 K (.ref C)=true)(nC_figures:R4 K (.ref C) "figures"=some none)(nC_behind:R4 K (.ref C) "behind"=some none)(nC_jobs:R4 K (.ref C) "jobs"=some none)(nC_letter_line:R4 K (.ref C) "letter_line"=some none)(nC_mark_line:R4 K (.ref C) "mark_line"=some none)(nC_made:R4 K (.ref C) "made"=some none)(z_any:Q6 K mainGlobals "any"=some none)(z_bool:Q6 K mainGlobals "bool"=some none)(z_dict:Q6 K mainGlobals "dict"=some none)(z_enumerate:Q6 K mainGlobals "enumerate"=some none)(z_int:Q6 K mainGlobals "int"=some none)(z_isinstance:Q6 K mainGlobals "isinstance"=some none)(z_len:Q6 K mainGlobals "len"=some none)(z_list:Q6 K mainGlobals "list"=some none)(z_min:Q6 K mainGlobals "min"=some none)(z_range:Q6 K mainGlobals "range"=some none)(z_str:Q6 K mainGlobals "str"=some none)(z_tuple:Q6 K mainGlobals "tuple"=some none)(z_zip:Q6 K mainGlobals "zip"=some none){a_JOBS:Addr}{ep_JOBS:Nat}{h_JOBS_0:Int}{t_JOBS_0 u_JOBS_0:Tok}{h_JOBS_1:Int}{t_JOBS_1 u_JOBS_1:Tok}{h_JOBS_2:Int}{t_JOBS_2 u_JOBS_2:Tok}{h_JOBS_3:Int}{t_JOBS_3 u_JOBS_3:Tok}{h_JOBS_4:Int}{t_JOBS_4 u_JOBS_4:Tok}(y_JOBS:Q6 K mainGlobals "JOBS"=some (some (.ref a_JOBS)))(d_JOBS:K.lookup a_JOBS=some { cls:=.type "dict",dict:=none,data:=.dict #[⟨h_JOBS_0,.str "row" t_JOBS_0,.str "letter" u_JOBS_0⟩,⟨h_JOBS_1,.str "marks" t_JOBS_1,.str "mark" u_JOBS_1⟩,⟨h_JOBS_2,.str "great" t_JOBS_2,.str "great" u_JOBS_2⟩,⟨h_JOBS_3,.str "as" t_JOBS_3,.str "as" u_JOBS_3⟩,⟨h_JOBS_4,.str "over" t_JOBS_4,.str "over" u_JOBS_4⟩] ep_JOBS,slots:=#[] })(s_JOBS:(a_JOBS==sysModules)=false)(e_JOBS_0:h_JOBS_0=keyH w (Sum.inr ("row" : Str)))(e_JOBS_1:h_JOBS_1=keyH w (Sum.inr ("marks" : Str)))(e_JOBS_2:h_JOBS_2=keyH w (Sum.inr 'e'))(e_JOBS_3:h_JOBS_3=keyH w (Sum.inr ("as" : Str)))(e_JOBS_4:h_JOBS_4=keyH w (Sum.inr ("over" : Str))){a_AGAIN:Addr}{n_AGAIN:Nat}{od_AGAIN:Option Addr}{sl_AGAIN:Array (Option Value)}{t_AGAIN_0:Tok}{t_AGAIN_1:Tok}{t_AGAIN_2:Tok}(y_AGAIN:Q6 K mainGlobals "AGAIN"=some (some (.ref a_AGAIN)))(d_AGAIN:K.lookup a_AGAIN=some ⟨.type "tuple",od_AGAIN,.seq #[.str "letter" t_AGAIN_0,.str "mark" t_AGAIN_1,.str "over" t_AGAIN_2] n_AGAIN,sl_AGAIN⟩){tMARK tLETTER tFIGURES:Tok}(y_MARK:Q6 K mainGlobals "MARK"=some (some (.int 0 tMARK)))(y_LETTER:Q6 K mainGlobals "LETTER"=some (some (.int 2 tLETTER)))(y_FIGURES:Q6 K mainGlobals "FIGURES"=some (some (.int 1 tFIGURES)))
  : ∃ fd:FuncData,(∀ (s:Shared) (v:Value),BindsTo s fd ⟨[v],[]⟩ [("_law_script",v)])/\∀ base:Heap,K.In base->base.Ns mainGlobals mg->FnOk l.prog w K mg base E6 9 fa fd ["_law_script"] (spLaw K):=by
 have e:=dC.symm.trans (o5 X G a49);cases e;have T:Txt l.prog w K mg C:=⟨⟨pgC,hdC,poC,saC⟩,nC_figures,nC_behind,nC_jobs,nC_letter_line,nC_mark_line,nC_made,j5 X G z_any,j5 X G z_bool,j5 X G z_dict,j5 X G z_enumerate,j5 X G z_int,j5 X G z_isinstance,j5 X G z_len,j5 X G z_list,j5 X G z_min,j5 X G z_range,j5 X G z_str,j5 X G z_tuple,j5 X G z_zip,⟨_,o5 X G y_MARK⟩,⟨_,o5 X G y_LETTER⟩,⟨_,o5 X G y_FIGURES⟩,⟨_,o5 X G y_JOBS,aou d_JOBS s_JOBS (.cons ⟨jT _ _,e_JOBS_0,⟨_,rfl⟩⟩ ( .cons ⟨jT _ _,e_JOBS_1,⟨_,rfl⟩⟩ ( .cons ⟨jT _ _,e_JOBS_2,⟨_,rfl⟩⟩ ( .cons ⟨jT _ _,e_JOBS_3,⟨_,rfl⟩⟩ ( .cons ⟨jT _ _,e_JOBS_4,⟨_,rfl⟩⟩ ( .nil)))))) 'd'⟩,⟨_,o5 X G y_AGAIN,fun H=>.inr ⟨_,_,_,d_AGAIN,rfl,rfl,(by show 3<=sizeLine;decide),.cons ⟨_,rfl⟩ ( .cons ⟨_,rfl⟩ ( .cons ⟨_,rfl⟩ ( .nil)))⟩⟩⟩
 have F14:=aR (st:=eK) l14 c14;have F15:=aR (st:=gU) l15 c15;have F16:=aR (st:=gW) l16 c16;have F17:=aR (st:=eL) l17 c17;have F20:=aR (st:=s_cut) l20 c20;have F21:=aR (st:=gY) l21 c21;have F22:=aR (st:=eM) l22 c22;have F29:=aR (st:=Z2) l29 c29;have F49:=aR (st:=s_law) l49 c49;refine ⟨V9 "law" "law" (X4 s_law) (W6 s_law) (C3 s_law) .none kV49 dc49 pm49 an49 cd49 ct49,fun s v=>.of_eq rfl,fun base hb hn=>?_⟩;have G_told:=d0.go X G hb fun F=>ao0 F T
 have G_followers:=d1.go X G hb fun F=>ahd F T G_told
 have G_count_ahead:=d2.go X G hb fun F=>afg F T
 have G_lined_up:=d3.go X G hb fun F=>ahV F T G_followers G_count_ahead
 have G_is_figure:=d4.go X G hb fun F=>ahf F T
 have G_has_rule:=d5.go X G hb fun F=>ahY F T
 have G_pieces_told:=d6.go X G hb fun F=>afi F T
 have G_is_clash:=d7.go X G hb fun F=>ah0 F T G_is_figure
 have G_jobs_of:=d8.go X G hb fun F=>ajz F T G_has_rule G_pieces_told G_is_clash
 have G_misused:=d9.go X G hb fun F=>ajA F T
 have G_check_letters:=d10.go X G hb fun F=>aej F T G_misused
 have G_line_of:=d11.go X G hb fun F=>ajC F T G_lined_up
 have G_forms_of:=d12.go X G hb fun F=>ah1 F T
 have G_steps_of:=d13.go X G hb fun F=>ah2 F T G_forms_of
 have G_Order___init__:KO l.prog w K mg base 5 C "Order" ["self", "rules"] (yP C):=⟨_,_,aed F14 T G_has_rule G_jobs_of G_check_letters G_line_of G_steps_of,⟨mkC,a14,i14,kcC⟩,o5 X G aC,.all (len2 fun _ _=>rfl)⟩
 have G_Order_letters:MO l.prog w K mg base 1 C "letters" ["self"] (akS C):=⟨_,_,ael F15 T,T.cl,⟨a15,i15,k15⟩,.all (len1 fun _=>rfl)⟩
 have G_Order_marks:MO l.prog w K mg base 1 C "marks" ["self"] (aiF C):=⟨_,_,afk F16 T,T.cl,⟨a16,i16,k16⟩,.all (len1 fun _=>rfl)⟩
 have G_Order_job:MO l.prog w K mg base 1 C "job" ["self", "piece"] (ang C):=⟨_,_,ahi F17 T,T.cl,⟨a17,i17,k17⟩,.all (len2 fun _ _=>rfl)⟩
 have G_figures_at:=d18.go X G hb fun F=>agg F T G_is_figure
 have G_part_at:=d19.go X G hb fun F=>ajD F T G_is_figure G_figures_at
 have G_cut:FO l.prog w K mg base 4 "cut" ["known", "text", "figures"] [.bl false] (tT K):=⟨_,_,ann F20 T G_part_at,o5 X G a20,k20,[.bool false],(fun s us L1 hl=>by obtain ⟨u1,u2,rfl⟩:=arB hl;exact PySem.W.binds_K L1 rfl dl20 rfl rfl rfl),.cons rfl .nil⟩
 have G3_cut:FO l.prog w K mg base 4 "cut" ["known", "text", "figures"] [] (tT K):=⟨_,_,ann F20 T G_part_at,o5 X G a20,k20,[],(fun s us L1 hl=>by obtain ⟨u1,u2,u3,rfl⟩:=amE hl;exact PySem.W.binds_K L1 rfl dl20 rfl rfl rfl),.nil⟩
 have G_Order_known:MO l.prog w K mg base 1 C "known" ["self"] (yX C):=⟨_,_,afm F21 T,T.cl,⟨a21,i21,k21⟩,.all (len1 fun _=>rfl)⟩
 have G_Order_steps:MO l.prog w K mg base 1 C "steps" ["self", "piece"] (tU C):=⟨_,_,afo F22 T,T.cl,⟨a22,i22,k22⟩,.all (len2 fun _ _=>rfl)⟩
 have G_parts_of:=d23.go X G hb fun F=>ah4 F T G3_cut G_Order_known
 have G_steps_by:=d24.go X G hb fun F=>ah6 F T G_is_figure G_Order_steps
 have G_add_mark:=d25.go X G hb fun F=>ah8 F T
 have G_add_part:=d26.go X G hb fun F=>ah9 F T G_steps_by G_add_mark
 have G_units:=d27.go X G hb fun F=>amO F T G_parts_of G_add_part
 have G_looks:=d28.go X G hb fun F=>amP F T G_units
 have G_compare:FO l.prog w K mg base 8 "compare" ["order", "one", "other", "strength"] [.int 4] (kZ C):=⟨_,_,afP F29 T G_looks,o5 X G a29,k29,[.int 4 _],(fun s us L1 hl=>by obtain ⟨u1,u2,u3,rfl⟩:=ale hl;exact PySem.W.binds_K L1 rfl dl29 rfl rfl rfl),.cons ⟨_,rfl⟩ .nil⟩
 have G3_compare:FO l.prog w K mg base 8 "compare" ["order", "one", "other", "strength"] [] (kZ C):=⟨_,_,afP F29 T G_looks,o5 X G a29,k29,[],(fun s us L1 hl=>by obtain ⟨u1,u2,u3,u4,rfl⟩:=aoY hl;exact PySem.W.binds_K L1 rfl dl29 rfl rfl rfl),.nil⟩
 have G_l_cell_at:=d30.go X G hb fun F=>ahk F T
 have G_l_sign:=d31.go X G hb fun F=>alr F T G_l_cell_at
 have G_l_letters:=d32.go X G hb fun F=>ahl F T G_l_cell_at G_l_sign
 have G_l_part:=d33.go X G hb fun F=>alt F T
 have G_l_two:=d34.go X G hb fun F=>amR F T G_l_sign
 have G_l_others:=d35.go X G hb fun F=>aib F T G_l_cell_at G_l_sign G_l_part G_l_two
 have G_l_rules:=d36.go X G hb fun F=>ajE F T G_l_cell_at G_l_letters G_l_two G_l_others
 have G_l_row_of:=d37.go X G hb fun F=>aic F T
 have G_l_forms:=d38.go X G hb fun F=>ajF F T
 have G_l_makes:=d39.go X G hb fun F=>ajG F T G_l_row_of G_l_forms
 have G_l_parts:=d40.go X G hb fun F=>ajH F T
 have G_l_units:=d41.go X G hb fun F=>ajI F T G_l_parts
 have G_l_pieces:=d42.go X G hb fun F=>aid F T
 have G_l_bare:=d43.go X G hb fun F=>alv F T
 have G_l_changed:=d44.go X G hb fun F=>ahm F T G_l_bare
 have G_l_put:=d45.go X G hb fun F=>amT F T
 have G_l_compare:=d46.go X G hb fun F=>ahn F T G_l_put
 have G_l_marked:=d47.go X G hb fun F=>aie F T G_l_row_of
 have G_l_held:=d48.go X G hb fun F=>aly F T
 exact arG F49 T G_Order___init__ G_compare G3_compare G_l_cell_at G_l_rules G_l_makes G_l_units G_l_pieces G_l_changed G_l_compare G_l_marked G_l_held
theorem walk{l:PySem.W.OpenLaw}{q:Program}{XP:(Str->Option Value)->Heap->Prop}{YP:World->Heap->Prop}{d:DefRec}{K:Params->PySem.W.Frag}(hn:l.most=some 63)(bF:d.params.defaults=[])(hY:∀ (w:World) (h:Heap),YP w h->(K w.params).In h)(F:∀ (w:World) (mg:Str->Option Value) (fa:Addr) (h:Heap),(K w.params).In h->h.Ns mainGlobals mg->mg d.name=some (.ref fa)->
   ∃ fd:FuncData,(∀ (s:Shared) (u:Value),BindsTo s fd ⟨[u],[]⟩ [("_law_script",u)])/\∀ base:Heap,(K w.params).In base->base.Ns mainGlobals mg->FnOk l.prog w (K w.params) mg base E6 9 fa fd ["_law_script"] (spLaw (K w.params))) :
  PySem.W.WalkO q loose XP YP l.row.toRowW d [] (fun f vs=>PySem.call f vs):=
 L2.walk_of (n:=63) (k:=9) (x:="_law_script") (CX:=fun _=>E6) (sp:=fun w=>spLaw (K w.params)) hn 'h' bF ⟨rfl,by decide,by decide,rfl⟩ hY F (fun _ _ a ns hl _ hS=>⟨a,ns,rfl,hS,hl,fun _=>rfl⟩) fun _ _ _ _ _ z=>z
end K41
open PySem PySem.W PyProof.Rows
set_option maxRecDepth 100000 in
set_option maxHeartbeats 0 in
theorem PySem.Challenge.cw_sortlore_k41_compared_holds : PySem.Challenge.rw_sortlore_k41_compared.Holds := by
 w_on;o_law;k_head;(case hw=>w_witness2)
 k_fill
 refine K41.walk (l:=PySem.Challenge.rw_sortlore_k41_compared) rfl rfl (fun w h zy=>PySem.W.kIn_of zy) ?F
 case F=>
  intro w mg fa h KX G pV
  refine' K41.all_mk KX G pV ?d0 ?d1 ?d2 ?d3 ?d4 ?d5 ?d6 ?d7 ?d8 ?d9 ?d10 ?d11 ?d12 ?d13 ?a14 ?i14 ?l14 ?c14 ?k14 ?a15 ?i15 ?l15 ?c15 ?k15 ?a16 ?i16 ?l16 ?c16 ?k16 ?a17 ?i17 ?l17 ?c17 ?k17 ?d18 ?d19 ?dl20 ?a20 ?l20 ?c20 ?k20 ?a21 ?i21 ?l21 ?c21 ?k21 ?a22 ?i22 ?l22 ?c22 ?k22 ?d23 ?d24 ?d25 ?d26 ?d27 ?d28 ?dl29 ?a29 ?l29 ?c29 ?k29 ?d30 ?d31 ?d32 ?d33 ?d34 ?d35 ?d36 ?d37 ?d38 ?d39 ?d40 ?d41 ?d42 ?d43 ?d44 ?d45 ?d46 ?d47 ?d48 ?a49 ?l49 ?c49 ?k49 ?aC ?pgC ?hdC ?poC ?saC ?mkC ?kcC ?nC_figures ?nC_behind ?nC_jobs ?nC_letter_line ?nC_mark_line ?nC_made ?z_any ?z_bool ?z_dict ?z_enumerate ?z_int ?z_isinstance ?z_len ?z_list ?z_min ?z_range ?z_str ?z_tuple ?z_zip ?y_JOBS ?d_JOBS ?s_JOBS ?e_JOBS_0 ?e_JOBS_1 ?e_JOBS_2 ?e_JOBS_3 ?e_JOBS_4 ?y_AGAIN ?d_AGAIN ?y_MARK ?y_LETTER ?y_FIGURES
  any_goals (refine' K41.df_mk ?da ?dl ?dc ?dk;(case da=>k_is);(case dl=>k_is);(case dc=>k_is);(case dk=>k_is))
  (case aC=>k_is)
  (case a14=>k_is)
  (case i14=>k_is)
  (case l14=>k_is)
  (case c14=>k_is)
  (case k14=>k_is)
  (case a15=>k_is)
  (case i15=>k_is)
  (case l15=>k_is)
  (case c15=>k_is)
  (case k15=>k_is)
  (case a16=>k_is)
  (case i16=>k_is)
  (case l16=>k_is)
  (case c16=>k_is)
  (case k16=>k_is)
  (case a17=>k_is)
  (case i17=>k_is)
  (case l17=>k_is)
  (case c17=>k_is)
  (case k17=>k_is)
  (case a20=>k_is)
  (case l20=>k_is)
  (case c20=>k_is)
  (case k20=>k_is)
  (case a21=>k_is)
  (case i21=>k_is)
  (case l21=>k_is)
  (case c21=>k_is)
  (case k21=>k_is)
  (case a22=>k_is)
  (case i22=>k_is)
  (case l22=>k_is)
  (case c22=>k_is)
  (case k22=>k_is)
  (case a29=>k_is)
  (case l29=>k_is)
  (case c29=>k_is)
  (case k29=>k_is)
  (case a49=>k_is)
  (case l49=>k_is)
  (case c49=>k_is)
  (case k49=>k_is)
  (case pgC=>k_is)
  (case hdC=>k_is)
  (case poC=>k_is)
  (case saC=>k_is)
  (case mkC=>k_is)
  (case kcC=>k_is)
  (case nC_figures=>k_is)
  (case nC_behind=>k_is)
  (case nC_jobs=>k_is)
  (case nC_letter_line=>k_is)
  (case nC_mark_line=>k_is)
  (case nC_made=>k_is)
  (case z_any=>k_is)
  (case z_bool=>k_is)
  (case z_dict=>k_is)
  (case z_enumerate=>k_is)
  (case z_int=>k_is)
  (case z_isinstance=>k_is)
  (case z_len=>k_is)
  (case z_list=>k_is)
  (case z_min=>k_is)
  (case z_range=>k_is)
  (case z_str=>k_is)
  (case z_tuple=>k_is)
  (case z_zip=>k_is)
  (case y_JOBS=>k_is)
  (case d_JOBS=>k_is)
  (case s_JOBS=>rfl)
  (case e_JOBS_0=>rfl)
  (case e_JOBS_1=>rfl)
  (case e_JOBS_2=>rfl)
  (case e_JOBS_3=>rfl)
  (case e_JOBS_4=>rfl)
  (case y_AGAIN=>k_is)
  (case d_AGAIN=>k_is)
  (case y_MARK=>k_is)
  (case y_LETTER=>k_is)
  (case y_FIGURES=>k_is)
  (case dl20=>k_is)
  (case dl29=>k_is)
