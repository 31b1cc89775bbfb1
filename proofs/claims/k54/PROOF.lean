import PyProof.Rows.All
import Wide.All
import OpenK.AllK
import Wide.FinOn
import Lean
import PyProof.EqAt
import PyProof.EqKinds
import PyProof.TupleCall
import KE.KLam
import KE.KNestM
import KE.KRevIter
import KE.KRevSl
import KE.KSortTup
import PySem.Challenge.RW_sortlore_k54_begins_in_one_stretch
set_option compiler.extract_closed false
open List renaming length_map → A4, length_append → C8, getElem?_eq_some_iff → F6, mem_singleton → D1, getElem?_eq_getElem → G0, mem_append → D4, map_append → D6, size_toArray → E7, mem_of_getElem? → K4, mem_append_right → M0, length_cons → G6, mem_cons_of_mem → M3, mem_cons → E4, mem_cons_self → L5, mem_map → E5, take_length → K9, mem_append_left → N6, length_take → L0, getD_eq_getElem?_getD → V1, map_cons → K5, getElem?_map → O1, length_singleton → R3, append_nil → N3, mem_iff_getElem → X7, cons_lt_cons_iff → Z3, nodup_iff_pairwise_ne → p8, append_assoc → W8, nodup_cons → V2, flatMap_append → Z4, take_append_drop → j9, mem_filter → W0, take_of_length_le → p9, nodup_append → Z5, replicate → W1, filter_cons_of_neg → aA, not_mem_nil → Z6, take_add_one → g6, range → P1, pairwise_iff_getElem → bO, flatMap_cons → g7, mem_flatMap → g8, length_eq_zero_iff → bP, filter_cons_of_pos → bQ, filter_append → q0, idxOf_lt_length_iff → dR, length_nil → k4, length_drop → q9, foldl_append → aB, drop_eq_getElem_cons → gG, find?_cons → r8, mem_range → s0, map_map → g9, filterMap_cons → dS, getElem?_append_right → kG, countP_cons → bR, any_cons → t7, length → i0, nil_append → bS, take_succ_cons → gH, replicate_succ → gI, map_take → aD, map_congr_left → gJ, cons_append → dU, cons → X8, take_zero → bT, drop_of_length_le → kH, drop_eq_nil_of_le → kI, mem_filterMap → gL, getElem_idxOf → gM, getElem?_eq_none → kJ, length_range → gN, flatten_cons → gO, getElem?_eq_none_iff → oC, getElem?_append_left → oE, getElem_mem → gP, filter_cons → gQ, lookup → aE, length_erase_of_mem → oF, filter_eq_nil_iff → oG, length_filter_le → oH, mem_of_mem_take → oI
open Nat renaming le_refl → B5, lt_of_lt_of_le → O2, zero_le → F7, ne_of_lt → I0, le_trans → K6, lt_or_ge → V3, lt_irrefl → k5, ne_of_gt → i3, le_add_right → bU, lt_trichotomy → gR, min_eq_left → gS, le_of_lt → dW
open PySem.F renaming plainAttrs_list → O3, type_list_append → R8, slot_list_append → R9, plainAttrs_dict → gT, slot_dict_get → gU, type_list_extend → kK, slot_list_extend → kL, entry_dict_get → oJ
open Bool renaming false_ne_true → L3, and_eq_true → Z7, false_xor → aF, false_eq_true → kM, not_eq_true → kN
open PySem.W renaming findIn → M9, nsIn → O4, keepIn → Q4, fnOf → P3, codeIn → T0, mg_none_of → X9, kia_one → k6, emptyDict → aG, mg_of → i4, isFn → i5, instObj → bV, plainGet → gW, hasDictIn → kO
open Array renaming length_toList → t8, getD_eq_getD_getElem? → dX, getElem?_toList → oM
open PySem.NumText renaming digitsVal → kP
open Int renaming natCast_nonneg → dY, emod_lt_of_pos → gX, emod_nonneg → gY, le_refl → bW
open Option renaming map_eq_some_iff → kQ
open PySem.PyData renaming eqv → k7
set_option Elab.async false
set_option linter.all false
set_option maxRecDepth 100000
noncomputable section
set_option genInjectivity false in
set_option genSizeOf false in
structure PySem.W.Fast where (tw2476212177815143061 tw955503380247715098 tw5638543589357941353 tw85075510578410518 tw2494201582721552882 tw2979649134200701192 tw5294352040569172174 tw3580321053565079771 tw585822056591564098 tw8670246665646180253 tw12755238674913479598 tw2260266615707377257 tw18071588852266033523 tw13121219594028609942 tw8898681434523653571 tw970982367989126765 tw10730909431167743702 tw7763367314594818276 tw12112075813193555804 tw15683602920252033437 tw14946386137197651743 tw16533688175644087899 tw15290594543278936546 tw12638812843982397040 tw1173350131906931936 tw11550649214251174218 tw1494622413187252395 tw7498008829243704057 tw14009114665159145604 tw6882060842602031443 tw6195483618092139293 tw12080060192675838727 tw7996228251029396072 tw3052893993246440086 tw15823505746278900765 tw3238158032072036826 tw16186505271743141791 tw7613574963901041293 tw5804124463700029288
tw10201735522966754862 tw15088195525087739399 tw11761156521742851458 tw404247220015904915 tw1336893144756098027 tw10601649889879954269 tw10669497739844330394 tw9748859528675435738 tw15296959071733119160 tw13863875442061587554 tw2778770820970669699 tw14904790865828469981 tw16152583673492556591 tw10012306117120588019 tw2313688795047066978 tw6645494560212225126 tw1566111476137865591 tw8499717701861822256 tw5277009637195152122 tw10531444899384670773 tw18310834133548488020 tw1959940119442864733 tw8540406312296933446 tw13145017566537333674 tw4902592650391150987 tw16380036311296463241 tw11849632070441511434 tw9380347791901333112 tw10152389130601017413 tw455482048682847682 tw16724326113373491666 tw2049369556628562086 tw163186638608086697 tw4087813406016424464 tw1573504459445239214 tw9634027941925341539 tw12593033192578801370 tw16328058304891008779 tw4757791731262328787 tw4829898671695428557
tw18218777329664646323 tw14089023862257802494 tw184937150214739485 tw1206006050305839427 tw755213452882545124 tw14241603237203928152 tw6513597052116005067 tw15714882574547847545 tw9426047512827892678 tw448189683723457264 tw18216955384777867907 tw3537237236904423206 tw8357533637250140491 tw5163020143220205016 tw7251413548366556116 tw13395574267976755428 tw13525754391958749731 tw5647354316241694257 tw5265030051784525934 tw4938675562342193233 tw3185691791971253033 tw16536294837443498150 tw17116507751247858382 tw17867955282547622398 tw17619221308680917962 tw12043780637441320158 tw13872301807295141963 tw18060641492313670331 tw10647852182737947358 tw1030495789266068931 tw5425893783524677252 tw4472797804352812056 tw2881835207937928979 tw2808744819133659567 tw16226703353902550216 tw2498571715752316883 tw7643980881356793678 tw9077557552812383194 tw10400718024566957709 tw168189695598270984
tw10111668321120950895 tw9101600747861337340 tw12726235998037482363 tw2245813015202012613 tw17115554957158717279 tw649433473769637641 tw13986732835017361492 tw6570189535525627053 tw10453825697692768496 tw8092895355403629621 tw5674330878500678641 tw6153390459330719997 tw15059620884400712775 tw5484386049783326374 tw10516547350613677589 tw11778988682050723767 tw6268075827126487060 tw10412856260911964720 tw11952818509388044340 tw939198250500762471 tw7073725844638066135 tw10459364761964628266 tw8559610796949268396 tw7025226555749197207 tw5544363644480392826 tw14699720068482318861 tw9647124742586000513 tw2173542561959328472 tw13330874784468515416 tw4220235345643525317 tw10154999942875433590 tw8470291097451765777 tw6234280903292920205 tw4623740421884649374 tw5733326561036960821 tw9334331568834326286 tw11243729700883440503 tw10735100921668935091 tw16043090530948168823 tw13207102563229644833
tw11699293438094497753 tw13242565804435950136 tw9309448546708703920 tw3832045203988941176 tw17212397121183987109 tw643408289756576498 tw3888542460688816547 tw9917924133517066102 tw9810817855851663839 tw1978335585735831609 tw14350098516499218125 tw14903214933142064756 tw15740873537352609964 tw4158617733255961477 tw13626353000446909563 tw5570998277863233453 tw2321050741586685129 tw3162302933635804284 tw16003773929468325667 tw17118095463084052380 tw11374107565197143778 tw8299441998481731276 tw4763417066082546071 tw8355623210108942833 tw3920795547650424009 tw11445080952235163654 tw3742266686287809702 tw12717666738277893176 tw7218400395559167986 tw4898779147752217585 tw756413122665794960 tw10681407840202682193 tw3719430074541674136 tw17960598655859107335 tw11437386011428466219 tw8872476018456504907 tw12326551648020600660 tw241276556870003114 tw15143757177833476681 tw8160695883327446873
tw13199924123535675298 tw18385772177733895690 tw1758855893672147258 tw16309510981622346260 tw14704646384833001643 tw17791026444204185276 tw7743115131928846592 tw13047147713530996138 tw13051421967288299168 tw9470646597296222808 tw1462336350893215950 tw2147784007444879115 tw4275147494120187901 tw15863183297247671735 tw11350928212547211691 tw388862336603538532 tw4867565902639709144 tw11027393970445672331 tw1152953198820420672 tw10831170121006127052 tw10446014731945428188 tw2182406386541609515 tw2137665610886509104 tw15347083770420631849 tw10371024605835140636 tw4759832978656513674 tw15774338699802130850 tw5394097739674007030 tw7641039421991744812 tw616570059310776378 tw5733684044544104777 tw10188637833686391802 tw1577701519289619321 tw9676638794874008587 tw12588368789018137633 tw16892164174545826429 tw10118038520162408602 tw15732238843699843910 tw12229934674983771159 tw16633957867438472157
tw13413427623755617458 tw14290249398552394109 tw7518518386548444098 tw16536721105022326582 tw14686436509465562664 tw9169544430258421535 tw15333923702683957941 tw8303028606545133850 tw15847669883360931915 tw13711243762952930305 tw13705596258169203989 tw16447308577754336276 tw4629385458538346028 tw4794764652326565970 tw10836706982822012860 tw3815902132245248465 tw12470886536624089830 tw6380118610074148503 tw15267028938672528336 tw871287624816308232 tw13022712052457687710 tw11853367494681822122 tw8986891253606469443 tw4621055768535345835 tw10006093214574828971 tw87390168388909937 tw14560891493036547957 tw10366560878737808565 tw764239797116208203 tw5719222909486851935 tw1498474032584897829 tw2167862588934178262 tw2120488211831044344 tw14691580158545834026 tw15793696006159487650 tw75207018396897858 tw16875701670626833437 tw11779503084072156754 tw7913903914762371421 tw5815584658653230945
tw16329682322461428754 tw833642288999170388 tw217772172172832019 tw11761386506181549600 tw9456622667520218886 tw3932289541656304023 tw18287094850623069401 tw5007918374898227170 tw8258036327106283672 tw11024378919282779031 tw4118879141398527737 tw10600246254845298111 tw10319632400949092950 tw9405228335440645270 tw14745973495445766491 tw270979756469486122 tw1525646699133650089 tw7784566517368508296 tw7840980028571347421 tw8131521122314715674 tw3218617184180744114 tw6925851315804641303 tw15068822747545443785 tw2726354674264882738 tw18162148232875837170 tw3537609216910660253 tw17101830266036328400 tw18193306963742454545 tw6560267639338658009 tw3296122938828787715 tw14833417593962007739 tw7578761660714385754 tw15673169083938817419 tw8504952888862165728 tw15452241463351685490 tw12406487702424235655 tw11681711531643010421 tw9155487729125687778 tw15053543474135843726 tw2150796454787587776
tw6424327745388667437 tw15255731824262869019 tw13874244219607856824 tw789791399096801747 tw13747741986811110421 tw11446823280283270634 tw8269893156870497450 tw17811179030094401187 tw13973305007225288258 tw12220736739474156956 tw17724800644127058359 tw9019369243366699177 tw11984996349759978620 tw12809789822217153098 tw5487288060145328191 tw8466169076423566785 tw713365924504383861 tw15392925621376342574 tw11476334175509300926 tw15837563805328163259 tw14733627214372493607 tw2710773933267049023 tw17446109785061061421 tw17026111252275425304 tw15876952211751921821 tw8044921608862164222 tw6486323365299225231 tw16836641044524023484 tw11389802312656563426 tw17994553696213338135 tw12395523761326858341 tw7003320243848132061 tw1699499731078284207 tw1757718796490974610 tw6333089855610148182 tw13836020680723710388 tw14361109486753313828 tw2423758735310977001 tw7049547139662738483 tw18442313587543024749
tw11484097496999512055 tw10400682611572827318 tw4019828525057482995 tw9060307072427180139 tw12250681551363517724 tw2482971225231039256 tw16433938294741418641 tw9816857612433805028 tw2004079982155928755 tw6193975064052072661 tw534293437399037035 tw14211535351953095475 tw6933988569417478326 tw14505787479101035002 tw3912534747422999342 tw2000910158484360235 tw8296891201736248243 tw15252261830076564579 tw6113078206017983003 tw9740383833952001492 tw15372612939434902976 tw14058722606249137259 tw13034750960070956110 tw17455772920737625881 tw7806412487120269206 tw6804308937489697758 tw17939627208914958436 tw1758819275192142980 tw5777466115187795332 tw10240614247628044509 tw17614852729251304875 tw5419241331925807111 tw10241924937739120879 tw1769381326355612203 tw9932638879762463311 tw1242364170327924457 tw13266919333308112438 tw110022291147022848 tw12997723661544251264 tw17181565697041856308
tw3290989753537518994 tw16856667755351484530 tw11579027960207248868 tw351561067493229549 tw3508193614388507931 tw378432390864022756 tw11065316033662980968 tw379249107111347068 tw1546308084257097144 tw10946403242734273431 tw2187348036507735414 tw2169256016680839780 tw17024982283521413915 tw15930751166079673210 tw10952944449108169871 tw3841901976858814197 tw14276829139870965918 tw17450784313564004891 tw17568164550143626680 tw3948554940702735181 tw16437322149105770576 tw7927722263300817765 tw4547937794392096321 tw6878916526418070598 tw12285943705273391814 tw82361857307488678 tw17599746676506669534 tw15957555203667008446 tw1734541688367493563 tw2366394720664111658 tw13913742476762125697 tw11666139364935831851 tw17599740120163603939 tw12322094855166438440 tw5849053179642278095 tw2995718726881572453 tw3591868928864289692 tw2470172182840855590 tw7046320274344538940 tw8744888326260972555
tw5311046817648032933 tw1293017733554280072 tw15903123397105192842 tw8998527858361693571 tw15839643435239936601 tw2407365415263073334 tw10338672122941410194 tw3220220801599020726 tw16799556106876196934 tw14532503812207080660 tw15735334387703049728 tw3922093429814100058 tw2930802658492356692 tw6409529297781040134 tw18245990957012810787 tw10138975976751943350 tw1027770024547479226 tw17688218999612911393 tw4491731838151446056 tw15914096573220979387 tw1735945914332121110 tw10972178444233389107 tw16986059011271475474 tw7103798631141690594 tw9846519576593056992 tw3942093294977590664 tw3459313233058951647 tw10893979059804485782 tw5025645430467253986 tw306315596684159173 tw12734261484067632045 tw7043650591451955703 tw12802409714880055283 tw7594836306206175950 tw6905517620416142275 tw5104196450458255240 tw9967264169980806348 tw10052794972142077716 tw7075497413896280917 tw14916997795746915890
tw7190900639665504476 tw773090994771432959 tw11062574640806278149 tw14822291069059957588 tw14545382751890975149 tw2946139948306476719 tw15472279685958325245 tw12804031266348141219 tw8910408821756802686 tw6141776997769645015 tw3971186579440461779 tw13214108655756907593 tw5121623098965162818 tw16218902197643341133 tw15090311052231733924 tw12864030937359639725 tw9388649414929808993 tw10374154306653353815 tw17803295292683812064 tw3074628617031026140 tw11290716045677899113 tw15642978226834772999 tw7960810882973175971 tw5313218690278114275 tw3991021036979741032 tw8301435579607063458 tw10228702653171432718 tw17607978551160955552 tw2247248285363992086 tw8664758476873591840 tw16620987742783404748 tw2153199252199181139 tw5278078186620197194 tw10913821990196205511 tw1619703912485040242 tw1489284906780719388 tw1314387676832592809 tw10629164132174944645 tw15810661395083206600 tw15022225868315120042
tw17202325346696687247 tw134470860048751841 tw11114458225553715763 tw16374210111571650207 tw16334452853231089796 tw8532965263684995662 tw14965518716116098176 tw14093919814299130628 tw17673059213616086999 tw3595342405489503909 tw10291490654030691424 tw4373569161926531265 tw3085961975108443110 tw4406787470480648233 tw7754398751453114349 tw15572497458209506288 tw13615192232462892564 tw7788137596106500300 tw6218799890072072654 tw13836526636319047695 tw10626228317767513593 tw13383258694020308571 tw13936037731157046921 tw2951575568730349416 tw15089462435096417614 tw9960271598745847286 tw474998083707192322 tw11652384270825166428 tw13841981838296761924 tw5376470553634936342 tw12243389071054984030 tw5533135676911617332 tw180285779158416396 tw10660527091009345058 tw15955395968785231844 tw5024464937631960855 tw3072099200928341583 tw6776761264336489402 tw17731014008922315824 tw4566889162101987485
tw5379840475030323853 tw3680815815291131172 tw13264591757460925690 tw8390694299187942001 tw15645465862467225283 tw1437463843277532960 tw11835239779668132439 tw3495419644752999263 tw11450982960653916500 tw4470765758366180439 tw11693213584664111805 tw9972687607510780843 tw3549951049626436966 tw15874054932450110580 tw333539508387031316 tw17951554617612600666 tw16323895714703501798 tw6178242554017715580 tw7219437721808446204 tw10357560961442184272 tw15024897272875089595 tw15215136400773782613 tw5632080286660648400:Nat)
set_option maxRecDepth 100000
namespace L2
open PySem PySem.Spec PyProof.Rows
noncomputable abbrev C1:=Sum Int Str
noncomputable def keyIs:C1->Value->Bool
 | .inl k,v=>Value.isInt k v
 | .inr x,v=>Value.isStrOf x v
noncomputable def keyH (w:World):C1->Int
 | .inl k=>hashInt k
 | .inr x=>hashStr w x
theorem i6:∀ {k:C1} {v:Value},keyIs k v=true->(∃ i t,k=Sum.inl i/\v=Value.int i t)\/(∃ x t,k=Sum.inr x/\v=Value.str x t)
 | .inl i,v,h=>by
  obtain ⟨t,e⟩:=Value.isInt_shape (k:=i) (v:=v) h;exact .inl ⟨i,t,rfl,e⟩
 | .inr x,v,h=>by
  obtain ⟨t,e⟩:=Value.isStrOf_shape (x:=x) (v:=v) h;exact .inr ⟨x,t,rfl,e⟩
theorem ai4(i:Int)(t:Tok):keyIs (.inl i) (.int i t)=true:=by simp [keyIs,Value.isInt]
theorem gZ(x:Str)(t:Tok):keyIs (.inr x) (.str x t)=true:=by simp [keyIs,Value.isStrOf]
theorem aow(a b:Int):decide ((Sum.inl a:C1)=Sum.inl b)=(a==b):=by
 by_cases e:a=b
 .subst e;simp
 .have h:¬ (Sum.inl a:C1)=Sum.inl b:=fun q=>e (Sum.inl.inj q)
  rw [decide_eq_false h];exact (beq_eq_false_iff_ne.mpr e).symm
theorem aox(a b:Str):decide ((Sum.inr a:C1)=Sum.inr b)=decide (a=b):=by
 by_cases e:a=b
 .subst e;simp
 .have h:¬ (Sum.inr a:C1)=Sum.inr b:=fun q=>e (Sum.inr.inj q)
  rw [decide_eq_false h,decide_eq_false e]
theorem aoy(a:Int)(b:Str):decide ((Sum.inl a:C1)=Sum.inr b)=false:=decide_eq_false (fun q=>nomatch q)
theorem aoz(a:Str)(b:Int):decide ((Sum.inr a:C1)=Sum.inl b)=false:=decide_eq_false (fun q=>nomatch q)
noncomputable def M7 (prog:Program) (w:World):PySem.KeyKind prog w C1 where
 is:=keyIs
 hash:=keyH w
 inj:=fun v a b ha hb=>by
  rcases i6 ha with ⟨i,t,rfl,rfl⟩ | ⟨x,t,rfl,rfl⟩
  .rcases i6 hb with ⟨j,u,rfl,e⟩ | ⟨y,u,rfl,e⟩
   .injection e with e1 _;rw [e1]
   .exact nomatch e
  .rcases i6 hb with ⟨j,u,rfl,e⟩ | ⟨y,u,rfl,e⟩
   .exact nomatch e
   .injection e with e1 _;rw [e1]
 byValue:=fun k v h=>by
  rcases i6 h with ⟨i,t,rfl,rfl⟩ | ⟨x,t,rfl,rfl⟩ <;> rfl
 pyHash:=fun hv h=>by
  rcases i6 hv with ⟨i,t,rfl,rfl⟩ | ⟨x,t,rfl,rfl⟩
  .exact wpAny_pyHash_int h
  .exact wpAny_pyHash_str h
 eqBool:=fun hu hv h=>by
  rcases i6 hu with ⟨i,t,rfl,rfl⟩ | ⟨x,t,rfl,rfl⟩
  .rcases i6 hv with ⟨j,u,rfl,rfl⟩ | ⟨y,u,rfl,rfl⟩
   .rw [aow] at h;exact wpAny_eqBool_int h
   .rw [aoy] at h;exact SeqAt.EqAt.int_str i t y u _ _ _ _ h
  .rcases i6 hv with ⟨j,u,rfl,rfl⟩ | ⟨y,u,rfl,rfl⟩
   .rw [aoz] at h;exact SeqAt.EqAt.str_int x t j u _ _ _ _ h
   .rw [aox] at h;exact wpAny_eqBool_str h
 «strs»:=fun k x t v h=>by
  rcases i6 h with ⟨i,u,rfl,e⟩ | ⟨y,u,rfl,e⟩
  .exact nomatch e
  .injection e with e1 _
   subst e1
   cases v <;> rfl
theorem agX(prog:Program)(w:World)(i:Int)(t:Tok):(M7 prog w).is (.inl i) (.int i t)=true:=ai4 i t
theorem agY(prog:Program)(w:World)(x:Str)(t:Tok):(M7 prog w).is (.inr x) (.str x t)=true:=gZ x t
end L2
namespace L2
open PySem PySem.Spec PyProof.Rows
inductive V where
 | non | bl (b:Bool) | int (i:Int) | str (x:Str) | byt (b:Array UInt8) | flt (b:UInt64) | ref (a:Addr) | ty (n:String)
 deriving DecidableEq
noncomputable def RelV:V->Value->Prop
 | .non,u=>u=Value.none
 | .bl b,u=>u=Value.bool b
 | .int i,u=>∃ t,u=Value.int i t
 | .str x,u=>∃ t,u=Value.str x t
 | .byt b,u=>∃ t,u=Value.bytes b t
 | .flt b,u=>∃ t,u=Value.float b t
 | .ref a,u=>u=Value.ref a
 | .ty n,u=>u=Value.type n
noncomputable abbrev Vals:List V->List Value->Prop:=Paired RelV
theorem Vals.length{xs:List V}{us:List Value}(r:Vals xs us):xs.length=us.length:=Paired.length r
theorem Vals.get:∀ {xs:List V} {us:List Value} {i:Nat} {x:V},Vals xs us->xs[i]?=some x->∃ u,us[i]?=some u/\RelV x u
 | _,_,_,_,.nil,e=>by simp at e
 | _,_,0,_,.cons r _,e=>by simp at e;subst e;exact ⟨_,rfl,r⟩
 | _,_,i+1,x,.cons _ t,e=>by
  obtain ⟨u,h1,h2⟩:=Vals.get (i:=i) (x:=x) t (by simpa using e);exact ⟨u,by simpa using h1,h2⟩
theorem Vals.set{x:V}{u:Value}(r:RelV x u):∀ {xs:List V} {us:List Value} (i:Nat),Vals xs us->Vals (xs.set i x) (us.set i u)
 | _,_,_,.nil=>.nil
 | _,_,0,.cons _ t=>.cons r t
 | _,_,i+1,.cons q t=>.cons q (Vals.set r i t)
theorem Vals.append:∀ {xs ys:List V} {us ws:List Value},Vals xs us->Vals ys ws->Vals (xs++ys) (us++ws)
 | _,_,_,_,.nil,s=>s
 | _,_,_,_,.cons r t,s=>.cons r (Vals.append t s)
theorem Vals.take:∀ {xs:List V} {us:List Value} (n:Nat),Vals xs us->Vals (xs.take n) (us.take n)
 | _,_,0,_=>.nil
 | _,_,_+1,.nil=>.nil
 | _,_,n+1,.cons r t=>.cons r (Vals.take n t)
theorem Vals.drop:∀ {xs:List V} {us:List Value} (n:Nat),Vals xs us->Vals (xs.drop n) (us.drop n)
 | _,_,0,r=>r
 | _,_,_+1,.nil=>.nil
 | _,_,n+1,.cons _ t=>Vals.drop n t
theorem Vals.none_of:∀ {xs:List V} {us:List Value} {i:Nat},Vals xs us->xs[i]?=none->us[i]?=none:=fun {xs us i} r e=>by
 have h1:=r.length;have h2:xs.length<=i:=oC.mp e;exact oC.mpr (by lia)
noncomputable def RelO:Option V->Option Value->Prop
 | some v,some u=>RelV v u
 | none,none=>True
 | _,_=>False
noncomputable def KV {κ:Type} : List (κ×V)->List (κ×Value)->Prop:=Paired fun (p:κ×V) (q:κ×Value)=>p.1=q.1/\RelV p.2 q.2
noncomputable def kV:C1->V
 | .inl i=>.int i
 | .inr x=>.str x
inductive HO where
 | lst (xs:List V)
 | tup (xs:List V)
 | dK (kvs:List (C1×V)) | dT (kvs:List (List C1×V))
 | set (S:Int->Bool) (n:Nat)
 | ins (C dx:Addr) (fs:List (Str×V))
 | own (x:Addr)
 | xd (fs:List (Str×V))
 | met (f x:Addr)
 | rng (lo hi:Int)
 | frz (o:Obj) (u:HO)
 | tbl (ps:Array Value)
 | ext (φ:Heap->Prop)
noncomputable abbrev Hp:=Addr->Option HO
noncomputable def A0 (H:Hp) (a:Addr) (o:HO):Hp:=fun b=>if b=a then some o else H b
theorem A2{H:Hp}{a:Addr}{o:HO} : A0 H a o a=some o:=by unfold A0;rw [if_pos rfl]
theorem A3{H:Hp}{a b:Addr}{o:HO}(h:b≠a):A0 H a o b=H b:=by unfold A0;rw [if_neg h]
theorem ne_of{H:Hp}{a b:Addr}{o u:HO}(h:H a=some o)(h':H b=some u)(d:o≠u):a≠b:=by
 intro e;subst e;rw [h] at h';exact d (Option.some.inj h')
theorem aH{H:Hp}{a b:Addr}{o:HO}(h:H a=some o)(h':H b=none):a≠b:=by
 intro e;subst e;rw [h] at h';cases h'
section
variable (P:Program) (w:World)
noncomputable def ObjOk (H:Hp) (h:Heap) (a:Addr):HO->Prop
 | .lst xs=>xs.length<=sizeLine/\∃ (its:List Value) (n:Nat),Vals xs its/\h.get? a=some { cls:=.type "list",data:=.seq its.toArray n }
 | .tup xs=>xs.length<=sizeLine/\∃ its:List Value,Vals xs its/\IsTup h a its.toArray
 | .dK kvs=>kvs.length<=sizeLine/\(a==sysModules)=false/\∃ vs,KV kvs vs/\h.DictOf (M7 P w) a vs
 | .dT kvs=>kvs.length<=sizeLine/\(a==sysModules)=false/\∃ xs:List (List C1×Addr×Value),
   Paired (fun (p:List C1×V) (q:List C1×Addr×Value)=>p.1=q.1/\H q.2.1=some (.tup (p.1.map kV))/\RelV p.2 q.2.2) kvs xs/\
   ∃ o es ep,h.get? a=some o/\o.ExactDict/\o.data=.dict es ep/\es.toList=xs.map (entryOfKey (tupleKind (M7 P w)))/\(xs.map (·.1)).Nodup
 | .set S n=>h.SetOf (intKind P w) a S n
 | .ins C dx fs=>H dx=some (.own a)/\fs.length<=1000/\dx≠a/\h.get? a=some (bV C dx)/\
   ∃ mA,h.Ns1 dx mA/\(∀ f,RelO (fs.lookup f) (mA f))/\PySem.Within mA (fs.map (·.1))
 | .own _=>∃ o,h.get? a=some o
 | .xd fs=>∃ mA,h.Ns1 a mA/\∀ f,RelO (fs.lookup f) (mA f)
 | .rng lo hi=>∃ t u v,h.get? a=some { cls:=.type "range",data:=.fields #[.int lo t,.int hi u,.int 1 v] }
 | .frz o u=>h.get? a=some o/\ObjOk H h a u
 | .tbl ps=>h.get? a=some { cls:=.none,data:=.fields ps }
 | .met f x=>h.get? a=some (PySem.W.methodObj (.ref f) (.ref x))
 | .ext φ=>φ h/\(∃ o,h.get? a=some o)/\∀ h1 h2:Heap,φ h1->(∀ o,h1.get? a=some o->h2.get? a=some o)->φ h2
noncomputable def L6 (H:Hp) (h:Heap):Prop:=∀ a o,H a=some o->ObjOk P w H h a o
end
section
variable {P:Program} {w:World} {H H':Hp} {h h':Heap} {a:Addr} {o:HO}
theorem ObjOk.lt(x:ObjOk P w H h a o):a<h.objs.size:=by
 cases o with
 | lst xs=>obtain ⟨_,_,_,_,e⟩:=x;exact Heap.lt_size e
 | tup xs=>obtain ⟨_,_,_,p⟩:=x;exact p.lt
 | dK kvs=>obtain ⟨_,_,_,_,o,_,_,e,_⟩:=x;exact Heap.lt_size e
 | dT kvs=>obtain ⟨_,_,_,_,o,_,_,e,_⟩:=x;exact Heap.lt_size e
 | set S n=>obtain ⟨o,_,_,_,e,_⟩:=x;exact Heap.lt_size e
 | ins C dx fs=>obtain ⟨_,_,_,e,_⟩:=x;exact Heap.lt_size e
 | own y=>obtain ⟨_,e⟩:=x;exact Heap.lt_size e
 | xd fs=>obtain ⟨_,⟨_,_,_,e,_⟩,_⟩:=x;exact Heap.lt_size e
 | rng lo hi=>obtain ⟨_,_,_,e⟩:=x;exact Heap.lt_size e
 | frz ob u=>obtain ⟨e,_⟩:=x;exact Heap.lt_size e
 | tbl ps=>exact Heap.lt_size (show h.get? a=some _ from x)
 | met f y=>exact Heap.lt_size (show h.get? a=some _ from x)
 | ext φ=>obtain ⟨_,⟨_,e⟩,_⟩:=x;exact Heap.lt_size e
theorem T3{α β:Type}{F G:α->β->Prop} : ∀ {l₁:List α} {l₂:List β},Paired F l₁ l₂->(∀ a b,F a b->G a b)->Paired G l₁ l₂
 | _,_,.nil,_=>.nil
 | _,_,.cons r t,f=>.cons (f _ _ r) (T3 t f)
theorem ObjOk.stay(x:ObjOk P w H h a o)(k:∀ b u,(b=a\/H b=some (.own a))->h.get? b=some u->h'.get? b=some u)(ho:∀ b,H b=some (.own a)->H' b=some (.own a))(ht:∀ b xs,H b=some (.tup xs)->H' b=some (.tup xs)):ObjOk P w H' h' a o:=by
 induction o with
 | lst xs=>obtain ⟨z,its,n,r,e⟩:=x;exact ⟨z,its,n,r,k _ _ (.inl rfl) e⟩
 | tup xs=>obtain ⟨z,its,r,ob,e,c⟩:=x;exact ⟨z,its,r,ob,k _ _ (.inl rfl) e,c⟩
 | dK kvs=>obtain ⟨z,y,vs,r,ob,es,ep,e,c⟩:=x;exact ⟨z,y,vs,r,ob,es,ep,k _ _ (.inl rfl) e,c⟩
 | dT kvs=>
  obtain ⟨z,y,xs,r,ob,es,ep,e,c⟩:=x;exact ⟨z,y,xs,T3 r fun p q z=>⟨z.1,ht _ _ z.2.1,z.2.2⟩,ob,es,ep,k _ _ (.inl rfl) e,c⟩
 | set S n=>obtain ⟨ob,es,ep,t,e,c⟩:=x;exact ⟨ob,es,ep,t,k _ _ (.inl rfl) e,c⟩
 | ins C dx fs=>
  obtain ⟨d,z,ne,e,mA,⟨od,es,ep,e2,c⟩,r⟩:=x;exact ⟨ho _ d,z,ne,k _ _ (.inl rfl) e,mA,⟨od,es,ep,k _ _ (.inr d) e2,c⟩,r⟩
 | own y=>obtain ⟨ob,e⟩:=x;exact ⟨ob,k _ _ (.inl rfl) e⟩
 | xd fs=>obtain ⟨mA,⟨od,es,ep,e,c⟩,r⟩:=x;exact ⟨mA,⟨od,es,ep,k _ _ (.inl rfl) e,c⟩,r⟩
 | rng lo hi=>obtain ⟨t,u,v,e⟩:=x;exact ⟨t,u,v,k _ _ (.inl rfl) e⟩
 | frz ob u ih=>obtain ⟨e,q⟩:=x;exact ⟨k _ _ (.inl rfl) e,ih q⟩
 | tbl ps=>
  have e:h.get? a=some { cls:=.none,data:=.fields ps }:=x;show h'.get? a=some { cls:=.none,data:=.fields ps };exact k a _ (.inl rfl) e
 | met f y=>
  have e:h.get? a=some (PySem.W.methodObj (.ref f) (.ref y)):=x;show h'.get? a=some (PySem.W.methodObj (.ref f) (.ref y));exact k a _ (.inl rfl) e
 | ext φ=>obtain ⟨p,⟨o,e⟩,st⟩:=x;exact ⟨st _ _ p fun o q=>k _ _ (.inl rfl) q,⟨o,k _ _ (.inl rfl) e⟩,st⟩
theorem L6.lt(x:L6 P w H h)(e:H a=some o):a<h.objs.size:=(x a o e).lt
theorem L6.fresh(x:L6 P w H h)(e:h.objs.size<=a):H a=none:=by
 cases q:H a with
 | none=>rfl
 | some u=>exact absurd (O2 (x.lt q) e) (k5 _)
theorem L6.kept(x:L6 P w H h)(k:∀ b u,h.get? b=some u->h'.get? b=some u):L6 P w H h':=fun a o e=>
 (x a o e).stay (fun b u _ q=>k b u q) (fun _ q=>q) fun _ _ q=>q
theorem L6.laid(x:L6 P w H h)(k:∀ b u,h.get? b=some u->h'.get? b=some u)(hp:h.objs.size<=a)(new:ObjOk P w (A0 H a o) h' a o):L6 P w (A0 H a o) h':=fun b u e=>by
 have hn:=x.fresh hp
 by_cases hb:b=a
 .subst hb;rw [A2] at e;cases e;exact new
 .rw [A3 hb] at e;exact (x b u e).stay (fun c v _ q=>k c v q) (fun c q=>by rw [A3 (aH q hn)];exact q) fun c xs q=>by rw [A3 (aH q hn)];exact q
end
noncomputable def Rd (H:Hp) (a:Addr) (u:HO):Prop:=H a=some u\/∃ o,H a=some (.frz o u)
theorem Rd.of{H:Hp}{a:Addr}{u:HO}(h:H a=some u):Rd H a u:=.inl h
theorem Rd.ok{P:Program}{w:World}{H:Hp}{h:Heap}{a:Addr}{u:HO}(r:Rd H a u)(x:L6 P w H h):ObjOk P w H h a u:=by
 rcases r with r | ⟨o,r⟩
 .exact x a u r
 .obtain ⟨_,q⟩:=x a _ r;exact q
noncomputable def kR:Option HO->Prop
 | some (.lst _)=>True
 | some (.dK _)=>True
 | some (.dT _)=>True
 | some (.set _ _)=>True
 | some (.ins _ _ _)=>True
 | some (.ext _)=>True
 | _=>False
section
variable {P:Program} {w:World} {H:Hp} {h h':Heap} {x e:Addr} {o':HO}
theorem L6.write(ok:L6 P w H h)(mu:kR (H x))(he:e=x\/H e=some (.own x))(k:∀ b u,b≠e->h.get? b=some u->h'.get? b=some u)(jJ:∃ u,h'.get? e=some u)(new:ObjOk P w (A0 H x o') h' x o'):L6 P w (A0 H x o') h':=fun b u q=>by
 have nown:∀ c y,H c=some (.own y)->c≠x:=fun c y r z=>by subst z;rw [r] at mu;exact mu
 have ntup:∀ c xs,H c=some (.tup xs)->c≠x:=fun c xs r z=>by subst z;rw [r] at mu;exact mu
 by_cases hb:b=x
 .subst hb;rw [A2] at q;cases q;exact new
 .rw [A3 hb] at q
  by_cases eY:b=e
  .have q':H b=some (.own x):=by
    rcases he with z | z
    .exact absurd (eY.trans z) hb
    .rw [eY];exact z
   rw [q] at q';cases q';obtain ⟨v,hv⟩:=jJ;exact ⟨v,by rw [eY];exact hv⟩
  .refine (ok b u q).stay (fun c v hc r=>k c v ?_ r) (fun c r=>by rw [A3 (nown c b r)];exact r) fun c xs r=>by rw [A3 (ntup c xs r)];exact r
   rcases hc with rfl | hc
   .exact eY
   .rintro rfl
    rcases he with z | z
    .exact nown c b hc z
    .rw [hc] at z;cases z;exact hb rfl
end
structure Un(fs ex:List Addr)(H H':Hp)(h h':Heap):Prop where
 keep:∀ b o,h.get? b=some o->H b=none->b∉fs->b∉ex->h'.get? b=some o
 slot:∀ b o,h.get? b=some o->H b=none->b∈fs->b∉ex->∃ sl,h'.get? b=some { o with slots:=sl }
 free:∀ b o,h.get? b=some o->H b=none->b∉ex->H' b=none
 there:∀ b o,h.get? b=some o->b∉ex->∃ o',h'.get? b=some o'
 tups:∀ b xs,H b=some (.tup xs)->H' b=some (.tup xs)
 frzs:∀ b o u,H b=some (.frz o u)->H' b=some (.frz o u)
 tbls:∀ b ps,H b=some (.tbl ps)->∃ more,H' b=some (.tbl (ps++more))
section
variable {fs fs' ex ex':List Addr} {H H1 H2:Hp} {h h1 h2 h':Heap} {a x e:Addr} {o:HO}
theorem Un.any(u:Un fs ex H H1 h h1){b:Addr}{ob:Obj}(q:h.get? b=some ob)(n:H b=none)(hx:b∉ex):∃ sl,h1.get? b=some { ob with slots:=sl }:=by
 by_cases hb:b∈fs
 .exact u.slot b ob q n hb hx
 .exact ⟨ob.slots,u.keep b ob q n hb hx⟩
theorem Un.kept(k:∀ b u,h.get? b=some u->h'.get? b=some u):Un fs ex H H h h':=
 ⟨fun b ob q _ _ _=>k b ob q,fun b ob q _ _ _=>⟨ob.slots,k b ob q⟩,fun _ _ _ n _=>n,fun b ob q _=>⟨ob,k b ob q⟩,fun _ _ q=>q,fun _ _ _ q=>q,fun _ ps q=>⟨#[],by rw [q];simp⟩⟩
theorem Un.refl:Un fs ex H H h h:=Un.kept fun _ _ q=>q
theorem Un.laid(k:∀ b u,h.get? b=some u->h'.get? b=some u)(hp:h.objs.size<=a)(hn:H a=none):Un fs ex H (A0 H a o) h h' where
 keep:=fun b u q _ _ _=>k b u q
 slot:=fun b u q _ _ _=>⟨u.slots,k b u q⟩
 free:=fun b u q n _=>by rw [A3 (I0 (O2 (Heap.lt_size q) hp))];exact n
 there:=fun b u q _=>⟨u,k b u q⟩
 tups:=fun b xs q=>by rw [A3 (aH q hn)];exact q
 frzs:=fun b u xs q=>by rw [A3 (aH q hn)];exact q
 tbls:=fun b ps q=>⟨#[],by rw [A3 (aH q hn),q];simp⟩
theorem Un.write(mu:kR (H x))(he:e=x\/H e=some (.own x))(k:∀ b u,b≠e->h.get? b=some u->h'.get? b=some u)(jJ:∃ u,h'.get? e=some u):Un fs ex H (A0 H x o) h h':=by
 have hx:∀ b,H b=none->b≠x:=fun b n z=>by subst z;rw [n] at mu;exact mu
 have hb:∀ b,H b=none->b≠e:=fun b n z=>by
  subst z
  rcases he with r | r
  .exact hx b n r
  .rw [n] at r;cases r
 have hm:∀ b u,H b=some u->¬ kR (some u)->b≠x:=fun b u q nm z=>by subst z;rw [q] at mu;exact nm mu
 refine ⟨fun b u q n _ _=>k b u (hb b n) q,fun b u q n _ _=>⟨u.slots,k b u (hb b n) q⟩,fun b u q n _=>by rw [A3 (hx b n)];exact n,fun b u q _=>?_,
  fun b xs q=>by rw [A3 (hm b _ q fun z=>z)];exact q,fun b u xs q=>by rw [A3 (hm b _ q fun z=>z)];exact q,fun b ps q=>⟨#[],by rw [A3 (hm b _ q fun z=>z),q];simp⟩⟩
 by_cases eY:b=e
 .subst eY;exact jJ
 .exact ⟨u,k b u eY q⟩
end
noncomputable def oN (h:Heap) (H:Hp):List Addr:=(P1 h.objs.size).filter fun a=>(H a).isSome
noncomputable def hidT (h:Heap) (H:Hp):Heap:=PySem.W.hideAll h (oN h H)
theorem ai5(h:Heap)(H:Hp):(hidT h H).objs.size=h.objs.size:=PySem.W.hideAll_size _ _
theorem akQ{h:Heap}{H:Hp}{b:Addr}{o:Obj}(e:h.get? b=some o)(n:H b=none):(hidT h H).get? b=some o:=
 PySem.W.hideAll_get _ e fun hm=>by
  have q:(H b).isSome=true:=(W0.mp hm).2;rw [n] at q;simp at q
theorem ai6{h:Heap}{H:Hp}{b:Addr}{o:Obj}(e:(hidT h H).get? b=some o):h.get? b=some o/\H b=none:=by
 have e':h.get? b=some o:=PySem.W.of_hideAll (oN h H) e;refine ⟨e',?_⟩
 cases q:H b with
 | none=>rfl
 | some x=>
  have hm:b∈oN h H:=W0.mpr ⟨s0.mpr (Heap.lt_size e'),by simp [q]⟩;have z:(hidT h H).get? b=none:=PySem.W.hideAll_none (oN h H) hm;rw [z] at e;cases e
noncomputable def amS (g h:Heap) (L:Addr):List (Addr×Obj):=(P1 h.objs.size).filterMap fun a=>if a=L\/(g.get? a).isSome=true then none else (h.get? a).map fun o=>(a,o)
noncomputable def rest (g h:Heap) (L d:Addr):List (Addr×Obj):=(amS g h L).filter fun p=>decide (p.1≠d)
end L2
namespace L2
open PySem PySem.Spec PyProof.Rows
structure Mod(K:PySem.W.Frag)(mg:Str->Option Value)(base:Heap):Prop where
 kin:K.In base
 glob:base.Ns mainGlobals mg
 blt:∃ mb,base.Ns builtinsNs mb/\∀ x:Str,x≠"__name__"->mb x=bootBuiltins x
 nolimit:base.NoLimit
structure Cx where
 prog:Program
 w:World
 K:PySem.W.Frag
 mg:Str->Option Value
 base:Heap
 A:Around
 N:List Str
 s₀:Shared
 H₀:Hp
 env:Env
 outer:List Env
 stack:List Env
 ex:List Addr
 fn:Str->Bool
 calm:Bool
 pn:List (Addr×Obj)
 xe:Value->Shared->Prop
noncomputable def k8 (l:List Env):List Addr:=l.filterMap (·.frame)
noncomputable abbrev Cx.fs (X:Cx):List Addr:=k8 X.outer
noncomputable def kT (sc:Scope) (x:Str):Prop:=sc.names.lookup x=some .local\/sc.names.lookup x=some .cell\/sc.names.lookup x=some .free
noncomputable def k9 (sc:Scope) (x:Str):Prop:=sc.names.lookup x=some .local\/sc.names.lookup x=some .cell
noncomputable def Look (env:Env) (h:Heap) (m:Str->Option Value) (x:Str) (u:Value):Prop:=
 (env.kindOf x=some .local/\m x=some u)\/((env.kindOf x=some .cell\/env.kindOf x=some .free)/\∃ c,env.cells.lookup x=some c/\h.IsCell c (some u))
structure Cx.Ok(X:Cx):Prop where
 mod:Mod X.K X.mg X.base
 kind:X.env.scope.kind=.function
 glob:X.env.globals=mainGlobals
 blt:X.env.builtins=builtinsNs
 above:X.s₀.heap.objs.size<=X.env.locals
 inj:∀ x y c,X.env.cells.lookup x=some c->X.env.cells.lookup y=some c->x=y
 has:∀ x,(X.env.kindOf x=some .cell\/X.env.kindOf x=some .free)->∃ c,X.env.cells.lookup x=some c
 cab:∀ x c,X.fn x=true->X.env.cells.lookup x=some c->X.s₀.heap.objs.size<=c
 hd:X.calm=true->X.A.handled=none
 frames:X.A.frames=some X.stack
 stk:X.stack=X.outer\/(X.stack=X.env::X.outer/\X.env.frame=some X.env.locals)
 exf:∀ b∈X.ex,b≠X.env.locals/\∀ x c,X.env.cells.lookup x=some c->c≠b
 bs:∀ b o,X.base.get? b=some o->X.s₀.heap.get? b=some o/\X.H₀ b=none
 bsz:X.base.objs.size<=X.s₀.heap.objs.size
 noex:∀ b o,X.base.get? b=some o->b∉X.ex
 exfs:∀ b∈X.ex,b∉X.fs
 funs:X.s₀.heap.FunFrames X.base X.outer
 frf:∀ b∈X.fs,X.H₀ b=none
structure Inv(X:Cx)(pins:List (Addr×Obj))(O:List (Option V))(H:Hp)(s:Shared):Prop where
 ok:X.Ok
 os:s.os=X.s₀.os
 bare:AllBare s.gens
 base:Un X.fs X.ex X.H₀ H X.s₀.heap s.heap
 loc:∃ m,s.heap.Ns X.env.locals m/\∀ (i:Nat) (x:Str) (v:V),X.N[i]?=some x->O[i]?=some (some v)->kT X.env.scope x->∃ u,RelV v u/\Look X.env s.heap m x u
 cell:∀ x c,X.env.cells.lookup x=some c->∃ v,s.heap.IsCell c v
 free:H X.env.locals=none
 freeC:∀ x c,X.env.cells.lookup x=some c->H c=none
 pin:∀ p∈X.pn++pins,s.heap.get? p.1=some p.2/\H p.1=none/\p.1≠X.env.locals/\p.1∉X.fs/\∀ v,p.2.data≠.cell v
 hok:L6 X.prog X.w H s.heap
 len:O.length=X.N.length
section
variable {X:Cx} {pins:List (Addr×Obj)} {O:List (Option V)} {H H':Hp} {s:Shared} {h':Heap}
theorem Cx.Ok.nofr(ok:X.Ok){b:Addr}{o:Obj}(e:X.base.get? b=some o):b∉X.fs:=fun hb=>by
 have:=(ok.funs.mem hb).1
 rw [e] at this;cases this
theorem Inv.bs(I:Inv X pins O H s):∀ b o,X.base.get? b=some o->s.heap.get? b=some o/\H b=none:=fun b o e=>
 ⟨I.base.keep b o (I.ok.bs b o e).1 (I.ok.bs b o e).2 (I.ok.nofr e) (I.ok.noex b o e),I.base.free b o (I.ok.bs b o e).1 (I.ok.bs b o e).2 (I.ok.noex b o e)⟩
theorem Inv.bk(I:Inv X pins O H s):∀ b o,X.base.get? b=some o->s.heap.get? b=some o:=fun b o e=>(I.bs b o e).1
theorem Inv.mod(I:Inv X pins O H s):Mod X.K X.mg X.base:=I.ok.mod
theorem Inv.kIn(I:Inv X pins O H s):X.K.In s.heap:=I.ok.mod.kin.keeps I.bk
theorem Inv.nolimit(I:Inv X pins O H s):s.heap.NoLimit:=I.ok.mod.nolimit.keeps I.bk
theorem Inv.lt(I:Inv X pins O H s):X.env.locals<s.heap.objs.size:=let ⟨_,hn,_⟩:=I.loc;hn.lt
theorem Inv.sz(I:Inv X pins O H s):X.s₀.heap.objs.size<=s.heap.objs.size:=K6 I.ok.above (dW I.lt)
theorem Inv.nofs(I:Inv X pins O H s){a:Addr}(h:s.heap.objs.size<=a):a∉X.fs:=fun hb=>by
 obtain ⟨_,o,ho,_⟩:=I.ok.funs.mem hb;exact absurd (O2 (Heap.lt_size ho) (K6 I.sz h)) (k5 _)
theorem Inv.cne(I:Inv X pins O H s):∀ x c,X.env.cells.lookup x=some c->c≠X.env.locals:=fun x c e z=>by
 obtain ⟨v,o,ho,hd⟩:=I.cell x c e;obtain ⟨m,⟨o',es,ep,f6,xX,_⟩,_⟩:=I.loc;rw [z,f6] at ho;cases ho;rw [xX] at hd;cases hd
theorem Inv.funs(I:Inv X pins O H s):s.heap.FunFrames X.base X.outer:=by
 have all:∀ (l:List Env),(∀ b∈k8 l,b∈X.fs)->X.s₀.heap.FunFrames X.base l->s.heap.FunFrames X.base l:=by
  intro l
  induction l with
  | nil=>intro _ _;trivial
  | cons env r ih=>
   intro hs hl;obtain ⟨hk,⟨L,o,hf,hn,ho,hd⟩,hr⟩:=hl;have hL:L∈X.fs:=hs L (by unfold k8;rw [dS,hf];exact L5);obtain ⟨sl,e⟩:=I.base.slot L o ho (I.ok.frf L hL) hL fun z=>I.ok.exfs L z hL
   exact ⟨hk,⟨L,_,hf,hn,e,hd⟩,ih (fun b hb=>hs b (by unfold k8;rw [dS,hf];exact M3 _ hb)) hr⟩
 exact all X.outer (fun _ hb=>hb) I.ok.funs
theorem Inv.stack(I:Inv X pins O H s):s.heap.FunFrames X.base X.stack:=by
 rcases I.ok.stk with e | ⟨e,hf⟩
 .rw [e];exact I.funs
 .rw [e];obtain ⟨m,hn,_⟩:=I.loc;refine .cons (by rw [I.ok.kind];decide) hf hn ?_ I.funs;exact Heap.get?_none_of_le (K6 I.ok.bsz I.ok.above)
theorem Inv.stkSub(I:Inv X pins O H s):∀ b∈k8 X.stack,b∈X.env.locals::X.fs:=fun b hb=>by
 rcases I.ok.stk with e | ⟨e,hf⟩
 .rw [e] at hb;exact M3 _ hb
 .rw [e] at hb;unfold k8 at hb;rw [dS,hf] at hb;exact hb
theorem Inv.stkFree(I:Inv X pins O H s):∀ b∈k8 X.stack,H b=none:=fun b hb=>by
 rcases E4.mp (I.stkSub b hb) with e | hb
 .rw [e];exact I.free
 .obtain ⟨_,o,ho,_⟩:=I.ok.funs.mem hb;exact I.base.free b o ho (I.ok.frf b hb) fun z=>I.ok.exfs b z hb
theorem Inv.step{g':Array GenState}{t':Nat}{d':Drawn}{ch:List Addr}(I:Inv X pins O H s)(x8:∀ b∈ch,(b∈X.ex\/X.s₀.heap.objs.size<=b)/\b≠X.env.locals/\(∀ x c,X.env.cells.lookup x=some c->c≠b)/\∀ p∈X.pn++pins,p.1≠b)(keep:∀ b o,b≠X.env.locals->b∉X.fs->b∉ch->s.heap.get? b=some o->H b=none->h'.get? b=some o)(slot:∀ b o,b≠X.env.locals->b∈X.fs->b∉ch->s.heap.get? b=some o->H b=none->∃ sl,h'.get? b=some { o with slots:=sl })(free:∀ b o,b∉ch->s.heap.get? b=some o->H b=none->H' b=none)(there:∀ b o,b∉ch->s.heap.get? b=some o->∃ o',h'.get? b=some o')(tups:∀ b xs,H b=some (.tup xs)->H' b=some (.tup xs))(frzs:∀ b o u,H b=some (.frz o u)->H' b=some (.frz o u))(tbls:∀ b ps,H b=some (.tbl ps)->∃ more,H' b=some (.tbl (ps++more)))(ns:∀ m,s.heap.Ns X.env.locals m->h'.Ns X.env.locals m)(hok:L6 X.prog X.w H' h')(hg:AllBare g') :
  Inv X pins O H' { s with heap:=h',gens:=g',drawn:=d',toks:=t' }:=by
 have neL:∀ b o,X.s₀.heap.get? b=some o->b≠X.env.locals:=fun b o e=>I0 (O2 (Heap.lt_size e) I.ok.above)
 have neC:∀ b o,X.s₀.heap.get? b=some o->b∉X.ex->b∉ch:=fun b o e hx hb=>by
  rcases (x8 b hb).1 with z | z
  .exact hx z
  .exact absurd (O2 (Heap.lt_size e) z) (k5 _)
 have cellK:∀ x c,X.env.cells.lookup x=some c->∀ v,s.heap.IsCell c v->h'.IsCell c v:=fun x c e v ⟨o,ho,hd⟩=>by
  have nch:c∉ch:=fun z=>(x8 c z).2.2.1 x c e rfl
  by_cases hc:c∈X.fs
  .obtain ⟨sl,q⟩:=slot c o (I.cne x c e) hc nch ho (I.freeC x c e);exact ⟨_,q,hd⟩
  .exact ⟨o,keep c o (I.cne x c e) hc nch ho (I.freeC x c e),hd⟩
 refine ⟨I.ok,I.os,hg,⟨fun b o e n hb hx=>?_,fun b o e n hb hx=>?_,fun b o e n hx=>?_,fun b o e hx=>?_,fun b xs e=>tups b xs (I.base.tups b xs e),fun b o xs e=>frzs b o xs (I.base.frzs b o xs e),fun b ps e=>?_⟩,?_,fun x c e=>?_,?_,fun x c e=>?_,fun p hp=>?_,hok,I.len⟩
 .exact keep b o (neL b o e) hb (neC b o e hx) (I.base.keep b o e n hb hx) (I.base.free b o e n hx)
 .obtain ⟨sl,e1⟩:=I.base.slot b o e n hb hx;obtain ⟨sl',e2⟩:=slot b _ (neL b o e) hb (neC b o e hx) e1 (I.base.free b o e n hx);exact ⟨sl',e2⟩
 .obtain ⟨o',e1⟩:=I.base.there b o e hx;exact free b o' (neC b o e hx) e1 (I.base.free b o e n hx)
 .obtain ⟨o',e1⟩:=I.base.there b o e hx;exact there b o' (neC b o e hx) e1
 .obtain ⟨m1,e1⟩:=I.base.tbls b ps e;obtain ⟨m2,e2⟩:=tbls b _ e1;exact ⟨m1++m2,by rw [e2,Array.append_assoc]⟩
 .obtain ⟨m,hn,hl⟩:=I.loc;refine ⟨m,ns m hn,fun i x v e1 e2 e3=>?_⟩;obtain ⟨u,r,l⟩:=hl i x v e1 e2 e3;refine ⟨u,r,?_⟩
  rcases l with l | ⟨k,c,e,z⟩
  .exact .inl l
  .exact .inr ⟨k,c,e,cellK x c e _ z⟩
 .obtain ⟨v,z⟩:=I.cell x c e;exact ⟨v,cellK x c e v z⟩
 .obtain ⟨m,⟨o,_,_,ho,_⟩,_⟩:=I.loc;exact free _ o (fun z=>(x8 _ z).2.1 rfl) ho I.free
 .obtain ⟨v,o,ho,hd⟩:=I.cell x c e;exact free c o (fun z=>(x8 c z).2.2.1 x c e rfl) ho (I.freeC x c e)
 .obtain ⟨e,n,ne,nf,d⟩:=I.pin p hp;have nch:p.1∉ch:=fun z=>(x8 p.1 z).2.2.2 p hp rfl
  exact ⟨keep p.1 p.2 ne nf nch e n,free p.1 p.2 nch e n,ne,nf,d⟩
theorem Inv.un{t':Nat}(I:Inv X pins O H s)(u:Un X.fs [] H H' s.heap h')(hok:L6 X.prog X.w H' h'):Inv X pins O H' { s with heap:=h',toks:=t' }:=by
 obtain ⟨m,⟨o,es,ep,ho,r⟩,_⟩:=id I.loc;obtain ⟨sl,hL⟩:=u.any ho I.free (by simp);exact I.step (g':=s.gens) (d':=s.drawn) (ch:=[]) (fun _ z=>nomatch z) (fun b o _ hb _ e n=>u.keep b o e n hb (by simp)) (fun b o _ hb _ e n=>u.slot b o e n hb (by simp)) (fun b o _ e n=>u.free b o e n (by simp)) (fun b o _ e=>u.there b o e (by simp)) u.tups u.frzs u.tbls (fun m' hm=>by
  obtain ⟨o',es',ep',f6,r'⟩:=hm;rw [ho] at f6;cases f6;exact ⟨_,es',ep',hL,r'⟩) hok I.bare
theorem Inv.call{g':Array GenState}{t':Nat}{d':Drawn}{ch:List Addr}(I:Inv X pins O H s)(u:Un (k8 X.stack) ch H H' s.heap h')(hok:L6 X.prog X.w H' h')(hg:AllBare g')(x8:∀ b∈ch,(b∈X.ex\/X.s₀.heap.objs.size<=b)/\b≠X.env.locals/\(∀ x c,X.env.cells.lookup x=some c->c≠b)/\∀ p∈X.pn++pins,p.1≠b) :
  Inv X pins O H' { s with heap:=h',gens:=g',drawn:=d',toks:=t' }:=by
 obtain ⟨m,⟨o,es,ep,ho,r⟩,_⟩:=id I.loc;obtain ⟨sl,hL⟩:=u.any ho I.free fun z=>(x8 _ z).2.1 rfl
 exact I.step (ch:=ch) x8 (fun b o hL hb hc e n=>u.keep b o e n (fun z=>(E4.mp (I.stkSub b z)).elim hL hb) hc) (fun b o _ _ hc e n=>u.any e n hc) (fun b o hc e n=>u.free b o e n hc) (fun b o hc e=>u.there b o e hc) u.tups u.frzs u.tbls (fun m' hm=>by
  obtain ⟨o',es',ep',f6,r'⟩:=hm;rw [ho] at f6;cases f6;exact ⟨_,es',ep',hL,r'⟩) hok hg
theorem Inv.turned{t':Nat}{it:Addr}(I:Inv X pins O H s)(k:∀ b o,b≠it->s.heap.get? b=some o->h'.get? b=some o)(hn:H it=none)(hL:it≠X.env.locals)(h1:it∈X.ex\/X.s₀.heap.objs.size<=it)(h2:∀ x c,X.env.cells.lookup x=some c->c≠it)(h3:∀ p∈X.pn++pins,p.1≠it):Inv X pins O H { s with heap:=h',toks:=t' }:=by
 have nit:∀ b u,H b=some u->b≠it:=fun b u e z=>by rw [z,hn] at e;cases e
 refine I.step (g':=s.gens) (d':=s.drawn) (ch:=[it]) (fun b hb=>?_) (fun b o _ _ hc e _=>k b o (fun z=>hc (by simp [z])) e) (fun b o _ _ hc e _=>⟨o.slots,k b o (fun z=>hc (by simp [z])) e⟩) (fun _ _ _ _ n=>n)
  (fun b o hc e=>⟨o,k b o (fun z=>hc (by simp [z])) e⟩) (fun _ _ e=>e) (fun _ _ _ e=>e) (fun b ps e=>⟨#[],by rw [e];simp⟩) (fun m hm=>?_) (fun b u e=>?_) I.bare
 .have e:b=it:=by simpa using hb
  subst e;exact ⟨h1,hL,h2,h3⟩
 .obtain ⟨o,es,ep,ho,r⟩:=hm;exact ⟨o,es,ep,k _ o (Ne.symm hL) ho,r⟩
 .refine (I.hok b u e).stay (fun c v hc q=>k c v ?_ q) (fun _ q=>q) fun _ _ q=>q
  rcases hc with z | z
  .rw [z];exact nit b u e
  .exact nit c _ z
theorem Inv.tok(I:Inv X pins O H s)(t:Nat):Inv X pins O H { s with toks:=t }:=I.un (h':=s.heap) (t':=t) Un.refl I.hok
theorem Inv.kept{t':Nat}(I:Inv X pins O H s)(k:∀ b u,s.heap.get? b=some u->h'.get? b=some u):Inv X pins O H { s with heap:=h',toks:=t' }:=I.un (Un.kept k) (I.hok.kept k)
theorem Inv.laid{a:Addr}{o:HO}{t':Nat}(I:Inv X pins O H s)(k:∀ b u,s.heap.get? b=some u->h'.get? b=some u)(hp:s.heap.objs.size<=a)(new:ObjOk X.prog X.w (A0 H a o) h' a o) :
  Inv X pins O (A0 H a o) { s with heap:=h',toks:=t' }:=I.un (Un.laid k hp (I.hok.fresh hp)) (I.hok.laid k hp new)
theorem Inv.write{x e:Addr}{o:HO}{t':Nat}(I:Inv X pins O H s)(mu:kR (H x))(he:e=x\/H e=some (.own x))(k:∀ b u,b≠e->s.heap.get? b=some u->h'.get? b=some u)(jJ:∃ u,h'.get? e=some u)(new:ObjOk X.prog X.w (A0 H x o) h' x o):Inv X pins O (A0 H x o) { s with heap:=h',toks:=t' }:=I.un (Un.write mu he k jJ) (I.hok.write mu he k jJ new)
theorem Inv.pins_of{pins':List (Addr×Obj)}(I:Inv X pins O H s)(h:∀ p∈pins',s.heap.get? p.1=some p.2/\H p.1=none/\p.1≠X.env.locals/\p.1∉X.fs/\∀ v,p.2.data≠.cell v):Inv X pins' O H s:=
 ⟨I.ok,I.os,I.bare,I.base,I.loc,I.cell,I.free,I.freeC,fun p hp=>(D4.mp hp).elim (fun z=>I.pin p (N6 _ z)) (h p),I.hok,I.len⟩
theorem ahJ{N:List Str}(hN:N.Nodup){i j:Nat}{x:Str}(a:N[i]?=some x)(b:N[j]?=some x):i=j:=by
 obtain ⟨h1,e1⟩:=F6.mp a;obtain ⟨h2,e2⟩:=F6.mp b;exact (List.getElem_inj hN).mp (e1.trans e2.symm)
theorem ai7{M:Model}{A:Around}{E:Value->Shared->Prop}{i:Nat}{x:Str}{v:V}{u:Value}{Q:Unit->Shared->Prop}(I:Inv X pins O H s)(hN:X.N.Nodup)(hi:X.N[i]?=some x)(hx:k9 X.env.scope x)(r:RelV v u)(h:∀ s',Inv X pins (O.set i (some v)) H s'->(∃ a,Heap.SameBut a s.heap s'.heap/\(a=X.env.locals\/X.env.cells.lookup x=some a))->Q () s')(hf:X.fn x=true\/X.env.scope.names.lookup x=some .local:=by first | exact .inl rfl | exact .inr rfl | assumption):wpAny M A (storeName X.env x u) Q E s:=by
 obtain ⟨m,hn,hl⟩:=id I.loc;have xY:(X.env.scope.kind == .class || (X.env.scope.kind == .module&&X.env.locals != X.env.globals))=false:=by rw [I.ok.kind];rfl
 have hiσ:i<O.length:=by rw [I.len];exact (F6.mp hi).1
 have cne:=I.cne;have tracked:∀ {a:Addr} {h':Heap},(∃ o,s.heap.get? a=some o/\H a=none)->Heap.SameBut a s.heap h'->L6 X.prog X.w H h':=fun {a h'} ha hs b ob e=>by
  obtain ⟨_,_,dB⟩:=ha;refine (I.hok b ob e).stay (fun c w' hc q=>(hs.2 c ?_).trans q) (fun _ q=>q) fun _ _ q=>q
  rintro rfl
  rcases hc with rfl | hc
  .rw [dB] at e;cases e
  .rw [dB] at hc;cases hc
 rcases hx with hk | hk
 .refine wpAny_storeName_local hk hn (fun h' hn' hs=>?_) xY;obtain ⟨oL,_,_,hoL,_⟩:=id hn;refine h _ ⟨I.ok,I.os,I.bare,⟨fun b o e n hb hx=>?_,fun b o e n hb hx=>?_,I.base.free,fun b o e hx=>?_,I.base.tups,I.base.frzs,I.base.tbls⟩,⟨_,hn',fun j y v' e1 e2 e3=>?_⟩,fun y c e=>?_,I.free,I.freeC,fun p hp=>?_,tracked ⟨oL,hoL,I.free⟩ hs,by simpa using I.len⟩ ⟨_,hs,.inl rfl⟩
  .exact (hs.2 b (I0 (O2 (Heap.lt_size e) I.ok.above))).trans (I.base.keep b o e n hb hx)
  .obtain ⟨sl,e1⟩:=I.base.slot b o e n hb hx;exact ⟨sl,(hs.2 b (I0 (O2 (Heap.lt_size e) I.ok.above))).trans e1⟩
  .obtain ⟨o',e1⟩:=I.base.there b o e hx;exact ⟨o',(hs.2 b (I0 (O2 (Heap.lt_size e) I.ok.above))).trans e1⟩
  .by_cases hj:j=i
   .subst hj;rw [hi] at e1;cases e1;rw [List.getElem?_set_self hiσ] at e2;cases e2;exact ⟨u,r,.inl ⟨hk,by simp⟩⟩
   .rw [List.getElem?_set_ne (Ne.symm hj)] at e2;obtain ⟨u',r',q⟩:=hl j y v' e1 e2 e3;refine ⟨u',r',?_⟩
    rcases q with ⟨k,e⟩ | ⟨k,c,e,z⟩
    .refine .inl ⟨k,?_⟩
     have:y≠x:=fun e=>hj (ahJ hN e1 (e ▸ hi))
     simp [this,e]
    .exact .inr ⟨k,c,e,z.sameBut hs (cne y c e)⟩
  .obtain ⟨w',z⟩:=I.cell y c e;exact ⟨w',z.sameBut hs (cne y c e)⟩
  .obtain ⟨e,n,ne,nf,d⟩:=I.pin p hp;exact ⟨(hs.2 p.1 ne).trans e,n,ne,nf,d⟩
 .have xZ:X.fn x=true:=by
   rcases hf with z | z
   .exact z
   .rw [z] at hk;cases hk
  obtain ⟨c,hc⟩:=I.ok.has x (.inl hk);obtain ⟨w',z⟩:=I.cell x c hc;refine wpAny_storeName_cell I.ok.kind hk hc z (fun h' R6 hs=>?_);obtain ⟨oc,yA,yB⟩:=id z;refine h { s with heap:=h' } ⟨I.ok,I.os,I.bare,⟨fun b o e n hb hx=>?_,fun b o e n hb hx=>?_,I.base.free,fun b o e hx=>?_,I.base.tups,I.base.frzs,I.base.tbls⟩,⟨m,hn.sameBut hs (Ne.symm (cne x c hc)),fun j y v' e1 e2 e3=>?_⟩,fun y c' e=>?_,I.free,I.freeC,fun p hp=>?_,tracked ⟨oc,yA,I.freeC x c hc⟩ hs,by simpa using I.len⟩ ⟨c,hs,.inr hc⟩
  .exact (hs.2 b (I0 (O2 (Heap.lt_size e) (I.ok.cab x c xZ hc)))).trans (I.base.keep b o e n hb hx)
  .obtain ⟨sl,e1⟩:=I.base.slot b o e n hb hx;exact ⟨sl,(hs.2 b (I0 (O2 (Heap.lt_size e) (I.ok.cab x c xZ hc)))).trans e1⟩
  .obtain ⟨o',e1⟩:=I.base.there b o e hx;exact ⟨o',(hs.2 b (I0 (O2 (Heap.lt_size e) (I.ok.cab x c xZ hc)))).trans e1⟩
  .by_cases hj:j=i
   .subst hj;rw [hi] at e1;cases e1;rw [List.getElem?_set_self hiσ] at e2;cases e2;exact ⟨u,r,.inr ⟨.inl hk,c,hc,R6⟩⟩
   .rw [List.getElem?_set_ne (Ne.symm hj)] at e2;obtain ⟨u',r',q⟩:=hl j y v' e1 e2 e3;refine ⟨u',r',?_⟩
    rcases q with q | ⟨k,c',e,z'⟩
    .exact .inl q
    .refine .inr ⟨k,c',e,z'.sameBut hs ?_⟩;rintro rfl;exact hj (ahJ hN e1 (I.ok.inj _ _ _ e hc ▸ hi))
  .by_cases hcc:c'=c
   .subst hcc;exact ⟨_,R6⟩
   .obtain ⟨w2,z2⟩:=I.cell y c' e;exact ⟨w2,z2.sameBut hs hcc⟩
  .obtain ⟨e,n,ne,nf,d⟩:=I.pin p hp;refine ⟨(hs.2 p.1 ?_).trans e,n,ne,nf,d⟩;intro q;rw [q,yA] at e;have q':oc=p.2:=Option.some.inj e;exact d w' (by rw [<- q'];exact yB)
theorem oO{M:Model}{A:Around}{E:Value->Shared->Prop}{i:Nat}{x:Str}{v:V}{u:Value}{Q:Unit->Shared->Prop}(I:Inv X pins O H s)(hN:X.N.Nodup)(hi:X.N[i]?=some x)(hx:k9 X.env.scope x)(r:RelV v u)(h:∀ s',Inv X pins (O.set i (some v)) H s'->Q () s')(hf:X.fn x=true\/X.env.scope.names.lookup x=some .local:=by first | exact .inl rfl | exact .inr rfl | assumption):wpAny M A (storeName X.env x u) Q E s:=
 ai7 I hN hi hx r (fun s' I' _=>h s' I') hf
theorem Inv.call'{s':Shared}{ch:List Addr}(I:Inv X pins O H s)(ho:s'.os=s.os)(u:Un (k8 X.stack) ch H H' s.heap s'.heap)(hok:L6 X.prog X.w H' s'.heap)(hg:AllBare s'.gens)(x8:∀ b∈ch,(b∈X.ex\/X.s₀.heap.objs.size<=b)/\b≠X.env.locals/\(∀ x c,X.env.cells.lookup x=some c->c≠b)/\∀ p∈X.pn++pins,p.1≠b):Inv X pins O H' s':=by
 obtain ⟨h',g',d',t',o'⟩:=s';have e:o'=s.os:=ho;subst e;exact I.call (g':=g') (t':=t') (d':=d') u hok hg x8
end
noncomputable abbrev XK:=Value->Option Addr->Hp->Prop
noncomputable abbrev St:=List (Option V)
noncomputable abbrev VK:=V->Hp->Prop
noncomputable abbrev TE:=St->Hp->VK->Prop
noncomputable abbrev TT:=St->Hp->(Bool->Hp->Prop)->Prop
noncomputable abbrev TA:=St->Hp->(List V->Hp->Prop)->Prop
structure Ends where
 nx:St->Hp->Prop
 rt:VK
 bk:St->Hp->Prop:=fun _ _=>False
 ct:St->Hp->Prop:=fun _ _=>False
noncomputable abbrev TS:=Ends->St->Hp->Prop
noncomputable def EP (X:Cx) (pins:List (Addr×Obj)) (O:St) (Q:VK) (u:Value) (s':Shared):Prop:=∃ v H',Inv X pins O H' s'/\RelV v u/\Q v H'
noncomputable def TP (X:Cx) (pins:List (Addr×Obj)) (O:St) (Q:Bool->Hp->Prop) (b:Bool) (s':Shared):Prop:=∃ H',Inv X pins O H' s'/\Q b H'
noncomputable def AP (X:Cx) (pins:List (Addr×Obj)) (O:St) (Q:List V->Hp->Prop) (us:List Value) (s':Shared):Prop:=∃ vs H',Inv X pins O H' s'/\Vals vs us/\Q vs H'
noncomputable def SP (X:Cx) (pins:List (Addr×Obj)) (D:Ends) (f:Flow) (s':Shared):Prop:=
 match f with
 | .next=>∃ σ' H',Inv X pins σ' H' s'/\D.nx σ' H'
 | .brk=>∃ σ' H',Inv X pins σ' H' s'/\D.bk σ' H'
 | .cont=>∃ σ' H',Inv X pins σ' H' s'/\D.ct σ' H'
 | .ret u=>∃ v σ' H',Inv X pins σ' H' s'/\RelV v u/\D.rt v H'
noncomputable def PE (X:Cx) (e:Expr) (t:TE):Prop:=
 ∀ (pins:List (Addr×Obj)) (s:Shared) (O:St) (H:Hp) (Q:VK),Inv X pins O H s->t O H Q->wpAny (model X.prog X.w) X.A (eval e X.env) (EP X pins O Q) X.xe s
noncomputable def PT (X:Cx) (e:Expr) (t:TT):Prop:=
 ∀ (pins:List (Addr×Obj)) (s:Shared) (O:St) (H:Hp) (Q:Bool->Hp->Prop),Inv X pins O H s->t O H Q->wpAny (model X.prog X.w) X.A (isTrue e X.env (eval e X.env)) (TP X pins O Q) X.xe s
noncomputable def PW (X:Cx) (e:Expr) (t:TT):Prop:=
 ∀ (whole:Sem Value) (pins:List (Addr×Obj)) (s:Shared) (O:St) (H:Hp) (Q:Bool->Hp->Prop),Inv X pins O H s->t O H Q->wpAny (model X.prog X.w) X.A (isTrue e X.env whole) (TP X pins O Q) X.xe s
theorem PW.pt{X:Cx}{e:Expr}{t:TT}(h:PW X e t):PT X e t:=h _
noncomputable def PA (X:Cx) (es:List Expr) (t:TA):Prop:=
 ∀ (pos:Pos) (pins:List (Addr×Obj)) (s:Shared) (O:St) (H:Hp) (Q:List V->Hp->Prop),Inv X pins O H s->t O H Q->wpAny (model X.prog X.w) X.A (spliced (backTo pos (starEach es X.env))) (AP X pins O Q) X.xe s
noncomputable def PS (X:Cx) (st:Stmt) (t:TS):Prop:=
 ∀ (pins:List (Addr×Obj)) (s:Shared) (O:St) (H:Hp) (D:Ends),Inv X pins O H s->t D O H->wpAny (model X.prog X.w) X.A (exec st X.env) (SP X pins D) X.xe s
noncomputable def W2 (X:Cx) (st:List Stmt) (t:TS):Prop:=
 ∀ (pins:List (Addr×Obj)) (s:Shared) (O:St) (H:Hp) (D:Ends),Inv X pins O H s->t D O H->wpAny (model X.prog X.w) X.A (execs st X.env) (SP X pins D) X.xe s
theorem B1{α:Type}{t:Sem α}{Q Q':α->Shared->Prop}{M:Model}{A:Around}{E:Value->Shared->Prop}{s:Shared}(h:wpAny M A t Q E s)(hQ:∀ a s,Q a s->Q' a s):wpAny M A t Q' E s:=wpAny_mono h hQ fun _ _ x=>x
end L2
namespace L2
open PySem PySem.Spec PyProof.Rows
section
variable {X:Cx}
noncomputable def tVar (i:Nat):TE:=fun O H Q=>∃ v,O[i]?=some (some v)/\Q v H
noncomputable def tC (v:V):TE:=fun _ H Q=>Q v H
theorem amm{i:Nat}{x:Str}{pos:Pos}(hN:X.N[i]?=some x)(hv:kT X.env.scope x)(hd:(x==("__debug__" : Str))=false:=by decide)(P7:(x==("__classdict__" : Str))=false:=by decide):PE X (.Name x pos) (tVar i):=by
 intro pins s O H Q I h;obtain ⟨v,e,h⟩:=h;obtain ⟨m,hn,hl⟩:=I.loc;obtain ⟨u,r,l⟩:=hl i x v hN e hv;have fin:EP X pins O Q u s:=⟨v,H,I,r,h⟩
 rcases l with ⟨hk,hm⟩ | ⟨hk,c,hc,J8⟩
 .exact wpAny_Name (wpAny_loadName_local I.ok.kind hk hn hm fin) hd
 .rcases hk with hk | hk
  .exact wpAny_Name (wpAny_loadName_cell I.ok.kind hk hc J8 fin) hd
  .exact wpAny_Name (wpAny_loadName_free I.ok.kind hk hc J8 fin P7) hd
theorem amn{i j pos} : PE X (.Constant (.int i) j pos) (tC (.int i)):=fun _ _ _ H _ I h=>wpAny_Constant_int ⟨.int i,H,I.tok _,⟨_,rfl⟩,h⟩
theorem pe_bl{b j pos} : PE X (.Constant (.bool b) j pos) (tC (.bl b)):=fun _ _ _ H _ I h=>Constant_bool ⟨.bl b,H,I,rfl,h⟩
theorem aoA{x j pos} : PE X (.Constant (.str x) j pos) (tC (.str x)):=fun _ _ _ H _ I h=>Calls.Constant_str ⟨.str x,H,I.tok _,⟨_,rfl⟩,h⟩
noncomputable def Gl (X:Cx) (x:Str):Prop:=X.env.kindOf x=some .globalImplicit
theorem sQ{E:Value->Shared->Prop}{pins:List (Addr×Obj)}{s:Shared}{O:St}{H:Hp}{x:Str}{u:Value}{pos:Pos}{Q:Value->Shared->Prop}(I:Inv X pins O H s)(hg:Gl X x)(hm:X.mg x=some u)(h:Q u s)(hd:(x==("__debug__" : Str))=false:=by decide):wpAny (model X.prog X.w) X.A (eval (.Name x pos) X.env) Q E s:=
 Calls.Name_function_global I.ok.kind hg (Calls.loadGlobal_global (by rw [I.ok.glob];exact I.mod.glob.keeps I.bk) hm h) hd
theorem bX{E:Value->Shared->Prop}{pins:List (Addr×Obj)}{s:Shared}{O:St}{H:Hp}{x:Str}{u:Value}{pos:Pos}{Q:Value->Shared->Prop}(I:Inv X pins O H s)(hg:Gl X x)(hm:X.mg x=none)(hv:bootBuiltins x=some u)(h:Q u s)(hn:x≠"__name__":=by decide)(hd:(x==("__debug__" : Str))=false:=by decide):wpAny (model X.prog X.w) X.A (eval (.Name x pos) X.env) Q E s:=by
 obtain ⟨mb,h1,h2⟩:=I.mod.blt;exact Calls.Name_function_global I.ok.kind hg (Calls.loadGlobal_builtin (by rw [I.ok.glob];exact I.mod.glob.keeps I.bk) hm (by rw [I.ok.blt];exact h1.keeps I.bk) ((h2 x hn).trans hv) h) hd
theorem ai8{x:Str}{v:V}{u:Value}{pos:Pos}(hg:Gl X x)(hm:X.mg x=some u)(r:RelV v u)(hd:(x==("__debug__" : Str))=false:=by decide):PE X (.Name x pos) (tC v):=
 fun _ _ _ H _ I h=>sQ I hg hm ⟨v,H,I,r,h⟩ hd
theorem amT{x:Str}{v:V}{u:Value}{pos:Pos}(hg:Gl X x)(hm:X.mg x=none)(hv:bootBuiltins x=some u)(r:RelV v u)(hn:x≠"__name__":=by decide)(hd:(x==("__debug__" : Str))=false:=by decide):PE X (.Name x pos) (tC v):=
 fun _ _ _ H _ I h=>bX I hg hm hv ⟨v,H,I,r,h⟩ hn hd
variable {a b:Expr} {ta tb:TE} {pos:Pos}
noncomputable def tB (t:TE):TT:=fun O H Q=>t O H fun x H1=>∃ c,x=.bl c/\Q c H1
variable {tA tB':TT} {rest:List Expr}
noncomputable def tAnd (t u:TT):TT:=fun O H Q=>t O H fun c H1=>if c=true then u O H1 Q else Q false H1
noncomputable def sR (t u:TT):TT:=fun O H Q=>t O H fun c H1=>if c=true then Q true H1 else u O H1 Q
noncomputable def tNot (t:TT):TT:=fun O H Q=>t O H fun c H1=>Q (!c) H1
theorem amU(ha:PT X a tA):PW X (.BoolOp .And [a] pos) tA:=by
 intro wh pins s O H Q I h;refine isTrue_and (B1 (ha pins s O H Q I h) fun c s1 e=>?_)
 cases c with
 | true=>exact isTrue_and_nil e
 | false=>exact e
theorem aoB(ha:PT X a tA):PW X (.BoolOp .Or [a] pos) tA:=by
 intro wh pins s O H Q I h;refine isTrue_or (B1 (ha pins s O H Q I h) fun c s1 e=>?_)
 cases c with
 | false=>exact isTrue_or_nil e
 | true=>exact e
theorem aoC(ha:PT X a tA)(hb:PW X (.BoolOp .And (b::rest) pos) tB'):PW X (.BoolOp .And (a::b::rest) pos) (tAnd tA tB'):=by
 intro wh pins s O H Q I h;refine isTrue_and (B1 (ha pins s O H _ I h) fun c s1 ⟨H1,I1,q1⟩=>?_)
 cases c with
 | true=>exact hb wh pins s1 O H1 Q I1 q1
 | false=>exact ⟨H1,I1,q1⟩
theorem pw_or(ha:PT X a tA)(hb:PW X (.BoolOp .Or (b::rest) pos) tB'):PW X (.BoolOp .Or (a::b::rest) pos) (sR tA tB'):=by
 intro wh pins s O H Q I h;refine isTrue_or (B1 (ha pins s O H _ I h) fun c s1 ⟨H1,I1,q1⟩=>?_)
 cases c with
 | true=>exact ⟨H1,I1,q1⟩
 | false=>exact hb wh pins s1 O H1 Q I1 q1
theorem aoD(ha:PT X a tA):PT X (.UnaryOp .Not a pos) (tNot tA):=by
 intro pins s O H Q I h;exact isTrue_not (ha pins s O H (fun c H1=>Q (!c) H1) I h)
noncomputable def tAndV (ta tb:TE):TE:=fun O H Q=>ta O H fun x H1=>∃ c,x=.bl c/\if c=true then tb O H1 Q else Q (.bl false) H1
noncomputable def tOrV (ta tb:TE):TE:=fun O H Q=>ta O H fun x H1=>∃ c,x=.bl c/\if c=true then Q (.bl true) H1 else tb O H1 Q
noncomputable def tNotV (ta:TE):TE:=fun O H Q=>ta O H fun x H1=>∃ c,x=.bl c/\Q (.bl (!c)) H1
theorem aoE{op}{t:TE}(h:PE X a t):PE X (.BoolOp op [a] pos) t:=fun pins s O H Q I hw=>BoolOp_one (h pins s O H Q I hw)
theorem aoF(ha:PE X a ta)(hb:PE X (.BoolOp .And (b::rest) pos) tb):PE X (.BoolOp .And (a::b::rest) pos) (tAndV ta tb):=by
 intro pins s O H Q I h;refine BoolOp_and (B1 (ha pins s O H _ I h) fun v s1 ⟨x,H1,I1,r1,q1⟩=>?_);obtain ⟨c,rfl,q1⟩:=q1
 cases r1
 refine wpAny_truthy_bool ?_
 cases c with
 | true=>exact hb pins s1 O H1 Q I1 q1
 | false=>exact ⟨.bl false,H1,I1,rfl,q1⟩
noncomputable def sS (t:TT) (ta tb:TE):TE:=fun O H Q=>t O H fun c H1=>if c=true then ta O H1 Q else tb O H1 Q
theorem akR{c:Expr}(hc:PT X c tA)(ha:PE X a ta)(hb:PE X b tb):PE X (.IfExp c a b pos) (sS tA ta tb):=by
 intro pins s O H Q I h;refine wpAny_IfExp (B1 (hc pins s O H _ I h) fun d s1 ⟨H1,I1,q1⟩=>?_)
 cases d with
 | true=>exact ha pins s1 O H1 Q I1 q1
 | false=>exact hb pins s1 O H1 Q I1 q1
end
end L2
namespace L2
open PySem PySem.Spec PyProof.Rows
noncomputable def C7 (K:PySem.W.Frag) (H:Hp) (a:Addr) (xs:List V):Prop:=
 Rd H a (.lst xs)\/
  ∃ (o:Obj) (its:Array Value) (n:Nat),K.lookup a=some o/\o.cls=.type "list"/\o.dict=none/\o.data=.seq its n/\its.size<=sizeLine/\Vals xs its.toList
noncomputable def C6 (K:PySem.W.Frag) (H:Hp) (a:Addr) (xs:List V):Prop:=
 Rd H a (.tup xs)\/
  ∃ (o:Obj) (its:Array Value) (n:Nat),K.lookup a=some o/\o.cls=.type "tuple"/\o.data=.seq its n/\its.size<=sizeLine/\Vals xs its.toList
noncomputable def absV:Value->Option V
 | .none=>some .non
 | .bool b=>some (.bl b)
 | .int i _=>some (.int i)
 | .str x _=>some (.str x)
 | .bytes b _=>some (.byt b)
 | .float b _=>some (.flt b)
 | .ref a=>some (.ref a)
 | .type n=>some (.ty n)
 | _=>none
theorem RelV.abs{x:V}{u:Value}(r:RelV x u):absV u=some x:=by
 cases x with
 | non=>cases r;rfl
 | bl _=>cases r;rfl
 | int _=>obtain ⟨t,rfl⟩:=r;rfl
 | str _=>obtain ⟨t,rfl⟩:=r;rfl
 | byt _=>obtain ⟨t,rfl⟩:=r;rfl
 | flt _=>obtain ⟨t,rfl⟩:=r;rfl
 | ref _=>cases r;rfl
 | ty _=>cases r;rfl
theorem RelV.inj{x y:V}{u:Value}(r:RelV x u)(q:RelV y u):x=y:=Option.some.inj (r.abs.symm.trans q.abs)
theorem Vals.inj:∀ {xs ys:List V} {us:List Value},Vals xs us->Vals ys us->xs=ys
 | _,_,_,.nil,.nil=>rfl
 | _,_,_,.cons r t,.cons r' t'=>by rw [r.inj r',Vals.inj t t']
section
variable {X:Cx} {pins:List (Addr×Obj)} {O:St} {H:Hp} {s:Shared} {a:Addr} {xs ys:List V}
theorem C7.of{K:PySem.W.Frag}(h:H a=some (.lst xs)):C7 K H a xs:=.inl (.inl h)
theorem C6.of{K:PySem.W.Frag}(h:H a=some (.tup xs)):C6 K H a xs:=.inl (.inl h)
theorem Inv.list(I:Inv X pins O H s)(h:C7 X.K H a xs):∃ its:List Value,Vals xs its/\PlainL s.heap a its.toArray/\xs.length<=sizeLine:=by
 rcases h with h | ⟨o,its,n,hk,hc,hd,hs,hz,r⟩
 .obtain ⟨z,its,n,r,e⟩:=h.ok I.hok;exact ⟨its,r,⟨_,n,e,rfl,rfl,rfl⟩,z⟩
 .refine ⟨its.toList,r,⟨o,n,I.kIn a o hk,hc,hd,by simpa using hs⟩,?_⟩;have e:=r.length;simp only [t8] at e;lia
theorem Inv.tuple(I:Inv X pins O H s)(h:C6 X.K H a xs):∃ its:List Value,Vals xs its/\IsTup s.heap a its.toArray/\xs.length<=sizeLine:=by
 rcases h with h | ⟨o,its,n,hk,hc,hs,hz,r⟩
 .obtain ⟨z,its,r,p⟩:=h.ok I.hok;exact ⟨its,r,p,z⟩
 .refine ⟨its.toList,r,⟨o,I.kIn a o hk,hc,n,by simpa using hs⟩,?_⟩;have e:=r.length;simp only [t8] at e;lia
theorem Inv.list_inj(I:Inv X pins O H s)(h:C7 X.K H a xs)(h':C7 X.K H a ys):xs=ys:=by
 obtain ⟨its,r,⟨o,n,e,_,_,d⟩,_⟩:=I.list h;obtain ⟨its',r',⟨o',n',e',_,_,d'⟩,_⟩:=I.list h';rw [e] at e';cases e';rw [d] at d'
 injection d' with d1 _
 have:its=its':=by simpa using congrArg Array.toList d1
 subst this;exact r.inj r'
theorem Inv.tuple_inj(I:Inv X pins O H s)(h:C6 X.K H a xs)(h':C6 X.K H a ys):xs=ys:=by
 obtain ⟨its,r,⟨o,e,_,n,d⟩,_⟩:=I.tuple h;obtain ⟨its',r',⟨o',e',_,n',d'⟩,_⟩:=I.tuple h';rw [e] at e';cases e';rw [d] at d'
 injection d' with d1 _
 have:its=its':=by simpa using congrArg Array.toList d1
 subst this;exact r.inj r'
end
noncomputable abbrev Cx.wish (X:Cx) (E:Value->Shared->Prop):Cx:={ X with xe:=E }
noncomputable abbrev Cx.nox (X:Cx):Cx:=X.wish fun _ _=>False
theorem Cx.Ok.wish{X:Cx}(ok:X.Ok)(E:Value->Shared->Prop):(X.wish E).Ok:=
 ⟨ok.mod,ok.kind,ok.glob,ok.blt,ok.above,ok.inj,ok.has,ok.cab,ok.hd,ok.frames,ok.stk,ok.exf,ok.bs,ok.bsz,ok.noex,ok.exfs,ok.funs,ok.frf⟩
theorem Cx.Ok.unwish{X:Cx}{E:Value->Shared->Prop}(ok:(X.wish E).Ok):X.Ok:=
 ⟨ok.mod,ok.kind,ok.glob,ok.blt,ok.above,ok.inj,ok.has,ok.cab,ok.hd,ok.frames,ok.stk,ok.exf,ok.bs,ok.bsz,ok.noex,ok.exfs,ok.funs,ok.frf⟩
section
variable {X:Cx} {pins:List (Addr×Obj)} {O:St} {H:Hp} {s:Shared} {E:Value->Shared->Prop}
theorem Inv.wish(I:Inv X pins O H s)(E:Value->Shared->Prop):Inv (X.wish E) pins O H s:=⟨I.ok.wish E,I.os,I.bare,I.base,I.loc,I.cell,I.free,I.freeC,I.pin,I.hok,I.len⟩
theorem Inv.unwish(I:Inv (X.wish E) pins O H s):Inv X pins O H s:=⟨I.ok.unwish,I.os,I.bare,I.base,I.loc,I.cell,I.free,I.freeC,I.pin,I.hok,I.len⟩
theorem SP.unwish{D:Ends}{f:Flow}{s':Shared}(h:SP (X.wish E) pins D f s'):SP X pins D f s':=by
 cases f with
 | next=>obtain ⟨σ',H',I,q⟩:=h;exact ⟨σ',H',I.unwish,q⟩
 | brk=>obtain ⟨σ',H',I,q⟩:=h;exact ⟨σ',H',I.unwish,q⟩
 | cont=>obtain ⟨σ',H',I,q⟩:=h;exact ⟨σ',H',I.unwish,q⟩
 | ret u=>obtain ⟨v,σ',H',I,r,q⟩:=h;exact ⟨v,σ',H',I.unwish,r,q⟩
theorem W2.nox{st:List Stmt}{t:TS}(h:W2 X.nox st t):W2 X st t:=fun pins s O H D I hw=>
 wpAny_mono (h pins s O H D (I.wish _) hw) (fun _ _ q=>q.unwish) fun _ _ z=>False.elim z
end
section
variable {X:Cx} {st:Stmt} {rest:List Stmt} {t u:TS} {e:Expr} {te:TE} {pos:Pos}
noncomputable def tNext:TS:=fun D O H=>D.nx O H
noncomputable def tSeq (t u:TS):TS:=fun D O H=>t { D with nx:=u D } O H
theorem amV:W2 X [] tNext:=fun _ _ O H _ I h=>wpAny_execs_nil ⟨O,H,I,h⟩
theorem akS(h1:PS X st t)(h2:W2 X rest u):W2 X (st::rest) (tSeq t u):=by
 intro pins s O H D I h;refine wpAny_execs_cons (B1 (h1 pins s O H { D with nx:=u D } I h) fun f s1 q=>?_)
 cases f with
 | next=>
  obtain ⟨σ',H',I',q⟩:=q;exact h2 pins s1 σ' H' D I' q
 | ret v=>exact q
 | brk=>exact q
 | cont=>exact q
theorem amW(h1:PS X st t):W2 X [st] t:=by
 intro pins s O H D I h;refine wpAny_execs_cons (B1 (h1 pins s O H D I h) fun f s1 q=>?_)
 cases f with
 | next=>exact wpAny_execs_nil q
 | ret v=>exact q
 | brk=>exact q
 | cont=>exact q
noncomputable def aoG:TS:=fun D O H=>D.bk O H
noncomputable def tCont:TS:=fun D O H=>D.ct O H
theorem Inv.quiet{pins:List (Addr×Obj)}{O:St}{H:Hp}{s:Shared}(I:Inv X pins O H s):interactive X.env=false:=by simp [interactive,I.ok.kind]
noncomputable def tDrop (te:TE):TS:=fun D O H=>te O H fun _ H1=>D.nx O H1
theorem amX(he:PE X e te)(hs:swapsWith e none pos.line X.env=pure false:=by rfl):PS X (.Expr e pos) (tDrop te):=by
 intro pins s O H D I h;exact wpAny_Expr_any (B1 (he pins s O H _ I h) fun v s1 ⟨x,H1,I1,r1,q1⟩=>⟨O,H1,I1,q1⟩) I.quiet hs
noncomputable def tRet (te:TE):TS:=fun D O H=>te O H D.rt
theorem aoH(he:PE X e te):PS X (.Return (some e) pos) (tRet te):=by
 intro pins s O H D I h;exact wpAny_Return_some (B1 (he pins s O H _ I h) fun v s1 ⟨x,H1,I1,r1,q1⟩=>⟨x,O,H1,I1,r1,q1⟩)
noncomputable def tRetN:TS:=fun D _ H=>D.rt .non H
noncomputable def tIfS (c:TT) (t u:TS):TS:=fun D O H=>c O H fun b H1=>if b=true then t D O H1 else u D O H1
theorem ps_if{c:Expr}{a b:List Stmt}{tc:TT}(hc:PT X c tc)(ha:W2 X a t)(hb:W2 X b u):PS X (.If c a b pos) (tIfS tc t u):=by
 intro pins s O H D I h;refine wpAny_If (B1 (hc pins s O H _ I h) fun d s1 ⟨H1,I1,q1⟩=>?_)
 cases d with
 | true=>exact ha pins s1 O H1 D I1 q1
 | false=>exact hb pins s1 O H1 D I1 q1
noncomputable def sT:TS:=fun _ _ _=>False
theorem akT:PS X st sT:=fun _ _ _ _ _ _ h=>h.elim
end
noncomputable abbrev TG:=V->St->Hp->(St->Hp->Prop)->Prop
noncomputable abbrev i7:=List V->St->Hp->(St->Hp->Prop)->Prop
noncomputable def PG (X:Cx) (target:Expr) (t:TG):Prop:=
 ∀ (pins:List (Addr×Obj)) (s:Shared) (O:St) (H:Hp) (v:V) (u:Value) (Q:St->Hp->Prop),Inv X pins O H s->RelV v u->t v O H Q->
  wpAny (model X.prog X.w) X.A (assign target X.env u) (fun _ s'=>∃ σ' H',Inv X pins σ' H' s'/\Q σ' H') X.xe s
noncomputable def kU (X:Cx) (ts:List Expr) (t:i7):Prop:=
 ∀ (pins:List (Addr×Obj)) (s:Shared) (O:St) (H:Hp) (vs:List V) (us:List Value) (Q:St->Hp->Prop),Inv X pins O H s->Vals vs us->t vs O H Q->
  wpAny (model X.prog X.w) X.A (assignInOrder ((assignEach ts X.env).map (·.2)) us) (fun _ s'=>∃ σ' H',Inv X pins σ' H' s'/\Q σ' H') X.xe s
noncomputable abbrev TSet:=V->V->V->Hp->(Hp->Prop)->Prop
noncomputable def PSet (X:Cx) (t:TSet):Prop:=
 ∀ (pins:List (Addr×Obj)) (s:Shared) (O:St) (H:Hp) (o i v:V) (ov iv u:Value) (Q:Hp->Prop),Inv X pins O H s->RelV o ov->RelV i iv->RelV v u->t o i v H Q->
  wpAny (model X.prog X.w) X.A (setItem ov iv u) (fun _ s'=>∃ H',Inv X pins O H' s'/\Q H') X.xe s
noncomputable abbrev dZ:=V->V->Hp->VK->Prop
noncomputable def sU (X:Cx) (op:Operator) (t:dZ):Prop:=
 ∀ (pins:List (Addr×Obj)) (s:Shared) (O:St) (H:Hp) (x y:V) (v u:Value) (Q:VK),Inv X pins O H s->RelV x v->RelV y u->t x y H Q->
  wpAny (model X.prog X.w) X.A (inplaceOp op v u) (EP X pins O Q) X.xe s
section
variable {X:Cx} {pos:Pos}
noncomputable def gName (i:Nat):TG:=fun v O H Q=>Q (O.set i (some v)) H
theorem amY{i:Nat}{x:Str}(hN:X.N.Nodup)(hi:X.N[i]?=some x)(hx:k9 X.env.scope x)(hf:X.fn x=true\/X.env.scope.names.lookup x=some .local:=by first | exact .inl rfl | exact .inr rfl | assumption):PG X (.Name x pos) (gName i):=by
 intro pins s O H v u Q I r h;exact wpAny_assign_Name (oO I hN hi hx r (fun s' I'=>⟨_,H,I',h⟩) hf)
noncomputable def gNil:i7:=fun vs O H Q=>vs=[]/\Q O H
noncomputable def gCons (t:TG) (u:i7):i7:=fun vs O H Q=>∃ v r,vs=v::r/\t v O H fun σ' H'=>u r σ' H' Q
theorem amZ:kU X [] gNil:=by
 intro pins s O H vs us Q I r h;obtain ⟨e,h⟩:=h;subst e
 cases r
 exact assignInOrder_nil ⟨O,H,I,h⟩
theorem akU{e:Expr}{es:List Expr}{t:TG}{u:i7}(h1:PG X e t)(h2:kU X es u)(hs:(assignEach (e::es) X.env).map (·.2)=assign e X.env::(assignEach es X.env).map (·.2):=by rfl):kU X (e::es) (gCons t u):=by
 intro pins s O H vs us Q I r h;obtain ⟨v,vr,e1,h⟩:=h;subst e1
 cases r with
 | cons r rr=>
  rw [hs];refine assignInOrder_cons (B1 (h1 pins s O H _ _ _ I r h) fun _ s1 ⟨σ1,H1,I1,q1⟩=>?_);exact h2 pins s1 σ1 H1 _ _ Q I1 rr q1
noncomputable def gTup (K:PySem.W.Frag) (n:Nat) (t:i7):TG:=fun v O H Q=>∃ a xs,v=.ref a/\C6 K H a xs/\xs.length=n/\t xs O H Q
theorem aoI{es:List Expr}{k:Nat}{t:i7}{n:Nat}(hc:X.calm=true)(h:kU X es t)(hn:(assignEach es X.env).length=n:=by rfl)(X2:(assignEach es X.env).findIdx? (·.1)=none:=by rfl):PG X (.Tuple es k pos) (gTup X.K n t):=by
 intro pins s O H v u Q I r hw;obtain ⟨a,xs,e1,hq,hl,hw⟩:=hw;subst e1
 cases r
 obtain ⟨its,rv,ht,hz⟩:=I.tuple hq;refine assign_Tuple_tuple (I.ok.hd hc) ht (by simp [hn,<- hl,rv.length]) X2 fun h' hx=>?_
 have I1:Inv X pins O H { s with heap:=h' }:=I.kept (t':=s.toks) fun b o e=>hx b o (I0 (Heap.lt_size e)) e
 exact h pins _ O H xs _ Q I1 (by simpa using rv) hw
noncomputable def gSub (to ti:TE) (t:TSet):TG:=fun v O H Q=>to O H fun o H1=>ti O H1 fun i H2=>t o i v H2 fun H3=>Q O H3
theorem aoJ{o i:Expr}{to ti:TE}{t:TSet}(ho:PE X o to)(hi:PE X i ti)(hs:PSet X t)(ha:∀ v,assign (.Subscript o i pos) X.env v=(do
   let ov <- holding [v] (eval o X.env)
   let iv <- holding [v,ov] (eval i X.env)
   standAt pos
   holding [v,ov,iv] (setItem ov iv v)
   release [v,ov,iv] []):=by intro _;rfl):PG X (.Subscript o i pos) (gSub to ti t):=by
 intro pins s O H v u Q I r h;rw [ha];refine wpAny_bind (wpAny_holding (B1 (ho pins s O H _ I h) fun ov s1 ⟨x,H1,I1,r1,q1⟩=>?_));refine wpAny_bind (wpAny_holding (B1 (hi pins s1 O H1 _ I1 q1) fun iv s2 ⟨y,H2,I2,r2,q2⟩=>?_));refine wpAny_bind (wpAny_standAt (wpAny_bind (wpAny_holding (B1 (hs pins s2 O H2 x y v ov iv u _ I2 r1 r2 r q2) fun _ s3 ⟨H3,I3,q3⟩=>?_))));exact wpAny_release ⟨O,H3,I3,q3⟩
noncomputable def tAsg (te:TE) (g:TG):TS:=fun D O H=>te O H fun x H1=>g x O H1 D.nx
theorem aoK{tg e:Expr}{te:TE}{g:TG}(he:PE X e te)(hg:PG X tg g)(hs:swapsWithSole [tg] e pos.line X.env=pure false:=by rfl)(hw:swappedStores [tg] e X.env=pure none:=by rfl)(h1:(assignEach [tg] X.env).map (·.2)=[assign tg X.env]:=by rfl):PS X (.Assign [tg] e pos) (tAsg te g):=by
 intro pins s O H D I h;refine wpAny_Assign_stores (B1 (he pins s O H _ I h) fun v s1 ⟨x,H1,I1,r1,q1⟩=>?_) hs hw;rw [h1];exact B1 (hg pins s1 O H1 x v _ I1 r1 q1) fun _ s2 q=>q
theorem aoL{i:Nat}{x:Str}{e:Expr}{te:TE}{pos':Pos}(hN:X.N.Nodup)(hi:X.N[i]?=some x)(hx:k9 X.env.scope x)(he:PE X e te)(hs:swapsWith e (some (.Name x pos')) pos.line X.env=pure false:=by rfl)(hf:X.fn x=true\/X.env.scope.names.lookup x=some .local:=by first | exact .inl rfl | exact .inr rfl | assumption) :
  PS X (.Assign [.Name x pos'] e pos) (tAsg te (gName i)):=by
 intro pins s O H D I h;refine wpAny_Assign_Name (B1 (he pins s O H _ I h) fun v s1 ⟨y,H1,I1,r1,q1⟩=>?_) hs;exact oO I1 hN hi hx r1 (fun s2 I2=>⟨_,H1,I2,q1⟩) hf
noncomputable def tAug (i:Nat) (te:TE) (ti:dZ):TS:=fun D O H=>∃ x,O[i]?=some (some x)/\te O H fun y H1=>ti x y H1 fun z H2=>D.nx (O.set i (some z)) H2
theorem aoM{i:Nat}{x:Str}{e:Expr}{te:TE}{op:Operator}{ti:dZ}{pos':Pos}(hN:X.N.Nodup)(hi:X.N[i]?=some x)(hx:k9 X.env.scope x)(he:PE X e te)(ho:sU X op ti)(hf:X.fn x=true\/X.env.scope.names.lookup x=some .local:=by first | exact .inl rfl | exact .inr rfl | assumption) :
  PS X (.AugAssign (.Name x pos') op e pos) (tAug i te ti):=by
 intro pins s O H D I h;obtain ⟨v,e1,h⟩:=h;obtain ⟨m,hn,hl⟩:=I.loc;have vis:kT X.env.scope x:=by rcases hx with k | k;exact .inl k;exact .inr (.inl k)
 obtain ⟨u,r,l⟩:=hl i x v hi e1 vis;refine wpAny_AugAssign_Name ?_;have go:wpAny (model X.prog X.w) X.A (eval e X.env) (fun w zx=>wpAny (model X.prog X.w) X.A (inplaceOp op u w) (fun r zw=>wpAny (model X.prog X.w) X.A (storeName X.env x r) (fun _=>SP X pins D .next) X.xe zw) X.xe zx) X.xe s:=by
  refine B1 (he pins s O H _ I h) fun w s1 ⟨y,H1,I1,r1,q1⟩=>?_
  refine B1 (ho pins s1 O H1 v y u w _ I1 r r1 q1) fun z s2 ⟨zv,H2,I2,r2,q2⟩=>?_
  exact oO I2 hN hi hx r2 (fun s3 I3=>⟨_,H2,I3,q2⟩) hf
 rcases l with ⟨hk,hm⟩ | ⟨hk,c,hc,J8⟩
 .exact wpAny_loadName_local I.ok.kind hk hn hm go
 .rcases hk with hk | hk
  .exact wpAny_loadName_cell I.ok.kind hk hc J8 go
  .rcases hx with k | k
   .have:X.env.scope.names.lookup x=some .free:=hk
    rw [k] at this;cases this
   .have:X.env.scope.names.lookup x=some .free:=hk
    rw [k] at this;cases this
noncomputable def sV (f:Int->Int->Int):dZ:=fun x y H Q=>∃ i j,x=.int i/\y=.int j/\Q (.int (f i j)) H
theorem aoN:sU X .Add (sV fun i j=>i+j):=by
 intro pins s O H x y v u Q I r1 r2 h;obtain ⟨i,j,e1,e2,q⟩:=h;subst e1;subst e2;obtain ⟨t,rfl⟩:=r1;obtain ⟨t',rfl⟩:=r2;exact iadd_int ⟨.int _,H,I.tok _,⟨_,rfl⟩,q⟩
end
section
variable {X:Cx} {pos:Pos}
noncomputable def oP (c:TT) (tb:TS):TS:=fun D O H=>∃ W:Nat->St->Hp->Prop,(∃ m,W m O H)/\∀ m O H,W m O H->
 c O H fun b H1=>if b=true then ∃ N:St->Hp->Prop,(∀ σ' H',N σ' H'->∃ m',m'<m/\W m' σ' H')/\tb { D with nx:=N,ct:=N,bk:=D.nx } O H1 else D.nx O H1
theorem akV{c:Expr}{body:List Stmt}{tc:TT}{tb:TS}(hp:PassesOwn (model X.prog X.w) X.A X.env X.xe)(hc:PT X c tc)(hb:W2 X body tb):PS X (.While c body [] pos) (oP tc tb):=by
 intro pins s O H D I h;obtain ⟨W,⟨m0,w0⟩,turn⟩:=h;refine wpAny_While (codeAny_whileLoop (fun n s'=>∃ σ' H',Inv X pins σ' H' s'/\W n σ' H') ?_ m0 ⟨O,H,I,w0⟩);rintro n s1 ⟨σ1,H1,I1,w1⟩;refine wpAny_passesOwn hp (B1 (hc pins s1 σ1 H1 _ I1 (turn n σ1 H1 w1)) fun b s2 ⟨H2,I2,q2⟩=>?_)
 cases b with
 | true=>
  obtain ⟨N,hN,q2⟩:=q2;rw [if_pos rfl];refine wpAny_passesOwn hp (B1 (hb pins s2 σ1 H2 _ I2 q2) fun f s3 q3=>?_)
  cases f with
  | next=>
   obtain ⟨σ3,H3,I3,n3⟩:=q3;obtain ⟨m',hm,w3⟩:=hN σ3 H3 n3;exact ⟨m',hm,σ3,H3,I3,w3⟩
  | cont=>
   obtain ⟨σ3,H3,I3,n3⟩:=q3;obtain ⟨m',hm,w3⟩:=hN σ3 H3 n3;exact ⟨m',hm,σ3,H3,I3,w3⟩
  | brk=>exact q3
  | ret v=>exact q3
 | false=>
  rw [if_neg L3];exact wpAny_execs_nil ⟨σ1,H2,I2,q2⟩
end
structure It where
 go:Nat->Hp->Prop
 yld:Nat->Hp->V->Hp->Prop
 stop:Nat->Hp->Prop
noncomputable def FpOk (X:Cx) (pins:List (Addr×Obj)) (H:Hp) (b:Addr):Prop:=
 H b=none/\b≠X.env.locals/\b∉X.fs/\(b∈X.ex\/X.s₀.heap.objs.size<=b)/\(∀ x c,X.env.cells.lookup x=some c->c≠b)/\∀ p∈X.pn++pins,p.1≠b
theorem Inv.fpOk{X:Cx}{pins:List (Addr×Obj)}{O:St}{H H':Hp}{s:Shared}{b:Addr}(I:Inv X pins O H s)(hb:s.heap.objs.size<=b)(hn:H' b=none):FpOk X pins H' b:=by
 refine ⟨hn,i3 (O2 I.lt hb),I.nofs hb,.inr (K6 I.sz hb),fun x c e z=>?_,fun p hp z=>?_⟩
 .obtain ⟨v,q⟩:=I.cell x c e;exact absurd (O2 q.lt (by rw [z];exact hb)) (k5 _)
 .exact absurd (O2 (Heap.lt_size (I.pin p hp).1) (by rw [z];exact hb)) (k5 _)
structure Turn(P:Program)(w:World)(K:PySem.W.Frag)(tg:Expr)(J:It)(fp:List Addr)(it:Addr)(tn:Nat->Heap->Prop):Prop where
 mem:it∈fp
 obj:∀ i h,tn i h->∀ b∈fp,∃ o,h.get? b=some o/\∀ v,o.data≠.cell v
 keep:∀ i h h',tn i h->(∀ b∈fp,∀ o,h.get? b=some o->h'.get? b=some o)->tn i h'
 item:∀ (X:Cx),X.prog=P->X.w=w->X.K=K->X.calm=true->∀ (i:Nat) (pins:List (Addr×Obj)) (s:Shared) (O:St) (H:Hp) (E:Value->Shared->Prop),Inv X pins O H s->(∀ b∈fp,FpOk X pins H b)->tn i s.heap->J.go i H->
  wpAny (model P w) X.A (pyNext (.ref it)) (fun r s1=>∃ u,r=some u/\
   wpAny (model P w) X.A (letOwnedTupleGo tg (.ref it) u) (fun _ s2=>∃ x H',Inv X pins O H' s2/\RelV x u/\J.yld i H x H'/\tn (i+1) s2.heap/\∀ b∈fp,H' b=none) E s1) E s
 done:∀ (X:Cx),X.prog=P->X.w=w->X.K=K->X.calm=true->∀ (i:Nat) (pins:List (Addr×Obj)) (s:Shared) (O:St) (H:Hp) (E:Value->Shared->Prop),Inv X pins O H s->(∀ b∈fp,FpOk X pins H b)->tn i s.heap->J.stop i H->
  wpAny (model P w) X.A (pyNext (.ref it)) (fun r s1=>r=none/\Inv X pins O H s1) E s
 self:∀ (A:Around) (i:Nat) (s:Shared) (Q:Value->Shared->Prop) (E:Value->Shared->Prop),tn i s.heap->Q (.ref it) s->wpAny (model P w) A (pyIter (.ref it)) Q E s
noncomputable abbrev TI:=St->Hp->(It->Hp->Prop)->Prop
noncomputable def sW (X:Cx) (pins:List (Addr×Obj)) (O:St) (tg:Expr) (R:It->Hp->Prop) (itv:Value) (s2:Shared):Prop:=
 ∃ (it:Addr) (fp:List Addr) (tn:Nat->Heap->Prop) (J:It) (H':Hp),itv=.ref it/\Inv X pins O H' s2/\Turn X.prog X.w X.K tg J fp it tn/\tn 0 s2.heap/\(∀ b∈fp,FpOk X pins H' b)/\R J H'
noncomputable def PI (X:Cx) (tg iter:Expr) (wi:TI):Prop:=
 ∀ (pins:List (Addr×Obj)) (s:Shared) (O:St) (H:Hp) (R:It->Hp->Prop),Inv X pins O H s->wi O H R->
  wpAny (model X.prog X.w) X.A (eval iter X.env) (fun v s1=>wpAny (model X.prog X.w) X.A (pyIter v) (sW X pins O tg R) X.xe s1) X.xe s
theorem go_of{M : Model}{A : Around}{E : Value -> Shared -> Prop}{s : Shared}{tg : Expr}{it : Addr}{u : Value}{o : Obj}{n : String}{vs : Array Value}{Q : Unit -> Shared -> Prop}(ho : s.heap.get? it = some o)(hc : o.cls = .type n)(hd : o.data = .fields vs)(hn : ["enumerate", "zip", "dict_itemiterator", "dict_reverseitemiterator", "odict_iterator", "itertools.zip_longest", "itertools.pairwise"].contains n = false)(hQ : Q () s) : wpAny M A (letOwnedTupleGo tg (.ref it) u) Q E s := by
  unfold letOwnedTupleGo
  cases tg <;> first
    | exact wpAny_pure hQ
    | (cases u <;> first
        | exact wpAny_pure hQ
        | (refine wpAny_bind (wpAny_load ho ?_)
           rw [hc, hd];show wpAny M A (if (["enumerate", "zip", "dict_itemiterator", "dict_reverseitemiterator", "odict_iterator", "itertools.zip_longest", "itertools.pairwise"].contains n&&vs[0]? == some (rawInt _)) = true then _ else _) Q E s;rw [if_neg (by intro h; rw [hn, Bool.false_and] at h; cases h)];exact wpAny_pure hQ))
noncomputable def t9 (K:PySem.W.Frag) (a:Addr):It:=
 ⟨fun i H=>∃ xs x,C7 K H a xs/\xs[i]?=some x,fun i H x H'=>H'=H/\∀ xs,C7 K H a xs->xs[i]?=some x,fun i H=>∃ xs,C7 K H a xs/\xs.length<=i⟩
noncomputable def bY (K:PySem.W.Frag) (a:Addr):It:=
 ⟨fun i H=>∃ xs x,C6 K H a xs/\xs[i]?=some x,fun i H x H'=>H'=H/\∀ xs,C6 K H a xs->xs[i]?=some x,fun i H=>∃ xs,C6 K H a xs/\xs.length<=i⟩
noncomputable def l6 (lo:Int) (n:Nat):It:=⟨fun i _=>i<n,fun i H x H'=>H'=H/\x=.int (lo+i),fun i _=>n<=i⟩
theorem aja{P:Program}{w:World}{K:PySem.W.Frag}{tg:Expr}(a it:Addr):Turn P w K tg (t9 K a) [it] it (fun i h=>h.IsListIter it a i) where
 mem:=by simp
 obj:=fun i h st b hb=>by
  have e:b=it:=by simpa using hb
  subst e;obtain ⟨o,e,c,d⟩:=st;exact ⟨o,e,fun v z=>by rw [d] at z;cases z⟩
 keep:=fun i h h' st k=>st.at fun o e=>k it (by simp) o e
 item:=by
  intro X hP hw hK hc i pins s O H E I hf st hg;subst hP hw hK;obtain ⟨xs,x,hq,hx⟩:=hg;obtain ⟨its,rv,p,hz⟩:=I.list hq;obtain ⟨u,hu,ru⟩:=rv.get hx;obtain ⟨f0,f1,f2,f3,f4,f5⟩:=hf it (by simp);refine wpAny_pyNext_list_item st p.isList (x:=u) (by simpa using hu) fun h' st' sb=>?_
  have I1:Inv X pins O H { s with heap:=h' }:=I.turned (t':=s.toks) (fun b o hb e=>(sb.2 b hb).trans e) f0 f1 f3 f4 f5;obtain ⟨o,e,c,d⟩:=id st';exact ⟨u,rfl,go_of (s:={ s with heap:=h' }) e c d (by decide) ⟨x,H,I1,ru,⟨rfl,fun ys hy=>by rw [I.list_inj hy hq];exact hx⟩,st',fun b hb=>(hf b hb).1⟩⟩
 done:=by
  intro X hP hw hK hc i pins s O H E I hf st hg;subst hP hw hK;obtain ⟨xs,hq,hx⟩:=hg;obtain ⟨its,rv,p,hz⟩:=I.list hq;obtain ⟨f0,f1,f2,f3,f4,f5⟩:=hf it (by simp);have hl:=rv.length;exact wpAny_pyNext_list_end (I.ok.hd hc) st p.isList (by simp;lia) fun h' eb=>⟨rfl,I.turned (t':=s.toks) (fun b o hb e=>eb b o hb e) f0 f1 f3 f4 f5⟩
 self:=fun _ _ _ _ _ st h=>wpAny_pyIter_listiter st h
theorem aip{P:Program}{w:World}{K:PySem.W.Frag}{tg:Expr}(a it:Addr):Turn P w K tg (bY K a) [it] it (fun i h=>h.IsTupleIter it a i) where
 mem:=by simp
 obj:=fun i h st b hb=>by
  have e:b=it:=by simpa using hb
  subst e;obtain ⟨o,e,c,d⟩:=st;exact ⟨o,e,fun v z=>by rw [d] at z;cases z⟩
 keep:=fun i h h' st k=>st.at fun o e=>k it (by simp) o e
 item:=by
  intro X hP hw hK hc i pins s O H E I hf st hg;subst hP hw hK;obtain ⟨xs,x,hq,hx⟩:=hg;obtain ⟨its,rv,p,hz⟩:=I.tuple hq;obtain ⟨u,hu,ru⟩:=rv.get hx;obtain ⟨f0,f1,f2,f3,f4,f5⟩:=hf it (by simp);refine wpAny_pyNext_tuple_item st (show s.heap.IsTuple a its.toArray from p) (x:=u) (by simpa using hu) fun h' st' sb=>?_
  have I1:Inv X pins O H { s with heap:=h' }:=I.turned (t':=s.toks) (fun b o hb e=>(sb.2 b hb).trans e) f0 f1 f3 f4 f5;obtain ⟨o,e,c,d⟩:=id st';exact ⟨u,rfl,go_of (s:={ s with heap:=h' }) e c d (by decide) ⟨x,H,I1,ru,⟨rfl,fun ys hy=>by rw [I.tuple_inj hy hq];exact hx⟩,st',fun b hb=>(hf b hb).1⟩⟩
 done:=by
  intro X hP hw hK hc i pins s O H E I hf st hg;subst hP hw hK;obtain ⟨xs,hq,hx⟩:=hg;obtain ⟨its,rv,p,hz⟩:=I.tuple hq;obtain ⟨f0,f1,f2,f3,f4,f5⟩:=hf it (by simp);have hl:=rv.length;exact wpAny_pyNext_tuple_end (I.ok.hd hc) st (show s.heap.IsTuple a its.toArray from p) (by simp;lia) fun h' eb=>⟨rfl,I.turned (t':=s.toks) (fun b o hb e=>eb b o hb e) f0 f1 f3 f4 f5⟩
 self:=fun _ _ _ _ _ st h=>wpAny_pyIter_tupleiter st h
theorem aiq{P:Program}{w:World}{K:PySem.W.Frag}{tg:Expr}(it:Addr)(lo:Int)(n:Nat):Turn P w K tg (l6 lo n) [it] it (fun i h=>IsRangeIter h it (lo+(i:Nat)*1) ((n:Int)-(i:Nat)) 1) where
 mem:=by simp
 obj:=fun i h st b hb=>by
  have e:b=it:=by simpa using hb
  subst e;exact ⟨_,st,fun v z=>by
   have z':Data.fields _=Data.cell v:=z
   cases z'⟩
 keep:=fun i h h' st k=>k it (by simp) _ st
 item:=by
  intro X hP hw hK hc i pins s O H E I hf st hg;subst hP hw hK;obtain ⟨f0,f1,f2,f3,f4,f5⟩:=hf it (by simp);have W:=Walks.range (prog:=X.prog) (w:=X.w) (I.ok.hd hc) it lo 1 n;refine W.item i s _ _ hg st fun v h' tk hv st' kk=>?_
  obtain ⟨t,rfl⟩:=hv;have I1:Inv X pins O H { s with heap:=h',toks:=tk }:=I.turned (fun b o hb e=>kk b o (by simpa using hb) e) f0 f1 f3 f4 f5;refine ⟨_,rfl,go_of (s:={ s with heap:=h',toks:=tk }) (n:="range_iterator") st' rfl rfl (by decide) ⟨.int (lo+i),H,I1,⟨t,?_⟩,⟨rfl,rfl⟩,st',fun b hb=>(hf b hb).1⟩⟩;rw [Int.mul_one]
 done:=by
  intro X hP hw hK hc i pins s O H E I hf st hg;subst hP hw hK;obtain ⟨f0,f1,f2,f3,f4,f5⟩:=hf it (by simp);exact wpAny_pyNext_range_end (I.ok.hd hc) st (by have:n<=i:=hg;lia) fun h' eb=>⟨rfl,I.turned (t':=s.toks) (fun b o hb e=>eb b o hb e) f0 f1 f3 f4 f5⟩
 self:=fun _ _ _ _ _ st h=>wpAny_pyIter_rangeiter st h
end L2
namespace L2
open PySem PySem.Spec PyProof.Rows
section
variable {X:Cx} {tg:Expr}
noncomputable def iList (K:PySem.W.Frag) (tl:TE):TI:=fun O H R=>tl O H fun x H1=>∃ a,x=.ref a/\(∃ xs,C7 K H1 a xs)/\R (t9 K a) H1
noncomputable def iTup (K:PySem.W.Frag) (tl:TE):TI:=fun O H R=>tl O H fun x H1=>∃ a,x=.ref a/\(∃ xs,C6 K H1 a xs)/\R (bY K a) H1
theorem am0{l:Expr}{tl:TE}(hl:PE X l tl):PI X tg l (iList X.K tl):=by
 intro pins s O H R I h;refine B1 (hl pins s O H _ I h) fun v s1 ⟨x,H1,I1,r1,q1⟩=>?_
 obtain ⟨a,e,⟨xs,hq⟩,q⟩:=q1;subst e
 cases r1
 obtain ⟨its,rv,p,hz⟩:=I1.list hq;refine wpAny_pyIter_list p.isList ?_;refine ⟨s1.heap.objs.size,[s1.heap.objs.size],_,_,H1,rfl,I1.kept (t':=s1.toks) fun b o e=>Heap.get?_push_of_some _ e,aja a _,⟨_,Heap.get?_push_size _ rfl,rfl,rfl⟩,fun b hb=>?_,q⟩;have e:b=s1.heap.objs.size:=by simpa using hb
 subst e;exact I1.fpOk (B5 _) (I1.hok.fresh (B5 _))
theorem aoO{l:Expr}{tl:TE}(hl:PE X l tl):PI X tg l (iTup X.K tl):=by
 intro pins s O H R I h;refine B1 (hl pins s O H _ I h) fun v s1 ⟨x,H1,I1,r1,q1⟩=>?_
 obtain ⟨a,e,⟨xs,hq⟩,q⟩:=q1;subst e
 cases r1
 obtain ⟨its,rv,p,hz⟩:=I1.tuple hq;refine wpAny_pyIter_tuple (show s1.heap.IsTuple a its.toArray from p) ?_;refine ⟨s1.heap.objs.size,[s1.heap.objs.size],_,_,H1,rfl,I1.kept (t':=s1.toks) fun b o e=>Heap.get?_push_of_some _ e,aip a _,⟨_,Heap.get?_push_size _ rfl,rfl,rfl⟩,fun b hb=>?_,q⟩;have e:b=s1.heap.objs.size:=by simpa using hb
 subst e;exact I1.fpOk (B5 _) (I1.hok.fresh (B5 _))
theorem akW{pins:List (Addr×Obj)}{O:St}{H:Hp}{s:Shared}{R:It->Hp->Prop}{E:Value->Shared->Prop}{lo hi:Int}{t u v:Tok}{tk:Nat}(I:Inv X pins O H s)(h1:-(2 ^ 62)<=lo)(h2:lo<2 ^ 62)(h3:-(2 ^ 62)<=hi)(h4:hi<2 ^ 62)(q:R (l6 lo (hi-lo).toNat) H):wpAny (model X.prog X.w) X.A (pyIter (.ref s.heap.objs.size)) (sW X pins O tg R) E { s with heap:=s.heap.push { cls:=.type "range",data:=.fields #[.int lo t,.int hi u,.int 1 v] },toks:=tk }:=by
 refine wpAny_pyIter_range (IsRange.new ..) (small_one h1 h2 h3 h4) ?_;have I1:Inv X pins O H { s with heap:=s.heap.push { cls:=.type "range",data:=.fields #[.int lo t,.int hi u,.int 1 v] },toks:=tk }:=I.kept fun b o e=>Heap.get?_push_of_some _ e
 refine ⟨(s.heap.push { cls:=.type "range",data:=.fields #[.int lo t,.int hi u,.int 1 v] }).objs.size,[(s.heap.push { cls:=.type "range",data:=.fields #[.int lo t,.int hi u,.int 1 v] }).objs.size],_,_,H,rfl,
  I1.kept (t':=tk) fun b o e=>Heap.get?_push_of_some _ e,aiq _ lo (hi-lo).toNat,?_,fun b hb=>?_,q⟩
 .have e1:lo+((0:Nat):Int)*1=lo:=by simp
  have e2:(((hi-lo).toNat:Nat):Int)-((0:Nat):Int)=Builtin.Range.rangeSize lo hi 1:=by rw [rangeSize_one];split <;> lia
  show IsRangeIter _ _ (lo+((0:Nat):Int)*1) ((((hi-lo).toNat:Nat):Int)-((0:Nat):Int)) 1;rw [e1,e2];exact Heap.get?_push_size _ rfl
 .have e:b=(s.heap.push { cls:=.type "range",data:=.fields #[.int lo t,.int hi u,.int 1 v] }).objs.size:=by simpa using hb
  subst e;exact I1.fpOk (B5 _) (I1.hok.fresh (B5 _))
noncomputable def iRng1 (ta:TA):TI:=fun O H R=>ta O H fun vs H1=>∃ j:Int,vs=[.int j]/\-(2 ^ 62)<=j/\j<2 ^ 62/\R (l6 0 j.toNat) H1
noncomputable def iRng2 (ta:TA):TI:=fun O H R=>ta O H fun vs H1=>∃ i j:Int,vs=[.int i,.int j]/\(-(2 ^ 62)<=i/\i<2 ^ 62/\-(2 ^ 62)<=j/\j<2 ^ 62)/\R (l6 i (j-i).toNat) H1
theorem ajb{a:Expr}{ta:TA}{p pos:Pos}(hg:Gl X "range")(hm:X.mg "range"=none)(ha:PA X [a] ta)(hs:starEach [a] X.env=[(false,eval a X.env)]:=by rfl):PI X tg (.Call (.Name "range" p) [a] [] pos) (iRng1 ta):=by
 intro pins s O H R I h;refine Call_ (bX I hg hm boot_range (PyProof.Rows.callWith_type1 (B1 (ha pos pins s O H _ I h) fun us s1 ⟨vs,H1,I1,r1,q1⟩=>?_) hs rfl));obtain ⟨j,e,q1,q2,q⟩:=q1;subst e
 cases r1 with
 | cons r rr=>
  cases rr
  obtain ⟨t,rfl⟩:=r;exact call_range_1 (akW I1 (by lia) (by lia) q1 q2 (by simpa using q))
noncomputable def tFor (wi:TI) (g:TG) (tb:TS):TS:=fun D O H=>wi O H fun J H1=>∃ W:Nat->Nat->St->Hp->Prop,(∃ m,W 0 m O H1)/\∀ i m O H,W i m O H->
 (J.stop i H/\D.nx O H)\/(J.go i H/\∃ N:St->Hp->Prop,(∀ σ' H',N σ' H'->∃ m',m'<m/\W (i+1) m' σ' H')/\∀ x H',J.yld i H x H'->g x O H' fun σ2 H2=>tb { D with nx:=N,ct:=N,bk:=D.nx } σ2 H2)
noncomputable def hJ (fp:List Addr) (h:Heap):List (Addr×Obj):=fp.filterMap fun b=>(h.get? b).map fun o=>(b,o)
theorem hW{fp:List Addr}{h:Heap}{b:Addr}{o:Obj}(hb:b∈fp)(e:h.get? b=some o):(b,o)∈hJ fp h:=gL.mpr ⟨b,hb,by rw [e];rfl⟩
theorem ajc{fp:List Addr}{h:Heap}{p:Addr×Obj}(hp:p∈hJ fp h):p.1∈fp/\h.get? p.1=some p.2:=by
 obtain ⟨b,hb,e⟩:=gL.mp hp
 cases q:h.get? b with
 | none=>rw [q] at e;cases e
 | some o=>
  rw [q] at e;have e':(b,o)=p:=Option.some.inj e;subst e';exact ⟨hb,q⟩
theorem Inv.pinned{pins:List (Addr×Obj)}{O:St}{H:Hp}{s:Shared}{fp:List Addr}(I:Inv X pins O H s)(hf:∀ b∈fp,FpOk X pins H b)(ho:∀ b∈fp,∃ o,s.heap.get? b=some o/\∀ v,o.data≠.cell v):Inv X (pins++hJ fp s.heap) O H s:=
 I.pins_of fun p hp=>(D4.mp hp).elim (fun z=>I.pin p (M0 _ z)) fun z=>by
  obtain ⟨hb,e⟩:=ajc z;obtain ⟨f0,f1,f2,_⟩:=hf p.1 hb;obtain ⟨o,e',d⟩:=ho p.1 hb;rw [e] at e';cases e';exact ⟨e,f0,f1,f2,d⟩
theorem Inv.unpinned{pins pl:List (Addr×Obj)}{O:St}{H:Hp}{s:Shared}(I:Inv X (pins++pl) O H s):Inv X pins O H s:=I.pins_of fun p hp=>I.pin p (M0 _ (N6 _ hp))
theorem aoP{iter:Expr}{body:List Stmt}{wi:TI}{g:TG}{tb:TS}{pos:Pos}(hp:PassesOwn (model X.prog X.w) X.A X.env X.xe)(hc:X.calm=true)(hi:PI X tg iter wi)(hg:PG X tg g)(hb:W2 X body tb)(hs:∀ x,foldedSetIterable iter X.env x=pure x:=by intro _;rfl):PS X (.For tg iter body [] pos) (tFor wi g tb):=by
 intro pins s O H D I h;refine wpAny_For (B1 (hi pins s O H _ I h) fun v s1 h1=>B1 h1 fun itv s2 h2=>?_) hs;obtain ⟨it,fp,tn,J,H2,e,I2,T,mH,f2,W,⟨m0,w0⟩,turn⟩:=h2;subst e;have stat:∀ {H':Hp},(∀ b∈fp,H' b=none)->∀ b∈fp,FpOk X pins H' b:=fun hn b hb=>⟨hn b hb,(f2 b hb).2⟩
 refine codeAny_forLoop_any (fun n s'=>∃ i σ' H',Inv X pins σ' H' s'/\tn i s'.heap/\(∀ b∈fp,H' b=none)/\W i n σ' H') ?_ m0 ⟨0,O,H2,I2,mH,fun b hb=>(f2 b hb).1,w0⟩;rintro n s3 ⟨i,σ3,H3,I3,dC,mI,w3⟩
 rcases turn i n σ3 H3 w3 with ⟨stop,qn⟩ | ⟨go,N,hN,step⟩
 .refine wpAny_passesOwn hp (B1 (T.done X rfl rfl rfl hc i pins s3 σ3 H3 X.xe I3 (stat mI) dC stop) fun r s4 ⟨hr,I4⟩=>?_);subst hr;exact wpAny_execs_nil ⟨σ3,H3,I4,qn⟩
 .refine wpAny_passesOwn hp (B1 (T.item X rfl rfl rfl hc i pins s3 σ3 H3 X.xe I3 (stat mI) dC go) fun r s4 ⟨u,hr,h4⟩=>?_);subst hr;refine wpAny_passesOwn hp (B1 h4 fun _ s5 ⟨x,H5,I5,r5,y5,eZ,yC⟩=>?_);have I5':=I5.pinned (stat yC) (T.obj _ _ eZ);refine wpAny_passesOwn hp (B1 (hg _ s5 σ3 H5 x u _ I5' r5 (step x H5 y5)) fun _ s6 ⟨σ6,H6,I6,q6⟩=>?_);refine wpAny_passesOwn hp (B1 (hb _ s6 σ6 H6 _ I6 q6) fun f s7 q7=>?_);have again:∀ {σ7:St} {H7:Hp},Inv X (pins++hJ fp s5.heap) σ7 H7 s7->N σ7 H7->∃ m,m<n/\∃ i σ' H',Inv X pins σ' H' s7/\tn i s7.heap/\(∀ b∈fp,H' b=none)/\W i m σ' H':=fun {σ7 H7} I7 n7=>by
   obtain ⟨m',hm,w7⟩:=hN σ7 H7 n7;refine ⟨m',hm,i+1,σ7,H7,I7.unpinned,T.keep _ _ _ eZ fun b hb o e=>(I7.pin (b,o) (M0 _ (M0 _ (hW hb e)))).1,fun b hb=>?_,w7⟩;obtain ⟨o,e,d⟩:=T.obj _ _ eZ b hb;exact (I7.pin (b,o) (M0 _ (M0 _ (hW hb e)))).2.1
  cases f with
  | next=>obtain ⟨σ7,H7,I7,n7⟩:=q7;exact again I7 n7
  | cont=>obtain ⟨σ7,H7,I7,n7⟩:=q7;exact again I7 n7
  | brk=>obtain ⟨σ7,H7,I7,q7⟩:=q7;exact ⟨σ7,H7,I7.unpinned,q7⟩
  | ret v=>obtain ⟨x7,σ7,H7,I7,r7,q7⟩:=q7;exact ⟨x7,σ7,H7,I7.unpinned,r7,q7⟩
end
theorem akX{K:PySem.W.Frag}{a:Addr}{xs:List V}{g:TG}{tb:TS}{D:Ends}{O:St}{H:Hp}(Pv:Nat->St->Hp->Prop)(h0:Pv 0 O H)(hl:∀ i O H,i<=xs.length->Pv i O H->C7 K H a xs)(hs:∀ i x O H,xs[i]?=some x->Pv i O H->g x O H fun σ2 H2=>tb { D with nx:=Pv (i+1),ct:=Pv (i+1),bk:=D.nx } σ2 H2)(hd:∀ O H,Pv xs.length O H->D.nx O H) :
  ∃ W:Nat->Nat->St->Hp->Prop,(∃ m,W 0 m O H)/\∀ i m O H,W i m O H->
   ((t9 K a).stop i H/\D.nx O H)\/((t9 K a).go i H/\∃ N:St->Hp->Prop,(∀ σ' H',N σ' H'->∃ m',m'<m/\W (i+1) m' σ' H')/\∀ x H',(t9 K a).yld i H x H'->g x O H' fun σ2 H2=>tb { D with nx:=N,ct:=N,bk:=D.nx } σ2 H2):=by
 refine ⟨fun i m O H=>m=xs.length-i/\i<=xs.length/\Pv i O H,⟨xs.length,by simp,F7 _,h0⟩,?_⟩;rintro i m O H ⟨rfl,hi,p⟩;have q:=hl i O H hi p
 by_cases C4:i<xs.length
 .refine .inr ⟨⟨xs,xs[i],q,by simp [C4]⟩,Pv (i+1),fun σ' H' p'=>⟨xs.length-(i+1),by lia,rfl,C4,p'⟩,fun x H' y=>?_⟩;obtain ⟨e,y⟩:=y;subst e;exact hs i x O _ (y xs q) p
 .have e:i=xs.length:=by lia
  subst e;exact .inl ⟨⟨xs,q,B5 _⟩,hd O H p⟩
theorem am1{K:PySem.W.Frag}{a:Addr}{xs:List V}{g:TG}{tb:TS}{D:Ends}{O:St}{H:Hp}(Pv:Nat->St->Hp->Prop)(h0:Pv 0 O H)(hl:∀ i O H,i<=xs.length->Pv i O H->C6 K H a xs)(hs:∀ i x O H,xs[i]?=some x->Pv i O H->g x O H fun σ2 H2=>tb { D with nx:=Pv (i+1),ct:=Pv (i+1),bk:=D.nx } σ2 H2)(hd:∀ O H,Pv xs.length O H->D.nx O H) :
  ∃ W:Nat->Nat->St->Hp->Prop,(∃ m,W 0 m O H)/\∀ i m O H,W i m O H->
   ((bY K a).stop i H/\D.nx O H)\/((bY K a).go i H/\∃ N:St->Hp->Prop,(∀ σ' H',N σ' H'->∃ m',m'<m/\W (i+1) m' σ' H')/\∀ x H',(bY K a).yld i H x H'->g x O H' fun σ2 H2=>tb { D with nx:=N,ct:=N,bk:=D.nx } σ2 H2):=by
 refine ⟨fun i m O H=>m=xs.length-i/\i<=xs.length/\Pv i O H,⟨xs.length,by simp,F7 _,h0⟩,?_⟩;rintro i m O H ⟨rfl,hi,p⟩;have q:=hl i O H hi p
 by_cases C4:i<xs.length
 .refine .inr ⟨⟨xs,xs[i],q,by simp [C4]⟩,Pv (i+1),fun σ' H' p'=>⟨xs.length-(i+1),by lia,rfl,C4,p'⟩,fun x H' y=>?_⟩;obtain ⟨e,y⟩:=y;subst e;exact hs i x O _ (y xs q) p
 .have e:i=xs.length:=by lia
  subst e;exact .inl ⟨⟨xs,q,B5 _⟩,hd O H p⟩
theorem ajd{lo:Int}{n:Nat}{g:TG}{tb:TS}{D:Ends}{O:St}{H:Hp}(Pv:Nat->St->Hp->Prop)(h0:Pv 0 O H)(hs:∀ i O H,i<n->Pv i O H->g (.int (lo+i)) O H fun σ2 H2=>tb { D with nx:=Pv (i+1),ct:=Pv (i+1),bk:=D.nx } σ2 H2)(hd:∀ O H,Pv n O H->D.nx O H) :
  ∃ W:Nat->Nat->St->Hp->Prop,(∃ m,W 0 m O H)/\∀ i m O H,W i m O H->
   ((l6 lo n).stop i H/\D.nx O H)\/((l6 lo n).go i H/\∃ N:St->Hp->Prop,(∀ σ' H',N σ' H'->∃ m',m'<m/\W (i+1) m' σ' H')/\∀ x H',(l6 lo n).yld i H x H'->g x O H' fun σ2 H2=>tb { D with nx:=N,ct:=N,bk:=D.nx } σ2 H2):=by
 refine ⟨fun i m O H=>m=n-i/\i<=n/\Pv i O H,⟨n,by simp,F7 _,h0⟩,?_⟩;rintro i m O H ⟨rfl,hi,p⟩
 by_cases C4:i<n
 .refine .inr ⟨C4,Pv (i+1),fun σ' H' p'=>⟨n-(i+1),by lia,rfl,C4,p'⟩,fun x H' y=>?_⟩;obtain ⟨e,y⟩:=y;subst e y;exact hs i O _ C4 p
 .have e:i=n:=by lia
  subst e;exact .inl ⟨B5 _,hd O H p⟩
end L2
namespace L2
open PySem PySem.Spec PyProof.Rows
noncomputable abbrev R2:=V->V->Hp->VK->Prop
noncomputable def K1 (X:Cx) (f:Value->Value->Sem Value) (r:R2):Prop:=
 ∀ (pins:List (Addr×Obj)) (s:Shared) (O:St) (H:Hp) (x y:V) (v u:Value) (Q:VK),Inv X pins O H s->RelV x v->RelV y u->r x y H Q->
  wpAny (model X.prog X.w) X.A (f v u) (EP X pins O Q) X.xe s
noncomputable def oQ (X:Cx) (f:Value->Sem Value) (r:V->Hp->VK->Prop):Prop:=
 ∀ (pins:List (Addr×Obj)) (s:Shared) (O:St) (H:Hp) (x:V) (v:Value) (Q:VK),Inv X pins O H s->RelV x v->r x H Q->
  wpAny (model X.prog X.w) X.A (f v) (EP X pins O Q) X.xe s
noncomputable def CallR (X:Cx) (f:Value) (r:List V->Hp->VK->Prop):Prop:=
 ∀ (pins:List (Addr×Obj)) (s:Shared) (O:St) (H:Hp) (xs:List V) (us:List Value) (Q:VK),Inv X pins O H s->Vals xs us->r xs H Q->
  wpAny (model X.prog X.w) X.A (call f us) (EP X pins O Q) X.xe s
noncomputable def TruR (X:Cx) (r:V->Hp->(Bool->Hp->Prop)->Prop):Prop:=
 ∀ (pins:List (Addr×Obj)) (s:Shared) (O:St) (H:Hp) (x:V) (v:Value) (Q:Bool->Hp->Prop),Inv X pins O H s->RelV x v->r x H Q->
  wpAny (model X.prog X.w) X.A (truthy v) (TP X pins O Q) X.xe s
noncomputable def l7 (r:R2) (ta tb:TE):TE:=fun O H Q=>ta O H fun x H1=>tb O H1 fun y H2=>r x y H2 Q
noncomputable def sX (r:V->Hp->VK->Prop) (ta:TE):TE:=fun O H Q=>ta O H fun x H1=>r x H1 Q
noncomputable def rI (C:Int->Int->Prop) (g:Int->Int->V):R2:=fun x y H Q=>∃ i j,x=.int i/\y=.int j/\C i j/\Q (g i j) H
noncomputable def hX (g:Int->Int->V):R2:=fun x y H Q=>∃ i j,x=.int i/\y=.int j/\Q (g i j) H
noncomputable def rU (g:Int->V):V->Hp->VK->Prop:=fun x H Q=>∃ i,x=.int i/\Q (g i) H
section
variable {X:Cx} {a b c:Expr} {ta tb tc:TE} {pos:Pos}
theorem binT(ha:PE X a ta)(hb:PE X b tb){pins:List (Addr×Obj)}{s:Shared}{O:St}{H:Hp}{R:V->V->Hp->Prop}(I:Inv X pins O H s)(h:ta O H fun x H1=>tb O H1 fun y H2=>R x y H2){Q:Value->Shared->Prop}{f:Value->Value->Sem Value}(hf:∀ v u s2 x y H2,Inv X pins O H2 s2->RelV x v->RelV y u->R x y H2->wpAny (model X.prog X.w) X.A (f v u) Q X.xe s2) :
  wpAny (model X.prog X.w) X.A (eval a X.env) (fun v zu=>wpAny (model X.prog X.w) X.A (eval b X.env) (fun u zx=>wpAny (model X.prog X.w) X.A (f v u) Q X.xe zx) X.xe zu) X.xe s:=by
 refine B1 (ha pins s O H _ I h) fun v s1 ⟨x,H1,I1,r1,q1⟩=>?_
 refine B1 (hb pins s1 O H1 _ I1 q1) fun u s2 ⟨y,H2,I2,r2,q2⟩=>?_
 exact hf v u s2 x y H2 I2 r1 r2 q2
theorem pe_op{op:Operator}{r:R2}(ho:K1 X (binaryOp op) r)(ha:PE X a ta)(hb:PE X b tb):PE X (.BinOp a op b pos) (l7 r ta tb):=by
 intro pins s O H Q I h;exact wpAny_BinOp (binT ha hb I h fun v u s2 x y H2 I2 rx ry q=>ho pins s2 O H2 x y v u Q I2 rx ry q)
theorem pe_un{op:UnaryOp}{r:V->Hp->VK->Prop}(ho:oQ X (unaryOp op) r)(ha:PE X a ta):PE X (.UnaryOp op a pos) (sX r ta):=by
 intro pins s O H Q I h;exact UnaryOp_ (B1 (ha pins s O H _ I h) fun v s1 ⟨x,H1,I1,r1,q1⟩=>ho pins s1 O H1 x v Q I1 r1 q1)
theorem sY{f:Value->Value->Sem Value}{C:Int->Int->Prop}{g:Int->Int->Int}(rule:∀ (i j:Int) (t u:Tok) (s:Shared) (Q:Value->Shared->Prop) (E:Value->Shared->Prop),C i j->Q (.int (g i j) s.toks) { s with toks:=s.toks+1 }->wpAny (model X.prog X.w) X.A (f (.int i t) (.int j u)) Q E s) :
  K1 X f (rI C fun i j=>.int (g i j)):=by
 intro pins s O H x y v u Q I rx ry h;obtain ⟨i,j,rfl,rfl,hc,q⟩:=h;obtain ⟨t,rfl⟩:=rx;obtain ⟨t',rfl⟩:=ry;exact rule i j t t' s _ _ hc ⟨.int (g i j),H,I.tok _,⟨_,rfl⟩,q⟩
theorem opI0{f:Value->Value->Sem Value}{g:Int->Int->Int}(rule:∀ (i j:Int) (t u:Tok) (s:Shared) (Q:Value->Shared->Prop) (E:Value->Shared->Prop),Q (.int (g i j) s.toks) { s with toks:=s.toks+1 }->wpAny (model X.prog X.w) X.A (f (.int i t) (.int j u)) Q E s) :
  K1 X f (hX fun i j=>.int (g i j)):=by
 intro pins s O H x y v u Q I rx ry h;obtain ⟨i,j,rfl,rfl,q⟩:=h;obtain ⟨t,rfl⟩:=rx;obtain ⟨t',rfl⟩:=ry;exact rule i j t t' s _ _ ⟨.int (g i j),H,I.tok _,⟨_,rfl⟩,q⟩
theorem opB0{f:Value->Value->Sem Value}{g:Int->Int->Bool}(rule:∀ (i j:Int) (t u:Tok) (s:Shared) (Q:Value->Shared->Prop) (E:Value->Shared->Prop),Q (.bool (g i j)) s->wpAny (model X.prog X.w) X.A (f (.int i t) (.int j u)) Q E s) :
  K1 X f (hX fun i j=>.bl (g i j)):=by
 intro pins s O H x y v u Q I rx ry h;obtain ⟨i,j,rfl,rfl,q⟩:=h;obtain ⟨t,rfl⟩:=rx;obtain ⟨t',rfl⟩:=ry;exact rule i j t t' s _ _ ⟨.bl (g i j),H,I,rfl,q⟩
noncomputable def CDiv (i j:Int):Prop:=0<j/\j<1073741824
noncomputable def CMul (i j:Int):Prop:=(-(2 ^ 64)<i/\i<2 ^ 64)\/(-(2 ^ 64)<j/\j<2 ^ 64)
theorem CMul.ok{i j:Int}(h:CMul i j):IntMulOk i j:=by
 rcases h with ⟨h1,h2⟩ | ⟨h1,h2⟩
 .exact .of_left (intBits_le_64 h1 h2)
 .exact .of_right (intBits_le_64 h1 h2)
theorem aoQ:K1 X (binaryOp .Add) (hX fun i j=>.int (i+j)):=opI0 fun _ _ _ _ _ _ _ q=>add_int q
theorem aoR:K1 X (binaryOp .Mult) (rI CMul fun i j=>.int (i*j)):=sY fun _ _ _ _ _ _ _ hc q=>mul_int q hc.ok
theorem am2:K1 X (binaryOp .FloorDiv) (rI CDiv fun i j=>.int (i / j)):=sY fun i j _ _ _ _ _ hc q=>by
 have h1:(0:Int)<j:=hc.1;have h2:j<1073741824:=hc.2;exact floordiv_int (by lia) (by rw [Int.fdiv_eq_ediv_of_nonneg i (by lia)];exact q) (.inl (PyProof.noPylong_small (by lia)))
theorem aoS:K1 X (binaryOp .Mod) (rI (fun _ j=>0<j) fun i j=>.int (i % j)):=sY fun i j _ _ _ _ _ hc q=>by
 have h1:(0:Int)<j:=hc;exact mod_int' (by lia) (by rw [Int.fmod_eq_emod_of_nonneg i (by lia)];exact q)
theorem unI{f:Value->Sem Value}{g:Int->Int}(rule:∀ (i:Int) (t:Tok) (s:Shared) (Q:Value->Shared->Prop) (E:Value->Shared->Prop),Q (.int (g i) s.toks) { s with toks:=s.toks+1 }->wpAny (model X.prog X.w) X.A (f (.int i t)) Q E s) :
  oQ X f (rU fun i=>.int (g i)):=by
 intro pins s O H x v Q I rx h;obtain ⟨i,rfl,q⟩:=h;obtain ⟨t,rfl⟩:=rx;exact rule i t s _ _ ⟨.int (g i),H,I.tok _,⟨_,rfl⟩,q⟩
theorem aoT:oQ X (unaryOp .USub) (rU fun i=>.int (-i)):=unI fun _ _ _ _ _ q=>neg_int q
end
noncomputable def scal:V->V->Bool
 | .non,.non=>true | .non,.int _=>true | .int _,.non=>true | .non,.bl _=>true | .bl _,.non=>true | .non,.str _=>true | .str _,.non=>true
 | .int _,.int _=>true | .bl _,.bl _=>true | .str _,.str _=>true | .byt _,.byt _=>true
 | .int _,.str _=>true | .str _,.int _=>true | .bl _,.str _=>true | .str _,.bl _=>true
 | _,_=>false
noncomputable def rEq:R2:=fun x y H Q=>scal x y=true/\Q (.bl (decide (x=y))) H
noncomputable def rNe:R2:=fun x y H Q=>scal x y=true/\Q (.bl (!decide (x=y))) H
theorem aje{i j:Int} : decide (V.int i=V.int j)=(i==j):=by
 rw [Bool.eq_iff_iff]
 simp
theorem amo{i j:Bool} : decide (V.bl i=V.bl j)=(i==j):=by
 rw [Bool.eq_iff_iff]
 simp
theorem ajf{i j:Str} : decide (V.str i=V.str j)=(i==j):=by
 rw [Bool.eq_iff_iff]
 simp
theorem ajg{i j:Array UInt8} : decide (V.byt i=V.byt j)=(i.toList==j.toList):=by
 rw [Bool.eq_iff_iff]
 cases i
 cases j
 simp
section
variable {X:Cx} {a b c:Expr} {ta tb tc:TE} {pos:Pos}
theorem M4{pins:List (Addr×Obj)}{O:St}{H:Hp}{s:Shared}{Q:VK}{k k':Bool}(I:Inv X pins O H s)(q:Q (.bl k) H)(e:k=k'):EP X pins O Q (.bool k') s:=by
 subst e;exact ⟨.bl k,H,I,rfl,q⟩
theorem op_eq:K1 X (compareOp .Eq) rEq:=by
 intro pins s O H x y v u Q I rx ry h;obtain ⟨hs,q⟩:=h
 cases x with
 | non=>
  cases rx
  cases y with
  | non=>cases ry;exact PySem.EqNone.eq_none_none (M4 I q (by simp))
  | bl j=>cases ry;exact PySem.EqNone.eq_none_bool (M4 I q (by simp))
  | int j=>obtain ⟨t',rfl⟩:=ry;exact PySem.EqNone.eq_none_int (M4 I q (by simp))
  | str j=>obtain ⟨t',rfl⟩:=ry;exact PySem.EqNone.eq_none_str (M4 I q (by simp))
  | _=>exact absurd (show false=true from hs) L3
 | bl i=>
  cases rx
  cases y with
  | non=>cases ry;exact PySem.EqNone.eq_bool_none (M4 I q (by simp))
  | bl j=>cases ry;exact eq_bool (M4 I q amo)
  | str j=>obtain ⟨t',rfl⟩:=ry;exact PySem.EqMixed.eq_bool_str (M4 I q (by simp))
  | _=>exact absurd (show false=true from hs) L3
 | int i=>
  obtain ⟨t,rfl⟩:=rx
  cases y with
  | non=>cases ry;exact PySem.EqNone.eq_int_none (M4 I q (by simp))
  | int j=>obtain ⟨t',rfl⟩:=ry;exact eq_int (M4 I q aje)
  | str j=>obtain ⟨t',rfl⟩:=ry;exact PySem.EqMixed.eq_int_str (M4 I q (by simp))
  | _=>exact absurd (show false=true from hs) L3
 | str i=>
  obtain ⟨t,rfl⟩:=rx
  cases y with
  | non=>cases ry;exact PySem.EqNone.eq_str_none (M4 I q (by simp))
  | bl j=>cases ry;exact PySem.EqMixed.eq_str_bool (M4 I q (by simp))
  | int j=>obtain ⟨t',rfl⟩:=ry;exact PySem.EqMixed.eq_str_int (M4 I q (by simp))
  | str j=>obtain ⟨t',rfl⟩:=ry;exact eq_str (M4 I q ajf)
  | _=>exact absurd (show false=true from hs) L3
 | byt i=>
  obtain ⟨t,rfl⟩:=rx
  cases y with
  | byt j=>obtain ⟨t',rfl⟩:=ry;exact PySem.W.eq_bytes (M4 I q ajg)
  | _=>exact absurd (show false=true from hs) L3
 | _=>cases y <;> exact absurd (show false=true from hs) L3
theorem op_ne:K1 X (compareOp .NotEq) rNe:=by
 intro pins s O H x y v u Q I rx ry h;obtain ⟨hs,q⟩:=h
 cases x with
 | non=>
  cases rx
  cases y with
  | non=>cases ry;exact PySem.EqNone.ne_none_none (M4 I q (by simp))
  | bl j=>cases ry;exact PySem.EqNone.ne_none_bool (M4 I q (by simp))
  | int j=>obtain ⟨t',rfl⟩:=ry;exact PySem.EqNone.ne_none_int (M4 I q (by simp))
  | str j=>obtain ⟨t',rfl⟩:=ry;exact PySem.EqNone.ne_none_str (M4 I q (by simp))
  | _=>exact absurd (show false=true from hs) L3
 | bl i=>
  cases rx
  cases y with
  | non=>cases ry;exact PySem.EqNone.ne_bool_none (M4 I q (by simp))
  | bl j=>cases ry;exact ne_bool (M4 I q (congrArg not amo))
  | str j=>obtain ⟨t',rfl⟩:=ry;exact PySem.EqMixed.ne_bool_str (M4 I q (by simp))
  | _=>exact absurd (show false=true from hs) L3
 | int i=>
  obtain ⟨t,rfl⟩:=rx
  cases y with
  | non=>cases ry;exact PySem.EqNone.ne_int_none (M4 I q (by simp))
  | int j=>obtain ⟨t',rfl⟩:=ry;exact ne_int (M4 I q (congrArg not aje))
  | str j=>obtain ⟨t',rfl⟩:=ry;exact PySem.EqMixed.ne_int_str (M4 I q (by simp))
  | _=>exact absurd (show false=true from hs) L3
 | str i=>
  obtain ⟨t,rfl⟩:=rx
  cases y with
  | non=>cases ry;exact PySem.EqNone.ne_str_none (M4 I q (by simp))
  | bl j=>cases ry;exact PySem.EqMixed.ne_str_bool (M4 I q (by simp))
  | int j=>obtain ⟨t',rfl⟩:=ry;exact PySem.EqMixed.ne_str_int (M4 I q (by simp))
  | str j=>obtain ⟨t',rfl⟩:=ry;exact ne_str (M4 I q (congrArg not ajf))
  | _=>exact absurd (show false=true from hs) L3
 | byt i=>
  obtain ⟨t,rfl⟩:=rx
  cases y with
  | byt j=>obtain ⟨t',rfl⟩:=ry;exact PySem.W.ne_bytes (M4 I q (congrArg not ajg))
  | _=>exact absurd (show false=true from hs) L3
 | _=>cases y <;> exact absurd (show false=true from hs) L3
theorem op_lt:K1 X (compareOp .Lt) (hX fun i j=>.bl (decide (i<j))):=opB0 fun _ _ _ _ _ _ _ q=>lt_int q
theorem op_le:K1 X (compareOp .LtE) (hX fun i j=>.bl (decide (i<=j))):=opB0 fun _ _ _ _ _ _ _ q=>le_int q
theorem af3:K1 X (compareOp .Lt) (fun x y H Q=>∃ i j,x=.str i/\y=.str j/\Q (.bl (decide (i.cps.toList<j.cps.toList))) H):=by
 intro pins s O H x y v u Q I rx ry h;obtain ⟨i,j,rfl,rfl,q⟩:=h;obtain ⟨t,rfl⟩:=rx;obtain ⟨t',rfl⟩:=ry;exact lt_str (M4 I q rfl)
theorem ajh:K1 X (compareOp .In) (fun x y H Q=>∃ i j,x=.str i/\y=.str j/\Q (.bl (!(Builtin.Str.occurrences j i 0 j.length 1).isEmpty)) H):=by
 intro pins s O H x y v u Q I rx ry h;obtain ⟨i,j,rfl,rfl,q⟩:=h;obtain ⟨t,rfl⟩:=rx;obtain ⟨t',rfl⟩:=ry;exact in_str (M4 I q rfl)
theorem amp(b:Expr){op:CmpOp}(h:op≠.In:=by decide)(h2:op≠.NotIn:=by decide):behindInMarks op b=false:=by
 have e1:(op==CmpOp.In)=false:=by cases op <;> first | rfl | exact absurd rfl h
 have e2:(op==CmpOp.NotIn)=false:=by cases op <;> first | rfl | exact absurd rfl h2
 cases b <;> simp [behindInMarks,e1,e2]
theorem am3{op:CmpOp}{r:R2}(ho:K1 X (compareOp op) r)(ha:PE X a ta)(hb:PE X b tb)(hm:behindInMarks op b=false):PE X (.Compare a [op] [b] pos) (l7 r ta tb):=by
 intro pins s O H Q I h;exact wpAny_Compare1 (binT ha hb I h fun v u s2 x y H2 I2 rx ry q=>ho pins s2 O H2 x y v u Q I2 rx ry q) hm
noncomputable def tTest (t:TE):TT:=fun O H Q=>t O H fun x H'=>∃ k,x=.bl k/\Q k H'
theorem am4{op:CmpOp}{r:R2}(ho:K1 X (compareOp op) r)(ha:PE X a ta)(hb:PE X b tb)(hm:behindInMarks op b=false):PT X (.Compare a [op] [b] pos) (tTest (l7 r ta tb)):=by
 intro pins s O H Q I h;refine wpAny_isTrue_Compare1 (B1 (ha pins s O H _ I h) fun v s1 ⟨x,H1,I1,r1,q1⟩=>B1 (hb pins s1 O H1 _ I1 q1) fun u s2 ⟨y,H2,I2,r2,q2⟩=>
  B1 (ho pins s2 O H2 x y v u _ I2 r1 r2 q2) fun c s3 ⟨z,H3,I3,r3,k,e,q3⟩=>?_) hm
 subst e
 cases r3
 exact wpAny_truthy_bool ⟨H3,I3,q3⟩
noncomputable def sZ (r r':R2) (ta tb tc:TE):TE:=fun O H Q=>ta O H fun x H1=>tb O H1 fun y H2=>r x y H2 fun z H3=>∃ k,z=.bl k/\
 (if k=true then tc O H3 fun w' H4=>r' y w' H4 Q else Q (.bl false) H3)
theorem akY{op op':CmpOp}{r r':R2}(ho:K1 X (compareOp op) r)(f6:K1 X (compareOp op') r')(ha:PE X a ta)(hb:PE X b tb)(hc:PE X c tc)(hm:lastMarks [op,op'] [b,c]=false:=by with_unfolding_all rfl):PE X (.Compare a [op,op'] [b,c] pos) (sZ r r' ta tb tc):=by
 intro pins s O H Q I h;refine Compare_chain (B1 (ha pins s O H _ I h) fun v s1 ⟨x,H1,I1,r1,q1⟩=>chain_link (B1 (hb pins s1 O H1 _ I1 q1) fun u s2 ⟨y,H2,I2,r2,q2⟩=>
  B1 (ho pins s2 O H2 x y v u _ I2 r1 r2 q2) fun d s3 ⟨z,H3,I3,r3,k,e,q3⟩=>?_)) hm
 subst e
 cases r3
 refine wpAny_truthy_bool ?_
 cases k with
 | false=>exact ite_ff ⟨.bl false,H3,I3,rfl,q3⟩
 | true=>exact ite_tt (chain_last (B1 (hc pins s3 O H3 _ I3 q3) fun w' s4 ⟨z',H4,I4,r4,q4⟩=>f6 pins s4 O H4 y z' u w' Q I4 r2 r4 q4))
noncomputable def TruV (K:PySem.W.Frag) (x:V) (H:Hp) (k:Bool):Prop:=
 match x with
 | .non=>k=false
 | .bl b=>k=b
 | .int i=>k=(i != 0)
 | .str y=>y.length<=sizeLine/\k=((y.length:Int) != 0)
 | .byt y=>y.size<=sizeLine/\k=((y.size:Int) != 0)
 | .ref p=>(∃ xs,C7 K H p xs/\k=!xs.isEmpty)\/(∃ xs,C6 K H p xs/\k=!xs.isEmpty)\/∃ kvs,H p=some (.dK kvs)/\k=!kvs.isEmpty
 | _=>False
theorem air{κ:Type}{kvs:List (κ×V)}{vs:List (κ×Value)}(r:KV kvs vs):(!vs.isEmpty)=!kvs.isEmpty:=by
 cases r <;> rfl
theorem aeV{xs:List V}{its:List Value}(r:Vals xs its):(!its.toArray.isEmpty)=!xs.isEmpty:=by
 cases r <;> simp
theorem iA:(sizeLine:Nat)<2 ^ 63:=by rw [sizeLine_eq];decide
theorem aoU:TruR X (fun x H Q=>∃ k,TruV X.K x H k/\Q k H):=by
 intro pins s O H x v Q I rx h;obtain ⟨k,e,q⟩:=h;have hl:=iA;have hs:sizeLine=16777216:=sizeLine_eq
 cases x with
 | non=>
  cases rx
  have e':k=false:=e;subst e';exact truthy_none ⟨H,I,q⟩
 | bl b=>
  cases rx
  have e':k=b:=e;subst e';exact wpAny_truthy_bool ⟨H,I,q⟩
 | int i=>
  obtain ⟨t,rfl⟩:=rx;have e':k=(i != 0):=e;subst e';exact PySem.P.truthy_int ⟨H,I,q⟩
 | str y=>
  obtain ⟨t,rfl⟩:=rx;obtain ⟨hy,e'⟩:y.length<=sizeLine/\k=((y.length:Int) != 0):=e;subst e';exact PySem.P.truthy_str (by lia) ⟨H,I.tok _,q⟩
 | byt y=>
  obtain ⟨t,rfl⟩:=rx;obtain ⟨hy,e'⟩:y.size<=sizeLine/\k=((y.size:Int) != 0):=e;subst e';exact PySem.W.truthy_bytes (by lia) ⟨H,I.tok _,q⟩
 | ref p=>
  cases rx
  have e':(∃ xs,C7 X.K H p xs/\k=!xs.isEmpty)\/(∃ xs,C6 X.K H p xs/\k=!xs.isEmpty)\/∃ kvs,H p=some (.dK kvs)/\k=!kvs.isEmpty:=e
  rcases e' with ⟨xs,hx,e'⟩ | ⟨xs,hx,e'⟩ | ⟨kvs,hx,e'⟩
  .subst e';obtain ⟨its,r,pl,hz⟩:=I.list hx;have A9:=r.length;exact wpAny_truthy_list pl.isList (by simp only [E7];lia) ⟨H,I.tok _,by rw [aeV r];exact q⟩
  .subst e';obtain ⟨its,r,pl,hz⟩:=I.tuple hx;have A9:=r.length;exact truthy_tuple pl (by simp only [E7];lia) ⟨H,I.tok _,by rw [aeV r];exact q⟩
  .subst e';obtain ⟨hz,hS,vs,r,m⟩:kvs.length<=sizeLine/\(p==sysModules)=false/\∃ vs,KV kvs vs/\s.heap.DictOf (M7 X.prog X.w) p vs:=I.hok p _ hx;have A9:kvs.length=vs.length:=Paired.length r;exact wpAny_truthy_dict hS m (by lia) ⟨H,I.tok _,by rw [air r];exact q⟩
 | _=>exact (show False from e).elim
theorem akZ(ha:PE X a ta)(he:∀ whole,isTrue a X.env whole=(do let v <- whole;standAt a.pos;holding [v] (truthy v))) :
  PT X a (fun O H Q=>ta O H fun x H'=>∃ k,TruV X.K x H' k/\Q k H'):=by
 intro pins s O H Q I h;exact isTrue_plain (B1 (ha pins s O H _ I h) fun v s1 ⟨x,H1,I1,r1,q1⟩=>aoU pins s1 O H1 x v Q I1 r1 q1) (he _)
theorem ais:K1 X (binaryOp .Add) (fun x y H Q=>∃ i j,x=.str i/\y=.str j/\i.length+j.length<=sizeLine/\Q (.str (i++j)) H):=by
 intro pins s O H x y v u Q I rx ry h;obtain ⟨i,j,rfl,rfl,hz,q⟩:=h;obtain ⟨t,rfl⟩:=rx;obtain ⟨t',rfl⟩:=ry;exact add_str (fun t' tk=>⟨.str (i++j),H,I.tok _,⟨_,rfl⟩,q⟩) hz
theorem vals1{x:V}{us:List Value}(r:Vals [x] us):∃ u,us=[u]/\RelV x u:=by
 cases r with
 | cons r1 r2=>cases r2;exact ⟨_,rfl,r1⟩
theorem vals2{x y:V}{us:List Value}(r:Vals [x,y] us):∃ u w',us=[u,w']/\RelV x u/\RelV y w':=by
 cases r with
 | cons r1 r2=>
  cases r2 with
  | cons r3 r4=>cases r4;exact ⟨_,_,rfl,r1,r3⟩
theorem ajj:CallR X (.type "int") (fun xs H Q=>(∃ i,xs=[.int i]/\Q (.int i) H)\/∃ k,xs=[.bl k]/\Q (.int (if k then 1 else 0)) H):=by
 intro pins s O H xs us Q I r h
 rcases h with ⟨i,rfl,q⟩ | ⟨k,rfl,q⟩
 .obtain ⟨u,rfl,t,rfl⟩:=vals1 r;exact call_int_int ⟨.int i,H,I,⟨_,rfl⟩,q⟩
 .obtain ⟨u,rfl,r1⟩:=vals1 r
  cases r1
  exact call_int_bool ⟨.int (if k then 1 else 0),H,I.tok _,⟨_,rfl⟩,q⟩
theorem ak0:CallR X (.builtin "ord") (fun xs H Q=>∃ x,xs=[.str x]/\x.length=1/\Q (.int (x.cps.getD 0 0:Nat)) H):=by
 intro pins s O H xs us Q I r h;obtain ⟨x,rfl,hz,q⟩:=h;obtain ⟨u,rfl,t,rfl⟩:=vals1 r;exact ord_of_one hz ⟨.int _,H,I.tok _,⟨_,rfl⟩,q⟩
noncomputable def LenV (K:PySem.W.Frag) (x:V) (H:Hp) (n:Nat):Prop:=
 match x with
 | .str y=>y.length<=sizeLine/\n=y.length
 | .byt y=>y.size<=sizeLine/\n=y.size
 | .ref p=>(∃ xs,C7 K H p xs/\n=xs.length)\/∃ xs,C6 K H p xs/\n=xs.length
 | _=>False
theorem tD:CallR X (.builtin "len") (fun xs H Q=>∃ x n,xs=[x]/\LenV X.K x H n/\Q (.int n) H):=by
 intro pins s O H xs us Q I r h;obtain ⟨x,n,rfl,e,q⟩:=h;obtain ⟨u,rfl,rx⟩:=vals1 r;have hl:=iA;have hs:sizeLine=16777216:=sizeLine_eq
 cases x with
 | str y=>
  obtain ⟨t,rfl⟩:=rx;obtain ⟨hy,e'⟩:y.length<=sizeLine/\n=y.length:=e;subst e';exact len_str (by lia) ⟨.int _,H,I.tok _,⟨_,rfl⟩,q⟩
 | byt y=>
  obtain ⟨t,rfl⟩:=rx;obtain ⟨hy,e'⟩:y.size<=sizeLine/\n=y.size:=e;subst e';exact PySem.W.len_bytes (by lia) ⟨.int _,H,I.tok _,⟨_,rfl⟩,q⟩
 | ref p=>
  cases rx
  have e':(∃ xs,C7 X.K H p xs/\n=xs.length)\/∃ xs,C6 X.K H p xs/\n=xs.length:=e
  rcases e' with ⟨xs,hx,e'⟩ | ⟨xs,hx,e'⟩
  .subst e';obtain ⟨its,r',pl,hz⟩:=I.list hx;have A9:=r'.length;exact Calls.call_len_list pl.isList (by simp only [E7];lia) ⟨.int xs.length,H,I.tok _,⟨_,by simp only [E7];rw [A9]⟩,q⟩
  .subst e';obtain ⟨its,r',pl,hz⟩:=I.tuple hx;have A9:=r'.length;exact len_tuple pl (by simp only [E7];lia) ⟨.int xs.length,H,I.tok _,⟨_,by simp only [E7];rw [A9]⟩,q⟩
 | _=>exact (show False from e).elim
end
end L2
namespace L2
open PySem PySem.Spec PyProof.Rows
structure ObjM(h:Heap)(x dx C:Addr)(mA:Str->Option Value):Prop where
 obj:h.get? x=some (bV C dx)
 ns:h.Ns1 dx mA
 ne:dx≠x
theorem ajk{h:Heap}{dx:Addr}{mA:Str->Option Value}(n:h.Ns1 dx mA):∃ od,h.get? dx=some od/\∀ name,PySem.W.lookIn name od=some (mA name):=by
 obtain ⟨o,es,ep,ho,hd,hk,_,hm⟩:=n;refine ⟨o,ho,fun name=>?_⟩;have e:=hm name;unfold nsFind findBy at e;rw [<- Array.find?_toList] at e;unfold PySem.W.lookIn;rw [hd]
 dsimp only
 split
 .rename_i y q
  rw [q] at e;exact congrArg some e
 .rename_i q
  rw [q] at e;have a:es.toList.any (·.refKey)=false:=by
   rw [List.any_eq_false];intro y hy;obtain ⟨z,t,Q8⟩:=hk y (Array.mem_toList_iff.mp hy);simp [DictEntry.refKey,Q8]
  have a':¬ es.toList.any (·.refKey)=true:=by rw [a];exact L3
  rw [if_neg a'];exact congrArg some e
theorem ObjM.look{h:Heap}{x dx C:Addr}{mA:Str->Option Value}(I:ObjM h x dx C mA):∃ od,PySem.W.InstAt h x (bV C dx) C (some od)/\∀ name,PySem.W.lookIn name od=some (mA name):=
 let ⟨od,ho,hl⟩:=ajk I.ns
 ⟨od,⟨I.obj,rfl,rfl,ho⟩,hl⟩
section
variable {prog:Program} {w:World} {A:Around} {E:Value->Shared->Prop} {s:Shared} {K:PySem.W.Frag} {x dx C f:Addr} {mA:Str->Option Value} {name:Str} {v:Value}
theorem am5{expr:Bool}{Q:Value->Shared->Prop}(X:K.In s.heap)(I:ObjM s.heap x dx C mA)(hg:gW K C name=true)(hh:kO K C=true)(ha:M9 K (.ref C) name=some none)(hv:mA name=some v)(rL:PySem.W.handedIn v=true)(h:Q v { s with toks:=s.toks+1 }) :
  wpAny (model prog w) A (getAttr (.ref x) name expr) Q E s:=by
 obtain ⟨od,J,hl⟩:=I.look;exact PySem.W.get_value X J (PySem.W.plainGet_of hg).1 (PySem.W.findObj_own hh ha rfl (by rw [hl,hv])) rL h
theorem ak1{pl:Sem Bool}{Q:Value×List Value->Shared->Prop}(X:K.In s.heap)(I:ObjM s.heap x dx C mA)(hg:gW K C name=true)(hf:M9 K (.ref C) name=some (some (.ref f)))(ht:i5 K (.ref f)=true)(hv:mA name=none)(h:Q (.ref f,[.ref x]) s) :
  wpAny (model prog w) A (getMethod (.ref x) name pl) Q E s:=by
 obtain ⟨od,J,hl⟩:=I.look;exact PySem.W.method_fn X J (PySem.W.plainGet_of hg).1 (PySem.W.plainGet_of hg).2 hf (beq_iff_eq.mp ht) (by show (PySem.W.lookIn name od).map (·.isSome)=some false;rw [hl,hv];rfl) h
theorem am6{ns:List Str}{Q:Unit->Shared->Prop}(X:K.In s.heap)(I:ObjM s.heap x dx C mA)(hs:M9 K (.ref C) "__setattr__"=some (some (.builtin "object.__setattr__")))(hp:PySem.W.plainOver K C=true)(ht:PySem.W.takerIn K C name=some none)(hh:kO K C=true)(hw:PySem.Within mA ns)(hsz:ns.length<=sizeLine)(h:∀ h',ObjM h' x dx C (fun y=>if y=name then some v else mA y)->Heap.SameBut dx s.heap h'->Q () { s with heap:=h',toks:=s.toks+2 }) :
  wpAny (model prog w) A (setAttr (.ref x) name v) Q E s:=by
 obtain ⟨od,J,hl⟩:=I.look;refine PySem.W.set_plain X J hs (PySem.W.osa_open (s:={ s with toks:=s.toks+1 }) (r:=none) X J hp ht fun b=>?_);obtain ⟨cd,hc,xX⟩:=PySem.W.any_some hh;have hx:s.heap.get? x=some ⟨.ref C,some dx,.plain,#[]⟩:=I.obj;refine wpAny_bind (wpAny_pure (wpAny_bind (wpAny_bind (wpAny_loadPart hx (wpAny_bind (PySem.W.Looks.here (s:={ s with toks:=s.toks+1 }) (PySem.W.looks_clsIn X hc) ?_))))));rw [xX];refine wpAny_pure (a:=some dx) (wpAny_bind (wpAny_pure (wpAny_bind ?_)));refine wpAny_nsSet1 (s:={ s with toks:=s.toks+1 }) I.ns fun h' rM jK=>?_
 obtain ⟨oD,esD,epD,hoD,hdD,hcD⟩:=rM.count (PySem.Within.cons name v hw);refine wpAny_bind (wpAny_lookBehind hoD (by rw [hdD];exact pastItsLine_dict (K6 hcD (by rw [G6];lia))) ?_);exact wpAny_pure (h _ ⟨(jK.2 _ (Ne.symm I.ne)).trans I.obj,rM,I.ne⟩ jK)
theorem ak2{R:Result->Shared->Prop}{vs:List Value}{kw:List (Str×Value)}(X:K.In s.heap)(hm:PySem.W.makesIn K C=true)(hi:M9 K (.ref C) "__init__"=some (some (.ref f)))(hf:PySem.W.typeIn K (.ref f)=some (.type "function"))(h:codeAny (model prog w) (A.under (.builtin "type.__call__" ⟨.ref C::vs,kw⟩)) (.call (.ref f) ⟨.ref (s.heap.objs.size+1)::vs,kw⟩) (PySem.W.InitBack (s.heap.objs.size+1) R)
   { s with heap:=(s.heap.push aG).push (bV C s.heap.objs.size) }) :
  codeAny (model prog w) A (.call (.ref C) ⟨vs,kw⟩) R s:=by
 obtain ⟨hh,g,d,t,os⟩:=s;exact PySem.W.make_core (PySem.W.makes_of X hm) (PySem.W.looks_findIn X hi) (fun self=>PySem.W.bind_fn X self hf) (.inl rfl) h
end
noncomputable def putF (f:Str) (v:V):List (Str×V)->List (Str×V)
 | []=>[(f,v)]
 | (g,x)::r=>if g=f then (g,v)::r else (g,x)::putF f v r
theorem L7(f g:Str)(v:V):∀ fs:List (Str×V),(putF f v fs).lookup g=if g=f then some v else fs.lookup g
 | []=>by
  show aE g [(f,v)]=_
  by_cases h:g=f
  .have hb:(g==f)=true:=beq_iff_eq.mpr h;simp only [aE,hb,if_pos h]
  .have hb:(g==f)=false:=beq_eq_false_iff_ne.mpr h;simp only [aE,hb,if_neg h]
 | (k,x)::r=>by
  have ih:=L7 f g v r;rw [show putF f v ((k,x)::r)=(if k=f then (k,v)::r else (k,x)::putF f v r) from rfl]
  by_cases hk:k=f
  .rw [if_pos hk]
   by_cases h:g=k
   .have hb:(g==k)=true:=beq_iff_eq.mpr h;simp only [aE,hb,if_pos (h.trans hk)]
   .have hb:(g==k)=false:=beq_eq_false_iff_ne.mpr h;simp only [aE,hb,if_neg (fun e:g=f=>h (e.trans hk.symm))]
  .rw [if_neg hk]
   by_cases h:g=k
   .have hb:(g==k)=true:=beq_iff_eq.mpr h;simp only [aE,hb,if_neg (fun e:g=f=>hk (h.symm.trans e))]
   .have hb:(g==k)=false:=beq_eq_false_iff_ne.mpr h;simp only [aE,hb];exact ih
theorem tE(f:Str)(v:V):∀ fs:List (Str×V),f∈(putF f v fs).map (·.1)/\∀ g,g∈fs.map (·.1)->g∈(putF f v fs).map (·.1)
 | []=>⟨by simp [putF],fun g h=>by simp at h⟩
 | (k,x)::r=>by
  obtain ⟨i1,i2⟩:=tE f v r;rw [show putF f v ((k,x)::r)=(if k=f then (k,v)::r else (k,x)::putF f v r) from rfl]
  by_cases hk:k=f
  .rw [if_pos hk];subst hk;exact ⟨by simp,fun g h=>by simpa using h⟩
  .rw [if_neg hk];refine ⟨?_,fun g h=>?_⟩
   .rw [K5];exact M3 _ i1
   .rw [K5] at h ⊢
    rcases E4.mp h with e | e
    .exact E4.mpr (.inl e)
    .exact M3 _ (i2 g e)
theorem tF(f:Str)(v:V):∀ fs:List (Str×V),(putF f v fs).length<=fs.length+1
 | []=>by simp [putF]
 | (k,x)::r=>by
  have ih:=tF f v r;rw [show putF f v ((k,x)::r)=(if k=f then (k,v)::r else (k,x)::putF f v r) from rfl]
  by_cases hk:k=f
  .rw [if_pos hk,G6,G6];lia
  .rw [if_neg hk,G6,G6];lia
theorem kW{v:V}{o:Option Value}(r:RelO (some v) o):∃ u,o=some u/\RelV v u:=by
 cases o with
 | none=>exact (show False from r).elim
 | some u=>exact ⟨u,rfl,r⟩
theorem RelO.none_of{o:Option Value}(r:RelO none o):o=none:=by
 cases o with
 | none=>rfl
 | some u=>exact (show False from r).elim
theorem ajl{v:V}{u:Value}(r:RelV v u):PySem.W.handedIn u=true:=by
 cases v with
 | non=>cases (show u=Value.none from r);rfl
 | bl b=>cases (show u=Value.bool b from r);rfl
 | int i=>obtain ⟨t,e⟩:=(show ∃ t,u=Value.int i t from r);cases e;rfl
 | str x=>obtain ⟨t,e⟩:=(show ∃ t,u=Value.str x t from r);cases e;rfl
 | byt b=>obtain ⟨t,e⟩:=(show ∃ t,u=Value.bytes b t from r);cases e;rfl
 | flt b=>obtain ⟨t,e⟩:=(show ∃ t,u=Value.float b t from r);cases e;rfl
 | ref a=>cases (show u=Value.ref a from r);rfl
 | ty n=>cases (show u=Value.type n from r);rfl
section
variable {P:Program} {w:World} {H H':Hp} {h h':Heap} {a C dx:Addr} {fs fs':List (Str×V)}
theorem oR(hok:L6 P w H h)(e:H a=some (.ins C dx fs)):∃ mA,ObjM h a dx C mA/\(∀ f,RelO (fs.lookup f) (mA f))/\PySem.Within mA (fs.map (·.1))/\fs.length<=1000/\H dx=some (.own a):=by
 obtain ⟨d,z,ne,ob,mA,n,r,q⟩:=(show ObjOk P w H h a (.ins C dx fs) from hok a _ e)
 exact ⟨mA,⟨ob,n,ne⟩,r,q,z,d⟩
end
structure Cls(K:PySem.W.Frag)(C:Addr):Prop where
 pg:gW K C Str.empty=true
 hd:kO K C=true
 po:PySem.W.plainOver K C=true
 sa:M9 K (.ref C) "__setattr__"=some (some (.builtin "object.__setattr__"))
theorem Cls.get{K:PySem.W.Frag}{C:Addr}(c:Cls K C)(f:Str):gW K C f=true:=c.pg
noncomputable def NoAttr (K:PySem.W.Frag) (C:Addr) (f:Str):Prop:=M9 K (.ref C) f=some none
theorem NoAttr.taker{K:PySem.W.Frag}{C:Addr}{f:Str}(n:NoAttr K C f):PySem.W.takerIn K C f=some none:=by
 unfold PySem.W.takerIn;rw [show M9 K (.ref C) f=some none from n];rfl
structure Meth(K:PySem.W.Frag)(C:Addr)(m:Str)(f:Addr):Prop where
 at_:M9 K (.ref C) m=some (some (.ref f))
 fn:i5 K (.ref f)=true
 kp:Q4 K (.ref f)=true
section
variable {X:Cx} {pins:List (Addr×Obj)} {O:St} {H:Hp} {s:Shared} {a C dx:Addr} {fs:List (Str×V)} {f:Str} {v:V} {A:Around} {E:Value->Shared->Prop}
theorem ait{b:Bool}{Q:Value->Shared->Prop}(I:Inv X pins O H s)(e:H a=some (.ins C dx fs))(c:Cls X.K C)(n:NoAttr X.K C f)(l:fs.lookup f=some v)(h:∀ u s',Inv X pins O H s'->RelV v u->Q u s'):wpAny (model X.prog X.w) A (getAttr (.ref a) f b) Q E s:=by
 obtain ⟨mA,zy,r,_,_,_⟩:=oR I.hok e;obtain ⟨u,hu,ru⟩:=kW (v:=v) (o:=mA f) (by rw [<- l];exact r f);exact am5 I.kIn zy (c.get f) c.hd n hu (ajl ru) (h u _ (I.tok _) ru)
theorem aeX{m:Str}{g:Addr}{pl:Sem Bool}{Q:Value×List Value->Shared->Prop}(I:Inv X pins O H s)(e:H a=some (.ins C dx fs))(c:Cls X.K C)(k:Meth X.K C m g)(l:fs.lookup m=none)(h:Q (.ref g,[.ref a]) s):wpAny (model X.prog X.w) A (getMethod (.ref a) m pl) Q E s:=by
 obtain ⟨mA,zy,r,_,_,_⟩:=oR I.hok e;have hn:mA m=none:=RelO.none_of (by rw [<- l];exact r m);exact ak1 I.kIn zy (c.get m) k.at_ k.fn hn h
theorem aiu{y:V}{u:Value}{Q:Unit->Shared->Prop}(I:Inv X pins O H s)(e:H a=some (.ins C dx fs))(c:Cls X.K C)(n:NoAttr X.K C f)(hl:fs.length<1000)(ry:RelV y u)(h:∀ s',Inv X pins O (A0 H a (.ins C dx (putF f y fs))) s'->Q () s'):wpAny (model X.prog X.w) A (setAttr (.ref a) f u) Q E s:=by
 obtain ⟨mA,zy,r,wi,_,ho⟩:=oR I.hok e;have hz:(fs.map (·.1)).length<=sizeLine:=by rw [A4,sizeLine_eq];lia
 refine am6 I.kIn zy c.sa c.po n.taker c.hd wi hz fun h' O' sb=>h _ ?_
 have hd:∃ o,h'.get? dx=some o:=let ⟨o,_,_,e',_⟩:=O'.ns;⟨o,e'⟩
 refine I.write (x:=a) (e:=dx) (by rw [e];exact True.intro) (.inr ho) (fun b q hb z=>(sb.2 b hb).trans z) hd ?_;refine ⟨by rw [A3 zy.ne];exact ho,?_,zy.ne,O'.obj,_,O'.ns,fun g=>?_,fun g hg=>?_⟩
 .have:=tF f y fs;lia
 .show RelO ((putF f y fs).lookup g) (if g=f then some u else mA g);rw [L7]
  by_cases q:g=f
  .rw [if_pos q,if_pos q];exact ry
  .rw [if_neg q,if_neg q];exact r g
 .by_cases q:g=f
  .rw [q];exact (tE f y fs).1
  .refine (tE f y fs).2 g (wi g fun z=>hg ?_);show (if g=f then some u else mA g)=none;rw [if_neg q];exact z
theorem Inv.made(I:Inv X pins O H s):Inv X pins O (A0 (A0 H s.heap.objs.size (.own (s.heap.objs.size+1))) (s.heap.objs.size+1) (.ins C s.heap.objs.size []))
  { s with heap:=(s.heap.push aG).push (bV C s.heap.objs.size) }:=by
 have e1:(s.heap.push aG).get? s.heap.objs.size=some aG:=Heap.get?_push_size s.heap rfl;have e2:((s.heap.push aG).push (bV C s.heap.objs.size)).get? (s.heap.objs.size+1)=some (bV C s.heap.objs.size):=by
  have:=Heap.get?_push_size (s.heap.push aG) (o:=bV C s.heap.objs.size) rfl
  rwa [Heap.size_push] at this
 have e3:(s.heap.push aG).Ns s.heap.objs.size (fun _=>none):=⟨aG,#[],_,e1,rfl,(fun e he=>absurd he (by simp)),fun _=>rfl⟩
 have I1:=I.laid (a:=s.heap.objs.size) (o:=.own (s.heap.objs.size+1)) (h':=s.heap.push aG) (t':=s.toks) (fun b u q=>Heap.get?_push_of_some _ q) (B5 _) ⟨_,e1⟩;refine I1.laid (a:=s.heap.objs.size+1) (o:=.ins C s.heap.objs.size []) (t':=s.toks) (fun b u q=>Heap.get?_push_of_some _ q) (Nat.le_of_eq (Heap.size_push _ _)) ?_;have ne:s.heap.objs.size≠s.heap.objs.size+1:=I0 (Nat.lt_succ_self _);refine ⟨by rw [A3 ne,A2],F7 _,ne,e2,fun _=>none,(Heap.Ns1.of_empty e3).at fun o q=>Heap.get?_push_of_some _ q,fun _=>True.intro,fun y hy=>absurd rfl hy⟩
theorem am7{prog:Program}{w:World}{env:Env}{e:Expr}{f:Str}{pos:Pos}{s:Shared}{Q:Value->Shared->Prop}(hb:attributeBase e f env (eval e env)=eval e env)(h:wpAny (model prog w) A (eval e env) (fun o zu=>wpAny (model prog w) A (getAttr o f true) Q E zu) E s):wpAny (model prog w) A (eval (.Attribute e f pos) env) Q E s:=
 Attribute_any_ h (by rw [arm_eval_Attribute,hb])
end
noncomputable def tFld (K:PySem.W.Frag) (ta:TE) (f:Str):TE:=fun O H Q=>ta O H fun x H1=>∃ a C dx fs v,x=.ref a/\H1 a=some (.ins C dx fs)/\Cls K C/\NoAttr K C f/\fs.lookup f=some v/\Q v H1
noncomputable def sFld (K:PySem.W.Frag) (ta tv:TE) (f:Str):TS:=fun D O H=>tv O H fun y H1=>ta O H1 fun x H2=>∃ a C dx fs,x=.ref a/\H2 a=some (.ins C dx fs)/\Cls K C/\NoAttr K C f/\fs.length<1000/\
 D.nx O (A0 H2 a (.ins C dx (putF f y fs)))
noncomputable def InOp (X:Cx) (op:Operator) (rd:V->V->Hp->VK->Prop):Prop:=
 ∀ (pins:List (Addr×Obj)) (s:Shared) (O:St) (H:Hp) (x y:V) (u v:Value) (Q:VK),Inv X pins O H s->RelV x u->RelV y v->rd x y H Q->wpAny (model X.prog X.w) X.A (inplaceOp op u v) (EP X pins O Q) X.xe s
section
variable {X:Cx} {o e value:Expr} {f:Str} {pos pos' tpos:Pos} {ta tv:TE}
theorem aoV(he:PE X e ta)(hb:attributeBase e f X.env (eval e X.env)=eval e X.env):PE X (.Attribute e f pos) (tFld X.K ta f):=by
 intro pins s O H Q I h;refine am7 hb (B1 (he pins s O H _ I h) fun u s1 ⟨x,H1,I1,rx,a,C,dx,fs,v,ex,ea,c,n,l,q⟩=>?_);subst ex;obtain rfl:u=Value.ref a:=rx;exact ait I1 ea c n l fun u' s2 I2 ru=>⟨v,H1,I2,ru,q⟩
theorem aoW(ha:PE X o ta)(hv:PE X value tv)(hs:swapsWith value (some (.Attribute o f pos')) pos.line X.env=pure false):PS X (.Assign [.Attribute o f pos'] value pos) (sFld X.K ta tv f):=by
 intro pins s O H D I h;refine plainObj_wpAny_Assign_Attribute (B1 (hv pins s O H _ I h) fun u s1 ⟨y,H1,I1,ry,q⟩=>B1 (ha pins s1 O H1 _ I1 q) fun ov s2 ⟨x,H2,I2,rx,a,C,dx,fs,ex,ea,c,n,l,q2⟩=>?_) hs;subst ex;obtain rfl:ov=Value.ref a:=rx;exact aiu I2 ea c n l ry fun s3 I3=>⟨O,_,I3,q2⟩
noncomputable def rAdd:V->V->Hp->VK->Prop:=fun x y H Q=>∃ i j,x=.int i/\y=.int j/\Q (.int (i+j)) H
noncomputable def rSub:V->V->Hp->VK->Prop:=fun x y H Q=>∃ i j,x=.int i/\y=.int j/\Q (.int (i-j)) H
theorem aoX:InOp X .Add rAdd:=by
 rintro pins s O H x y u v Q I rx ry ⟨i,j,rfl,rfl,q⟩;obtain ⟨t,rfl⟩:=(show ∃ t,u=Value.int i t from rx)
 obtain ⟨t',rfl⟩:=(show ∃ t',v=Value.int j t' from ry)
 exact PyProof.Rows.iadd_int ⟨.int (i+j),H,I.tok _,⟨_,rfl⟩,q⟩
theorem aoY:InOp X .Sub rSub:=by
 rintro pins s O H x y u v Q I rx ry ⟨i,j,rfl,rfl,q⟩;obtain ⟨t,rfl⟩:=(show ∃ t,u=Value.int i t from rx)
 obtain ⟨t',rfl⟩:=(show ∃ t',v=Value.int j t' from ry)
 exact PyProof.Rows.isub_int ⟨.int (i-j),H,I.tok _,⟨_,rfl⟩,q⟩
end
section
variable {X:Cx} {pins:List (Addr×Obj)} {O:St} {H:Hp} {s:Shared} {A:Around} {E:Value->Shared->Prop} {Q:Value->Shared->Prop} {c:Value} {b:Bool}
inductive TyOf (K:PySem.W.Frag) (H:Hp):V->Value->Prop where
 | non:TyOf K H .non (.type "NoneType")
 | bl (x:Bool):TyOf K H (.bl x) (.type "bool")
 | int (i:Int):TyOf K H (.int i) (.type "int")
 | str (x:Str):TyOf K H (.str x) (.type "str")
 | flt (x:UInt64):TyOf K H (.flt x) (.type "float")
 | lst {a:Addr} {xs:List V} (e:H a=some (.lst xs)):TyOf K H (.ref a) (.type "list")
 | frz {a:Addr} {o:Obj} {xs:List V} (e:H a=some (.frz o (.lst xs))):TyOf K H (.ref a) (.type "list")
 | tup {a:Addr} {xs:List V} (e:H a=some (.tup xs)):TyOf K H (.ref a) (.type "tuple")
 | dK {a:Addr} {kvs:List (C1×V)} (e:H a=some (.dK kvs)):TyOf K H (.ref a) (.type "dict")
 | dT {a:Addr} {kvs:List (List C1×V)} (e:H a=some (.dT kvs)):TyOf K H (.ref a) (.type "dict")
 | ins {a C dx:Addr} {fs:List (Str×V)} (e:H a=some (.ins C dx fs)) (cl:Cls K C) (ha:M9 K (.ref C) "__class__"=some (some (.builtin "object.__class__")))
   (hn:PySem.W.specialIn K (.builtin "object.__class__") "__get__"=some (some (.builtin "getset_descriptor.__get__"))) (htk:PySem.W.takesIn K (.builtin "object.__class__")=some true)
   (hm:PySem.W.mroIn K C (.type "object")=some true):TyOf K H (.ref a) (.ref C)
theorem ajm{x:V}{u t:Value}(I:Inv X pins O H s)(rx:RelV x u)(ty:TyOf X.K H x t)(e:PySem.W.kitOne X.K t c=some b)(h:∀ tk,Q (.bool b) { s with toks:=tk }) :
  wpAny (model X.prog X.w) A (call (.builtin "isinstance") [u,c]) Q E s:=by
 cases ty with
 | non=>cases (show u=Value.none from rx);exact k6 PySem.W.kitx_none I.kIn True.intro e (fun z=>nomatch z) h
 | bl y=>cases (show u=Value.bool y from rx);exact k6 PySem.W.kitx_bool I.kIn True.intro e (fun z=>nomatch z) h
 | int i=>obtain ⟨t,q⟩:=(show ∃ t,u=Value.int i t from rx);cases q;exact k6 PySem.W.kitx_int I.kIn True.intro e (fun z=>nomatch z) h
 | str y=>obtain ⟨t,q⟩:=(show ∃ t,u=Value.str y t from rx);cases q;exact k6 PySem.W.kitx_str I.kIn True.intro e (fun z=>nomatch z) h
 | flt y=>obtain ⟨t,q⟩:=(show ∃ t,u=Value.float y t from rx);cases q;exact k6 PySem.W.kitx_float I.kIn True.intro e (fun z=>nomatch z) h
 | @lst a xs ea=>
  cases (show u=Value.ref a from rx)
  obtain ⟨_,_,n,_,h1⟩:=(show ObjOk X.prog X.w H s.heap a (.lst xs) from I.hok a _ ea)
  exact k6 PySem.W.kitx_list I.kIn ⟨_,h1,rfl⟩ e (fun z=>nomatch z) h
 | @frz a ob xs ea=>
  cases (show u=Value.ref a from rx)
  obtain ⟨_,_,_,n,_,h1⟩:=(show ObjOk X.prog X.w H s.heap a (.frz ob (.lst xs)) from I.hok a _ ea)
  exact k6 PySem.W.kitx_list I.kIn ⟨_,h1,rfl⟩ e (fun z=>nomatch z) h
 | @tup a xs ea=>
  cases (show u=Value.ref a from rx)
  obtain ⟨_,_,_,p⟩:=(show ObjOk X.prog X.w H s.heap a (.tup xs) from I.hok a _ ea)
  obtain ⟨o,h1,h2,_⟩:=p;exact k6 PySem.W.kitx_tuple I.kIn ⟨o,h1,h2⟩ e (fun z=>nomatch z) h
 | @dK a kvs ea=>
  cases (show u=Value.ref a from rx)
  obtain ⟨_,_,vs,_,p⟩:=(show ObjOk X.prog X.w H s.heap a (.dK kvs) from I.hok a _ ea)
  obtain ⟨o,es,ep,h1,h2,_⟩:=p;exact k6 PySem.W.kitx_dict I.kIn ⟨o,h1,h2.1⟩ e (fun z=>nomatch z) h
 | @dT a kvs ea=>
  cases (show u=Value.ref a from rx)
  obtain ⟨_,_,xs,_,o,es,ep,h1,h2,_⟩:=(show ObjOk X.prog X.w H s.heap a (.dT kvs) from I.hok a _ ea)
  exact k6 PySem.W.kitx_dict I.kIn ⟨o,h1,h2.1⟩ e (fun z=>nomatch z) h
 | @ins a C dx fs ea cl ha hn htk hm=>
  cases (show u=Value.ref a from rx)
  obtain ⟨mA,zy,_⟩:=oR I.hok ea;obtain ⟨od,J,_⟩:=zy.look;exact k6 (PySem.W.kitx_own (cl.get _) cl.hd ha hn htk hm) I.kIn J e (fun z=>nomatch z) h
end
end L2
namespace L2
open PySem PySem.Spec PyProof.Rows
structure Room(k:Nat)(A:Around):Prop where
 hd:A.handled=none
 dp:A.depth+3*k+5<recursionLimit
 un:A.units+16*k+200<cLine
 gd:A.guards=some []
theorem Room.mono{j k:Nat}{A:Around}(r:Room k A)(h:j<=k):Room j A:=⟨r.hd,by have:=r.dp;lia,by have:=r.un;lia,r.gd⟩
theorem Room.deeper{k:Nat}{A:Around}(r:Room (k+1) A)(env:Env):Room k (A.deeper env):=
 ⟨r.hd,by have:=r.dp;show A.depth+1+3*k+5<_;lia,by have:=r.un;show A.units+3+16*k+200<_;lia,r.gd⟩
theorem Room.in1{k:Nat}{A:Around}(r:Room (k+1) A):Room k A.in1:=
 ⟨r.hd,by have:=r.dp;show A.depth+3*k+5<_;lia,by have:=r.un;show A.units+1+16*k+200<_;lia,r.gd⟩
theorem aiv{A:Around}{C:Addr}{us:List Value}{kw:List (Str×Value)} : (A.under (.builtin "type.__call__" ⟨.ref C::us,kw⟩)).depth=A.depth+1:=by
 first | rfl | simp [Around.under,Code.weight,Code.isCreation,Code.isGuard,Code.isCaller,Code.frames,Code.isFrame,guardIds]
theorem aiw{A:Around}{C:Addr}{us:List Value}{kw:List (Str×Value)} : (A.under (.builtin "type.__call__" ⟨.ref C::us,kw⟩)).units=A.units+1:=by
 first | rfl | simp [Around.under,Code.cUnits,Code.frames,Code.isFrame]
theorem Room.make{k:Nat}{A:Around}(r:Room (k+1) A)(C:Addr)(us:List Value)(kw:List (Str×Value)):Room k (A.under (.builtin "type.__call__" ⟨.ref C::us,kw⟩)):=
 ⟨r.hd,by have:=r.dp;rw [aiv];lia,by have:=r.un;rw [aiw];lia,r.gd⟩
theorem Room.depth{k:Nat}{A:Around}(r:Room k A):A.depth<recursionLimit:=by have:=r.dp;lia
theorem Room.units{k:Nat}{A:Around}(r:Room k A):A.units+64<cLine:=by have:=r.un;lia
noncomputable def tNil:TA:=fun _ H Q=>Q [] H
noncomputable def tCons (ta:TE) (tr:TA):TA:=fun O H Q=>ta O H fun x H1=>tr O H1 fun xs H2=>Q (x::xs) H2
section
variable {X:Cx} {e:Expr} {es:List Expr} {te:TE} {t:TA} {pos:Pos}
theorem aoZ:PA X [] tNil:=fun _ _ _ _ H Q I h=>Calls.spliced_nil ⟨[],H,I,.nil,h⟩
theorem am8(ha:PE X e te)(hr:PA X es t)(hs:starEach (e::es) X.env=(false,eval e X.env)::starEach es X.env:=by rfl):PA X (e::es) (tCons te t):=by
 intro pos pins s O H Q I h;rw [hs];show wpAny _ _ (spliced ((false,eval e X.env)::backTo pos (starEach es X.env))) _ _ s;refine Calls.spliced_cons (B1 (ha pins s O H _ I h) fun u s1 ⟨x,H1,I1,r1,q1⟩=>?_);exact B1 (hr pos pins s1 O H1 _ I1 q1) fun us s2 ⟨xs,H2,I2,r2,q2⟩=>⟨x::xs,H2,I2,.cons r1 r2,q2⟩
noncomputable def tTup (t:TA):TE:=fun O H Q=>t O H fun xs H1=>xs.length<=sizeLine/\∀ p,H1 p=none->Q (.ref p) (A0 H1 p (.tup xs))
noncomputable def tLst (t:TA):TE:=fun O H Q=>t O H fun xs H1=>xs.length<=sizeLine/\∀ p,H1 p=none->Q (.ref p) (A0 H1 p (.lst xs))
theorem ao0{x1}(h:PA X es t):PE X (.Tuple es x1 pos) (tTup t):=by
 intro pins s O H Q I hq;refine wpAny_Tuple_spliced (B1 (h pos pins s O H _ I hq) fun us s1 ⟨xs,H1,I1,r,z,q⟩=>⟨by rw [<- r.length];exact z,?_⟩);have hf:H1 s1.heap.objs.size=none:=I1.hok.fresh (B5 _);refine ⟨.ref s1.heap.objs.size,A0 H1 s1.heap.objs.size (.tup xs),I1.laid (t':=s1.toks) (fun b u e=>Heap.get?_push_of_some _ e) (B5 _) ?_,rfl,q _ hf⟩;exact ⟨z,us,r,⟨_,Heap.get?_push_size _ rfl,rfl,_,rfl⟩⟩
theorem ao1(h:PA X es t):PE X (.List es pos) (tLst t):=by
 intro pins s O H Q I hq;refine wpAny_List_spliced (B1 (h pos pins s O H _ I hq) fun us s1 ⟨xs,H1,I1,r,z,q⟩=>⟨by rw [<- r.length];exact z,?_⟩);have hf:H1 s1.heap.objs.size=none:=I1.hok.fresh (B5 _);refine ⟨.ref s1.heap.objs.size,A0 H1 s1.heap.objs.size (.lst xs),I1.laid (t':=s1.toks) (fun b u e=>Heap.get?_push_of_some _ e) (B5 _) ?_,rfl,q _ hf⟩;exact ⟨z,us,0,r,Heap.get?_push_size _ rfl⟩
end
noncomputable abbrev Sp:=List V->Hp->VK->XK->Prop
noncomputable abbrev Z8:=List Env->Hp->Shared->XK->Value->Shared->Prop
structure Env0(P:Program)(w:World)(K:PySem.W.Frag)(mg:Str->Option Value)(base:Heap)(A:Around)(outer:List Env)(s:Shared)(H:Hp):Prop where
 frames:A.frames=some outer
 mod:Mod K mg base
 bs:∀ b o,base.get? b=some o->s.heap.get? b=some o/\H b=none
 bsz:base.objs.size<=s.heap.objs.size
 funs:s.heap.FunFrames base outer
 frf:∀ b∈k8 outer,H b=none
 hok:L6 P w H s.heap
 bare:AllBare s.gens
noncomputable def CE (outer:List Env) (P:Program) (w:World) (H:Hp) (s:Shared) (Q:VK) (u:Value) (s':Shared):Prop:=
 ∃ v H',s'.os=s.os/\AllBare s'.gens/\Un (k8 outer) [] H H' s.heap s'.heap/\L6 P w H' s'.heap/\RelV v u/\Q v H'
noncomputable def CR (CX:Z8) (outer:List Env) (P:Program) (w:World) (H:Hp) (s:Shared) (Q:VK) (E:XK) (r:Result) (s':Shared):Prop:=
 match r with
 | .ok (.ret u)=>CE outer P w H s Q u s'
 | .ok _=>False
 | .error e=>CX outer H s E e s'
structure FnOk(P:Program)(w:World)(K:PySem.W.Frag)(mg:Str->Option Value)(base:Heap)(CX:Z8)(k:Nat)(f:Addr)(fd:FuncData)(ps:List Str)(sp:Sp):Prop where
 len:∀ vs H Q E,sp vs H Q E->vs.length=ps.length
 run:∀ (A:Around) (outer:List Env) (s:Shared) (H:Hp) (args:Args) (us:List Value) (vs:List V) (Q:VK) (E:XK),Room k A->Env0 P w K mg base A outer s H->BindsTo s fd args (ps.zip us)->Vals vs us->sp vs H Q E->
  codeAny (model P w) A (.call (.ref f) args) (CR CX outer P w H s Q E) s
theorem Env0.make{P:Program}{w:World}{K:PySem.W.Frag}{mg:Str->Option Value}{base:Heap}{A:Around}{outer:List Env}{s:Shared}{H:Hp}(e:Env0 P w K mg base A outer s H)(C:Addr)(us:List Value)(kw:List (Str×Value)) :
  Env0 P w K mg base (A.under (.builtin "type.__call__" ⟨.ref C::us,kw⟩)) outer s H:=⟨by first | exact e.frames | (simpa [Around.under,Code.envs,Code.isFrame,pushEnvs] using e.frames),e.mod,e.bs,e.bsz,e.funs,e.frf,e.hok,e.bare⟩
section
variable {X:Cx} {pins:List (Addr×Obj)} {O:St} {H:Hp} {s s':Shared}
theorem Inv.env0(I:Inv X pins O H s):Env0 X.prog X.w X.K X.mg X.base X.A X.stack s H:=
 ⟨I.ok.frames,I.ok.mod,I.bs,K6 I.ok.bsz I.sz,I.stack,I.stkFree,I.hok,I.bare⟩
theorem Inv.after{Q:VK}{u:Value}(I:Inv X pins O H s)(h:CE X.stack X.prog X.w H s Q u s'):EP X pins O Q u s':=by
 obtain ⟨v,H',os,bare,un,hok,r,q⟩:=h;obtain ⟨hh,g,d,t,os'⟩:=s';obtain rfl:os'=s.os:=os;exact ⟨v,H',I.call (h':=hh) (g':=g) (d':=d) (t':=t) (ch:=[]) un hok bare (fun b z=>absurd z (by simp)),r,q⟩
end
noncomputable def tCall (sp:Sp) (dvs:List V) (E:XK) (t:TA):TE:=fun O H Q=>t O H fun vs H1=>sp (vs++dvs) H1 Q E
noncomputable def tMeth (C:Addr) (m:Str) (sp:Sp) (dvs:List V) (E:XK) (ta:TE) (t:TA):TE:=fun O H Q=>ta O H fun x H1=>∃ a dx fs,x=.ref a/\H1 a=some (.ins C dx fs)/\fs.lookup m=none/\
 t O H1 fun vs H2=>sp (x::(vs++dvs)) H2 Q E
noncomputable def tMake (C:Addr) (sp:Sp) (dvs:List V) (E:XK) (t:TA):TE:=fun O H Q=>t O H fun vs H1=>∀ x dx,H1 x=none->H1 dx=none->dx≠x->
 sp (.ref x::(vs++dvs)) (A0 (A0 H1 dx (.own x)) x (.ins C dx [])) (fun v H2=>v=.non/\Q (.ref x) H2) E
noncomputable def Binds (K:PySem.W.Frag) (fd:FuncData) (ps:List Str) (ds:List Value):Prop:=
 ∀ (s:Shared) (us:List Value),K.In s.heap->(us++ds).length=ps.length->BindsTo s fd ⟨us,[]⟩ (ps.zip (us++ds))
theorem Binds.all{K:PySem.W.Frag}{fd:FuncData}{ps:List Str}(h:∀ us:List Value,us.length=ps.length->bindArgs fd ⟨us,[]⟩=pure (ps.zip us)):Binds K fd ps []:=fun s us _ hl=>by
 rw [N3] at hl ⊢
 exact .of_eq (h us hl)
noncomputable def eA (CX:Z8) (X:Cx) (E:XK):Prop:=∀ (pins:List (Addr×Obj)) (O:St) (H:Hp) (s:Shared) (e:Value) (s':Shared),Inv X pins O H s->CX X.stack H s E e s'->X.xe e s'
section
variable {X:Cx} {CX:Z8} {k:Nat} {f C:Addr} {fd:FuncData} {ps:List Str} {sp:Sp} {dvs:List V} {ds:List Value} {E:XK} {x m:Str} {p pos apos:Pos} {e o:Expr} {es:List Expr} {ta:TE} {t:TA}
theorem tG{pins:List (Addr×Obj)}{O:St}{H:Hp}{s:Shared}{Q:VK}{us:List Value}{vs:List V}(F:FnOk X.prog X.w X.K X.mg X.base CX k f fd ps sp)(hr:Room k X.A)(hb:Binds X.K fd ps ds)(hd:Vals dvs ds)(hx:eA CX X E)(I:Inv X pins O H s)(r:Vals vs us)(h:sp (vs++dvs) H Q E):wpAny (model X.prog X.w) X.A (call (.ref f) us) (EP X pins O Q) X.xe s:=by
 have r2:Vals (vs++dvs) (us++ds):=r.append hd;have hl:(us++ds).length=ps.length:=by rw [<- r2.length];exact F.len _ _ _ _ h
 refine wpAny_call (codeAny_mono (F.run X.A X.stack s H ⟨us,[]⟩ (us++ds) (vs++dvs) Q E hr I.env0 (hb s us I.kIn hl) r2 h) fun r s' hq=>?_)
 cases r with
 | error e=>exact hx pins O H s e s' I hq
 | ok fl=>
  cases fl with
  | ret u=>exact I.after hq
  | next=>exact False.elim hq
  | brk=>exact False.elim hq
  | cont=>exact False.elim hq
theorem am9(F:FnOk X.prog X.w X.K X.mg X.base CX k f fd ps sp)(hr:Room k X.A)(hg:Gl X x)(hm:X.mg x=some (.ref f))(hk:Q4 X.K (.ref f)=true)(hb:Binds X.K fd ps ds)(hd:Vals dvs ds)(hx:eA CX X E)(ha:PA X (e::es) t)(Q9:(x==("__debug__" : Str))=false:=by decide)(he:starEach (e::es) X.env=(false,eval e X.env)::starEach es X.env:=by rfl)(O0:(backTo pos (starEach es X.env)).any (·.1)=false:=by rfl) :
  PE X (.Call (.Name x p) (e::es) [] pos) (tCall sp dvs E t):=by
 intro pins s O H Q I h;refine wpAny_Call_Name_kw (sQ I hg hm ?_ Q9);refine PySem.W.callWith_K (h₀:=X.base) I.ok.mod.kin hk (B1 (ha pos pins s O H _ I h) fun us s1 ⟨vs,H1,I1,r,q⟩=>⟨I1.kIn,?_⟩) he O0;exact tG F hr hb hd hx I1 r q
theorem ana{pl:Sem Bool}(he:PE X o ta)(c:Cls X.K C)(hm:Meth X.K C m f)(F:FnOk X.prog X.w X.K X.mg X.base CX k f fd ps sp)(hr:Room k X.A)(hb:Binds X.K fd ps ds)(hd:Vals dvs ds)(hx:eA CX X E)(ha:PA X (e::es) t)(X2:starEach (e::es) X.env=(false,eval e X.env)::starEach es X.env:=by rfl)(O0:(backTo pos (starEach es X.env)).any (·.1)=false:=by rfl)(ht:eval (.Call (.Attribute o m apos) (e::es) [] pos) X.env=(do
   let ov <- eval o X.env
   standAt apos.atName
   let (f,first) <- holding [ov] (getMethod ov m pl)
   callWith pos f first (backTo pos (starEach (e::es) X.env)) (backToKw pos (keywordEach [] X.env))):=by rfl) :
  PE X (.Call (.Attribute o m apos) (e::es) [] pos) (tMeth C m sp dvs E ta t):=by
 intro pins s O H Q I h;refine PySem.W.methodCall_KW (pl:=pl) (B1 (he pins s O H _ I h) fun u s1 ⟨x,H1,I1,rx,a,dx,fs,ex,ea,l,q⟩=>?_) ht;subst ex;obtain rfl:u=Value.ref a:=rx;refine aeX I1 ea c hm l ?_;refine PySem.W.callWith_K (first:=[.ref a]) (h₀:=X.base) I.ok.mod.kin hm.kp (B1 (ha pos pins s1 O H1 _ I1 q) fun us s2 ⟨vs,H2,I2,r,q2⟩=>⟨I2.kIn,?_⟩) X2 O0;exact tG (us:=.ref a::us) (vs:=.ref a::vs) F hr hb hd hx I2 (.cons rfl r) q2
theorem ak3{pl:Sem Bool}(he:PE X o ta)(c:Cls X.K C)(hm:Meth X.K C m f)(F:FnOk X.prog X.w X.K X.mg X.base CX k f fd ps sp)(hr:Room k X.A)(hb:Binds X.K fd ps ds)(hd:Vals dvs ds)(hx:eA CX X E)(ht:eval (.Call (.Attribute o m apos) [] [] pos) X.env=(do
   let ov <- eval o X.env
   standAt apos.atName
   let (f,first) <- holding [ov] (getMethod ov m pl)
   callWith pos f first (backTo pos (starEach [] X.env)) (backToKw pos (keywordEach [] X.env))):=by rfl) :
  PE X (.Call (.Attribute o m apos) [] [] pos) (tMeth C m sp dvs E ta tNil):=by
 intro pins s O H Q I h;refine PySem.W.methodCall_KW (pl:=pl) (B1 (he pins s O H _ I h) fun u s1 ⟨x,H1,I1,rx,a,dx,fs,ex,ea,l,q⟩=>?_) ht;subst ex;obtain rfl:u=Value.ref a:=rx;refine aeX I1 ea c hm l ?_;exact PySem.W.callWith_K0 (first:=[.ref a]) I1.kIn hm.kp (tG (us:=[.ref a]) (vs:=[.ref a]) F hr hb hd hx I1 (.cons rfl .nil) q)
structure Mk(K:PySem.W.Frag)(C f:Addr):Prop where
 makes:PySem.W.makesIn K C=true
 init:M9 K (.ref C) "__init__"=some (some (.ref f))
 fn:i5 K (.ref f)=true
 kp:Q4 K (.ref C)=true
theorem ak4{pins:List (Addr×Obj)}{O:St}{H:Hp}{s:Shared}{Q:VK}{us:List Value}{vs:List V}(M:Mk X.K C f)(F:FnOk X.prog X.w X.K X.mg X.base CX k f fd ps sp)(hr:Room (k+1) X.A)(hb:Binds X.K fd ps ds)(hd:Vals dvs ds)(hx:eA CX X E)(I:Inv X pins O H s)(r:Vals vs us)(h:∀ x dx,H x=none->H dx=none->dx≠x->sp (.ref x::(vs++dvs)) (A0 (A0 H dx (.own x)) x (.ins C dx [])) (fun v H2=>v=.non/\Q (.ref x) H2) E) :
  wpAny (model X.prog X.w) X.A (call (.ref C) us) (EP X pins O Q) X.xe s:=by
 have hq:=h (s.heap.objs.size+1) s.heap.objs.size (I.hok.fresh (Nat.le_succ _)) (I.hok.fresh (B5 _)) (I0 (Nat.lt_succ_self _));have I2:=Inv.made (C:=C) I;have r2:Vals (V.ref (s.heap.objs.size+1)::(vs++dvs)) (Value.ref (s.heap.objs.size+1)::(us++ds)):=.cons rfl (r.append hd);have hl:(Value.ref (s.heap.objs.size+1)::us++ds).length=ps.length:=by
  have e:=r2.length;rw [F.len _ _ _ _ hq] at e;exact e.symm
 refine wpAny_call (ak2 (f:=f) I.kIn M.makes M.init (beq_iff_eq.mp M.fn) (codeAny_mono (F.run _ X.stack _ _ ⟨Value.ref (s.heap.objs.size+1)::us,[]⟩ (Value.ref (s.heap.objs.size+1)::(us++ds)) _ _ E (hr.make C us [])
  (I2.env0.make C us []) (hb _ (Value.ref (s.heap.objs.size+1)::us) I2.kIn hl) r2 hq) fun r s' aW=>?_))
 cases r with
 | error e=>exact hx pins O _ _ e s' I2 aW
 | ok fl=>
  cases fl with
  | ret u=>
   obtain ⟨v,H',I3,rv,ev,q3⟩:=I2.after aW;subst ev;exact ⟨rv,⟨V.ref (s.heap.objs.size+1),H',I3,rfl,q3⟩⟩
  | next=>exact False.elim aW
  | brk=>exact False.elim aW
  | cont=>exact False.elim aW
theorem anb(M:Mk X.K C f)(F:FnOk X.prog X.w X.K X.mg X.base CX k f fd ps sp)(hr:Room (k+1) X.A)(hg:Gl X x)(hm:X.mg x=some (.ref C))(hb:Binds X.K fd ps ds)(hd:Vals dvs ds)(hx:eA CX X E)(ha:PA X (e::es) t)(Q9:(x==("__debug__" : Str))=false:=by decide)(he:starEach (e::es) X.env=(false,eval e X.env)::starEach es X.env:=by rfl)(O0:(backTo pos (starEach es X.env)).any (·.1)=false:=by rfl) :
  PE X (.Call (.Name x p) (e::es) [] pos) (tMake C sp dvs E t):=by
 intro pins s O H Q I h;refine wpAny_Call_Name_kw (sQ I hg hm ?_ Q9);refine PySem.W.callWith_K (h₀:=X.base) I.ok.mod.kin M.kp (B1 (ha pos pins s O H _ I h) fun us s1 ⟨vs,H1,I1,r,q⟩=>⟨I1.kIn,?_⟩) he O0;exact ak4 M F hr hb hd hx I1 r q
end
noncomputable def PK (X:Cx) (kws:List Keyword) (t:TA):Prop:=
 ∀ (pos:Pos) (pins:List (Addr×Obj)) (s:Shared) (O:St) (H:Hp) (Q:List V->Hp->Prop),Inv X pins O H s->t O H Q->wpAny (model X.prog X.w) X.A (evalAll ((backToKw pos (keywordEach kws X.env)).map (·.2))) (AP X pins O Q) X.xe s
section
variable {X:Cx} {CX:Z8} {k:Nat} {f C:Addr} {fd:FuncData} {ps ks:List Str} {sp:Sp} {E:XK} {x m:Str} {p pos apos kpos:Pos} {e o:Expr} {es:List Expr} {kws:List Keyword} {te ta:TE} {t tk:TA} {nm:Option Str}
theorem ao2:PK X [] tNil:=fun _ _ _ _ H Q I h=>wpAny_evalAll_nil ⟨[],H,I,.nil,h⟩
theorem anc(ha:PE X e te)(hr:PK X kws t):PK X (⟨nm,e,kpos⟩::kws) (tCons te t):=by
 intro pos pins s O H Q I h;show wpAny _ _ (evalAll ((do let v <- eval e X.env;standAt pos;pure v)::(backToKw pos (keywordEach kws X.env)).map (·.2))) _ _ s;refine wpAny_evalAll_cons (wpAny_bind (B1 (ha pins s O H _ I h) fun u s1 ⟨x,H1,I1,r1,q1⟩=>wpAny_bind (wpAny_standAt (wpAny_pure ?_))));exact B1 (hr pos pins s1 O H1 _ I1 q1) fun us s2 ⟨xs,H2,I2,r2,q2⟩=>⟨x::xs,H2,I2,.cons r1 r2,q2⟩
variable {g:List Value->List Value->List Value} {gV:List V->List V->List V}
end
structure FnScope(N P:List Str)(sc:Scope):Prop where
 kind:sc.kind=.function
 co:sc.isCoroutine=false
 gen:sc.isGenerator=false
 nd:N.Nodup
 pre:N.take P.length=P
 par:∀ x∈P,sc.names.lookup x=some .local\/sc.names.lookup x=some .cell
 nofree:∀ y∈sc.names,y.2≠.free
theorem af4{kindOf:Str->Option NameKind}{x:Str} : ∀ {binds:List (Str×Value)} {m:Str->Option Value},(∀ v,(x,v)∉binds)->bindL kindOf binds m x=m x
 | [],_,_=>rfl
 | (n,v)::r,m,h=>by
  unfold bindL;rw [af4 fun w hw=>h w (M3 _ hw)]
  split
  .have:x≠n:=by rintro rfl;exact h v L5
   simp [this]
  .rfl
theorem af5{kindOf:Str->Option NameKind}{x:Str} : ∀ {binds:List (Str×Value)} {m:Str->Option Value},(∀ v,(x,v)∉binds)->bindC kindOf binds m x=m x
 | [],_,_=>rfl
 | (n,v)::r,m,h=>by
  unfold bindC;rw [af5 fun w hw=>h w (M3 _ hw)]
  split
  .rfl
  .have:x≠n:=by rintro rfl;exact h v L5
   simp [this]
theorem af6{kindOf:Str->Option NameKind}{x:Str}{v:Value} : ∀ {P:List Str} {vs:List Value} {i:Nat} {m:Str->Option Value},P.Nodup->P[i]?=some x->vs[i]?=some v->kindOf x=some .local->
  bindL kindOf (P.zip vs) m x=some v
 | [],_,_,_,_,h,_,_=>by simp at h
 | _::_,[],_,_,_,_,h,_=>by simp at h
 | p::P,w::vs,0,m,nd,h1,h2,hk=>by
  simp at h1 h2;subst h1;subst h2;show bindL kindOf ((p,w)::P.zip vs) m p=_;unfold bindL;rw [af4 fun v hv=>(V2.mp nd).1 (List.of_mem_zip hv).1,if_pos hk]
  simp
 | p::P,w::vs,i+1,m,nd,h1,h2,hk=>by
  show bindL kindOf ((p,w)::P.zip vs) m x=_;unfold bindL;exact af6 (i:=i) (V2.mp nd).2 (by simpa using h1) (by simpa using h2) hk
theorem af7{kindOf:Str->Option NameKind}{x:Str}{v:Value} : ∀ {P:List Str} {vs:List Value} {i:Nat} {m:Str->Option Value},P.Nodup->P[i]?=some x->vs[i]?=some v->kindOf x≠some .local->
  bindC kindOf (P.zip vs) m x=some v
 | [],_,_,_,_,h,_,_=>by simp at h
 | _::_,[],_,_,_,_,h,_=>by simp at h
 | p::P,w::vs,0,m,nd,h1,h2,hk=>by
  simp at h1 h2;subst h1;subst h2;show bindC kindOf ((p,w)::P.zip vs) m p=_;unfold bindC;rw [af5 fun v hv=>(V2.mp nd).1 (List.of_mem_zip hv).1,if_neg hk]
  simp
 | p::P,w::vs,i+1,m,nd,h1,h2,hk=>by
  show bindC kindOf ((p,w)::P.zip vs) m x=_;unfold bindC;exact af7 (i:=i) (V2.mp nd).2 (by simpa using h1) (by simpa using h2) hk
noncomputable def start (N:List Str) (vs:List V):St:=vs.map some++W1 (N.length-vs.length) none
noncomputable def cxOf (CX:Z8) (P:Program) (w:World) (K:PySem.W.Frag) (mg:Str->Option Value) (base:Heap) (N:List Str) (qual:Str) (scope:Scope) (f:Addr) (cd:Value) (A:Around) (outer:List Env) (s:Shared) (H:Hp) (E:XK):Cx where
 prog:=P
 w:=w
 K:=K
 mg:=mg
 base:=base
 A:=A.deeper (envOfC qual scope s.heap.objs.size f cd)
 N:=N
 s₀:=s
 H₀:=H
 env:=envOfC qual scope s.heap.objs.size f cd
 outer:=outer
 stack:=envOfC qual scope s.heap.objs.size f cd::outer
 ex:=[]
 calm:=true
 fn:=fun _=>true
 pn:=[]
 xe:=fun e s'=>wpAny (model P w) (A.deeper (envOfC qual scope s.heap.objs.size f cd)) (leaving (envOfC qual scope s.heap.objs.size f cd) e) (fun _ s''=>CX outer H s E e s'') (fun e' s''=>CX outer H s E e' s'') s'
theorem ahL{sc:Scope}{n:Nat}{x:Str}(h:sc.names.lookup x=some .cell):∃ c,(cellsFrom n sc.names []).lookup x=some c:=by
 have q:=PySem.W.cellsFrom_some sc.names n [] (.inl h);exact Option.isSome_iff_exists.mp q
theorem ajo{CX:Z8}{P:Program}{w:World}{K:PySem.W.Frag}{mg:Str->Option Value}{base:Heap}{N ps:List Str}{qual:Str}{scope:Scope}{f:Addr}{cd:Value}{A:Around}{outer:List Env}{s s1:Shared}{H:Hp}{E:XK}{us:List Value}{vs:List V}(S:FnScope N ps scope)(hd:A.handled=none)(e0:Env0 P w K mg base A outer s H)(hl:vs.length=ps.length)(r:Vals vs us)(x:InCallC s s.heap.objs.size (bindL (envOfC qual scope s.heap.objs.size f cd).kindOf (ps.zip us) fun _=>none) (cellsFrom (s.heap.objs.size+1) scope.names []) (bindC (envOfC qual scope s.heap.objs.size f cd).kindOf (ps.zip us) fun _=>none) s1) :
  Inv (cxOf CX P w K mg base N qual scope f cd A outer s H E) [] (start N vs) H s1:=by
 have O0:ps.length<=N.length:=by have:=congrArg i0 S.pre;rw [L0] at this;lia
 obtain ⟨h1,tk,rfl,hk⟩:=x.done;have noA:∀ b:Addr,b∉(cxOf CX P w K mg base N qual scope f cd A outer s H E).ex:=fun b z=>absurd (show b∈([]:List Addr) from z) (by simp)
 refine ⟨⟨e0.mod,S.kind,rfl,rfl,B5 _,fun y z c h1 h2=>?_,fun y hy=>?_,fun y c _ h=>?_,fun _=>hd,Around.frames_deeper e0.frames,.inr ⟨rfl,rfl⟩,fun b z=>absurd z (noA b),e0.bs,e0.bsz,fun b _ _=>noA b,fun b z=>absurd z (noA b),e0.funs,e0.frf⟩,
  rfl,e0.bare,Un.kept hk,⟨_,x.toInCall.ns,fun i y v h1 h2 h3=>?_⟩,fun y c h=>⟨_,x.cell y c h⟩,e0.hok.fresh (B5 _),fun y c h=>?_,fun p hp=>absurd (show p∈([]:List (Addr×Obj)) from hp) (by simp),e0.hok.kept hk,?_⟩
 .exact name_of_addr x.apart (PySem.mem_of_lookup h1) (PySem.mem_of_lookup h2)
 .have hy:scope.names.lookup y=some .cell\/scope.names.lookup y=some .free:=hy
  rcases hy with hy | hy
  .exact ahL hy
  .exact absurd rfl (S.nofree _ (PySem.mem_of_lookup hy))
 .exact dW (x.above y c (PySem.mem_of_lookup h))
 .have hi:i<vs.length:=by
   unfold start at h2
   by_cases hi:i<vs.length
   .exact hi
   .rw [kG (by simpa using hi)] at h2;rw [List.getElem?_replicate] at h2
    split at h2 <;> cases h2
  have ha:vs[i]?=some v:=by
   unfold start at h2;rw [oE (by simpa using hi),O1] at h2;cases e:vs[i]? with
   | none=>rw [e] at h2;cases h2
   | some a=>rw [e] at h2;cases h2;rfl
  obtain ⟨u,hu,rv⟩:=r.get ha;have hp:ps[i]?=some y:=by
   rw [<- S.pre,List.getElem?_take_of_lt (by lia)];exact h1
  have ndP:ps.Nodup:=by rw [<- S.pre];exact S.nd.sublist (List.take_sublist _ _)
  refine ⟨u,rv,?_⟩
  rcases S.par y (K4 hp) with k | k
  .exact .inl ⟨k,af6 ndP hp hu k⟩
  .obtain ⟨c,e⟩:=ahL (n:=s.heap.objs.size+1) k;refine .inr ⟨.inl k,c,e,?_⟩;have q:=x.cell y c e;rw [af7 ndP hp hu (by show scope.names.lookup y≠_;rw [k];decide)] at q;exact q
 .exact e0.hok.fresh (dW (x.above y c (PySem.mem_of_lookup h)))
 .unfold start;show _=N.length;rw [C8,A4,List.length_replicate];lia
theorem fn_of{CX:Z8}{P:Program}{w:World}{K:PySem.W.Frag}{mg:Str->Option Value}{base:Heap}{k:Nat}{f:Addr}{name qual:Str}{params:Arguments}{body:List Stmt}{scope:Scope}{dV kV doc pm cdv ct oc:Value}{an od:Option Addr}{osl:Array (Option Value)}{N ps:List Str}{sp:Sp}(lk:K.lookup f=some ⟨oc,od,.func (P3 name qual params body scope dV kV doc pm an cdv ct),osl⟩)(P7:T0 K cdv qual=true)(S:FnScope N ps scope)(len:∀ vs H Q E,sp vs H Q E->vs.length=ps.length)(V5:∀ (A:Around) (outer:List Env) (s:Shared) (H:Hp) (vs:List V) (Q:VK) (E:XK),Room k (A.deeper (envOfC qual scope s.heap.objs.size f cdv))->sp vs H Q E->
   ∃ t,W2 (cxOf CX P w K mg base N qual scope f cdv A outer s H E) body t/\t { nx:=fun _ H'=>Q .non H',rt:=Q } (start N vs) H) :
  FnOk P w K mg base CX (k+1) f (P3 name qual params body scope dV kV doc pm an cdv ct) ps sp:=by
 refine ⟨len,fun A outer s H args us vs Q E hr e0 hb r x9=>?_⟩;have hl:=len _ _ _ _ x9;have KX:K.In s.heap:=e0.mod.kin.keeps fun b o e=>(e0.bs b o e).1
 have lim:s.heap.NoLimit:=e0.mod.nolimit.keeps fun b o e=>(e0.bs b o e).1
 have mJ:∀ y∈ps.zip us,scope.names.lookup y.1=some .local\/(scope.names.lookup y.1=some .cell/\((cellsFrom (s.heap.objs.size+1) scope.names []).lookup y.1).isSome=true):=fun ⟨n,v⟩ hy=>by
  rcases S.par n (List.of_mem_zip hy).1 with q | q
  .exact .inl q
  .exact .inr ⟨q,PySem.W.cellsFrom_some _ _ _ (.inl q)⟩
 refine codeAny_call_function hr.depth (KX _ _ lk) rfl S.co S.gen rfl (PySem.W.codeRec_of KX P7) (hb _ _ _ _ ?_);refine wpAny_newFunctionEnv_cells S.kind mJ fun env he s1 x=>?_
 subst he;refine ⟨lim.keeps x.toInCall.keep,codeAny_func ?_⟩;obtain ⟨t,ht,hq⟩:=V5 A outer s H vs Q E (hr.deeper _) x9;have I:Inv (cxOf CX P w K mg base N qual scope f cdv A outer s H E) [] (start N vs) H s1:=ajo S hr.hd e0 hl r x;refine wpAny_mono (ht [] s1 (start N vs) H _ I hq) (fun fl s' hs=>?_) fun e s' hs=>hs
 have fin:∀ {σ':St} {H':Hp} {v:V} {u:Value},Inv (cxOf CX P w K mg base N qual scope f cdv A outer s H E) [] σ' H' s'->RelV v u->Q v H'->CE outer P w H s Q u s':=
  fun {σ' H' v u} J rv q=>⟨v,H',J.os,J.bare,J.base,J.hok,rv,q⟩
 cases fl with
 | ret u=>
  obtain ⟨v,σ',H',J,rv,q⟩:=hs;exact fin J rv q
 | next=>
  obtain ⟨σ',H',J,q⟩:=hs;exact fin (v:=V.non) (u:=Value.none) J rfl q
 | brk=>
  obtain ⟨_,_,_,q⟩:=hs;exact False.elim q
 | cont=>
  obtain ⟨_,_,_,q⟩:=hs;exact False.elim q
end L2
section
variable {C C2 a b c0 cl_Shelf_texts ds f fa it kS p pt_Shelf_texts r sl th:PySem.Addr}{dvs vs xs ys:List L2.V}{Q:L2.VK}{cd ct ctv oc pm u v vl vu:PySem.Value}{ck e1 i j k m n n' t' x1:Nat}{items items2:Array PySem.Value}{cs fr ns:List Int}{its its' its2 us:List PySem.Value}{pins:List (PySem.Addr×PySem.Obj)}{O:L2.St}{H H' H0 H1 H2 H3 H5 zt:L2.Hp}{s zw:PySem.Shared}{A:PySem.Around}{name o q qn qual x y z:PySem.Str}{h h':PySem.Heap}{L M N N' S acc bad g' ks ks' line loose ls ms ps ts zs:List PySem.Str}{X:L2.Cx}{K:PySem.W.Frag}{kvs:List (L2.C1×L2.V)}{prog:PySem.Program}{E:PySem.Value->PySem.Shared->Prop}{ixs pre:List Nat}{c:L2.TT}{body e elt iter target tg:PySem.Expr}{elts ifs:List PySem.Expr}{g:L2.TG}{tc td te ti tl to tx ty:L2.TE}{fp rs:List PySem.Addr}{apos cpos kpos lpos p2 spos tpos:PySem.Pos}{b1 b2 b3 calm fg neg:Bool}{st:PySem.Stmt}{fd:PySem.FuncData}{sp:L2.Sp}{an od:Option PySem.Addr}{tb:L2.TS}{D:L2.Ends}{lo:Int}{mg:PySem.Str->Option PySem.Value}{ta:L2.TA}{ss:Array (Option PySem.Value)}{ob:PySem.Obj}
namespace L2
open PySem PySem.Spec PyProof.Rows
section
variable {X:Cx} {x:Str} {p pos:Pos} {e:Expr} {es:List Expr} {t:TA} {id T:String} {r:List V->Hp->VK->Prop}
noncomputable def eB (r:List V->Hp->VK->Prop) (t:TA):TE:=fun O H Q=>t O H fun vs H1=>r vs H1 Q
theorem ak5(hc:CallR X (.builtin id) r)(hg:Gl X x)(hm:X.mg x=none)(hv:bootBuiltins x=some (.builtin id))(ha:PA X (e::es) t)(hn:x≠"__name__":=by decide)(Q9:(x==("__debug__" : Str))=false:=by decide)(he:starEach (e::es) X.env=(false,eval e X.env)::starEach es X.env:=by rfl)(O0:(backTo pos (starEach es X.env)).any (·.1)=false:=by rfl):PE X (.Call (.Name x p) (e::es) [] pos) (eB r t):=by
 intro pins s O H Q I h;refine wpAny_Call_Name_kw (bX I hg hm hv ?_ hn Q9);exact PyProof.Rows.callWith_builtin1 (B1 (ha pos pins s O H _ I h) fun us s1 ⟨vs,H1,I1,r1,q1⟩=>hc pins s1 O H1 vs us Q I1 r1 q1) he O0
theorem ajp(hc:CallR X (.type T) r)(hg:Gl X x)(hm:X.mg x=none)(hv:bootBuiltins x=some (.type T))(ha:PA X (e::es) t)(hn:x≠"__name__":=by decide)(Q9:(x==("__debug__" : Str))=false:=by decide)(he:starEach (e::es) X.env=(false,eval e X.env)::starEach es X.env:=by rfl)(O0:(backTo pos (starEach es X.env)).any (·.1)=false:=by rfl):PE X (.Call (.Name x p) (e::es) [] pos) (eB r t):=by
 intro pins s O H Q I h;refine wpAny_Call_Name_kw (bX I hg hm hv ?_ hn Q9);exact PyProof.Rows.callWith_type1 (B1 (ha pos pins s O H _ I h) fun us s1 ⟨vs,H1,I1,r1,q1⟩=>hc pins s1 O H1 vs us Q I1 r1 q1) he O0
end
end L2
namespace HT
open PySem PyProof.Rows
section
open PySem.SeqAt
open PySem.AutoSeq1 (wpAny_loadPart')
open PySem.MeetsSeq PySem.MeetsSeq2 PySem.MeetsSeq3
end
section
variable {prog:Program} {w:World} {A:Around} {E:Value->Shared->Prop} {s:Shared}
theorem cat_tup{t:Addr}{vs ws:List Value}{Q:Value->Shared->Prop}(ht:IsTup s.heap t vs.toArray)(hb:IsTup s.heap b ws.toArray)(hv:vs≠[])(h1:ws=[]->Q (.ref t) s)(h2:ws≠[]->Q (.ref s.heap.objs.size) { s with heap:=s.heap.push { cls:=.type "tuple",data:=.seq (vs++ws).toArray } })(hsz:vs.length+ws.length<=sizeLine):wpAny (model prog w) A (binaryOp .Add (.ref t) (.ref b)) Q E s:=by
 obtain ⟨⟨cls,dd,data,sl⟩,ho,hc,n,hd⟩:=id ht;obtain ⟨⟨cls2,X3,data2,W3⟩,j7,P8,n2,Q3⟩:=id hb;simp only at hc hd P8 Q3;subst hc hd P8 Q3;have e:vs.toArray++ws.toArray=(vs++ws).toArray:=by simp
 by_cases hw:ws=[]
 .exact concat_meets ⟨_,ho,rfl⟩ ⟨_,j7,rfl⟩ noFill_tuple_add seq_tuple_add PySem.F.slot_tuple_add PySem.F.entry_tuple_add (PySem.F.args_tuple_add_2 _ _)
   (tuple_addW1 t b vs.toArray ws.toArray n n2 dd X3 sl W3 (by simpa using hv) (by simp [hw])) ⟨ho,j7,h1 hw⟩
 .refine concat_meets ⟨_,ho,rfl⟩ ⟨_,j7,rfl⟩ noFill_tuple_add seq_tuple_add PySem.F.slot_tuple_add PySem.F.entry_tuple_add (PySem.F.args_tuple_add_2 _ _)
   (tuple_addW2 t b vs.toArray ws.toArray n n2 dd X3 sl W3 (by simpa using hv) (by simpa using hw) (by rw [E7,E7];exact hsz)) ⟨ho,j7,?_⟩
  rw [e];exact h2 hw
noncomputable def sIx (n d:Nat):Option Int->Nat
 | none=>d
 | some v=>if v<0 then (v+(n:Int)).toNat else min v.toNat n
theorem sIx_nat(n d k:Nat):sIx n d (some (k:Int))=min k n:=by
 show (if (k:Int)<0 then ((k:Int)+(n:Int)).toNat else min (k:Int).toNat n)=min k n;rw [if_neg (by lia),Int.toNat_natCast]
theorem sIx_le(n d:Nat)(hd:d<=n)(o:Option Int):sIx n d o<=n:=by
 cases o with
 | none=>exact hd
 | some v=>
  show (if v<0 then (v+(n:Int)).toNat else min v.toNat n)<=n
  by_cases hv:v<0
  .rw [if_pos hv];lia
  .rw [if_neg hv];exact Nat.min_le_right _ _
theorem clip_eq(v:Int)(n d:Nat):(if v<0 then max (v+(n:Int)) 0 else min v (n:Int))=((sIx n d (some v):Nat):Int):=by
 show (if v<0 then max (v+(n:Int)) 0 else min v (n:Int))=(((if v<0 then (v+(n:Int)).toNat else min v.toNat n):Nat):Int)
 by_cases hv:v<0
 .simp only [if_pos hv];lia
 .simp only [if_neg hv];lia
theorem aix(lo hi:Option Int)(n:Nat):Builtin.Slice.sliceAdjust lo hi 1 (n:Int)=(((sIx n 0 lo:Nat):Int),((sIx n n hi:Nat):Int)):=by
 have h1:¬ ((1:Int)<0):=by lia
 unfold Builtin.Slice.sliceAdjust;simp only [h1,if_false];refine Prod.ext ?_ ?_
 .cases lo with
  | none=>rfl
  | some v=>exact clip_eq v n 0
 .cases hi with
  | none=>rfl
  | some v=>exact clip_eq v n n
theorem aiy(i j:Nat):Builtin.Slice.slicePlaces (i:Int) (j:Int) 1=j-i:=by
 unfold Builtin.Slice.slicePlaces;have h1:(1:Int) > 0:=by lia
 simp only [h1,if_true,Int.ediv_one]
 split <;> lia
theorem aeY{o:Option Int}{Q:Option Int->Shared->Prop}(p:IsPart v o)(h:Q o s):wpAny (model prog w) A (Builtin.Slice.slicePartIndex v) Q E s:=by
 cases p with
 | none=>exact slicePart_none h
 | int i t=>exact slicePart_int h
theorem sliceApplied_gen{lo hi:Option Int}{Q:Int×Int×Nat->Shared->Prop}(hs:s.heap.IsSliceOf sl vl vu .none)(pl:IsPart vl lo)(pu:IsPart vu hi)(h:Q (((sIx n 0 lo:Nat):Int),1,sIx n n hi-sIx n 0 lo) s):wpAny (model prog w) A (Builtin.Slice.sliceApplied (.ref sl) (pure (n:Int))) Q E s:=by
 obtain ⟨os,fA,rN,mK⟩:=id hs;unfold Builtin.Slice.sliceApplied Builtin.Slice.sliceFields;refine wpAny_bind (wpAny_bind (wpAny_field fA mK (x:=vl) rfl (wpAny_bind (wpAny_field fA mK (x:=vu) rfl (wpAny_bind (wpAny_field fA mK (x:=.none) rfl (wpAny_pure ?_)))))));refine wpAny_bind (slicePart_none ?_);show wpAny _ _ (if ((1:Int)==0)=true then _ else _) _ _ s;rw [if_neg (by decide)];refine wpAny_bind (aeY pl (wpAny_bind (aeY pu (wpAny_bind (wpAny_pure ?_)))));show wpAny _ _ (match Builtin.Slice.sliceAdjust lo hi 1 (n:Int) with | (lo,hi)=>pure (lo,(1:Int),Builtin.Slice.slicePlaces lo hi 1)) _ _ s;rw [aix lo hi n];show wpAny _ _ (pure (((sIx n 0 lo:Nat):Int),(1:Int),Builtin.Slice.slicePlaces ((sIx n 0 lo:Nat):Int) ((sIx n n hi:Nat):Int) 1)) _ _ s;rw [aiy];exact wpAny_pure h
theorem ak6(xs:Array Value)(i k:Nat):((P1 k).filterMap fun (m:Nat)=>xs[((i:Int)+(m:Int)*1).toNat]?).toArray=((xs.toList.drop i).take k).toArray:=by
 have e:(fun (m:Nat)=>xs[((i:Int)+(m:Int)*1).toNat]?)=fun m=>xs[i+m]?:=by
  funext m
  have:((i:Int)+(m:Int)*1).toNat=i+m:=by lia
  rw [this]
 rw [e]
 have:=pick_run xs i k
 rw [List.filterMap_map] at this;have e2:((fun x=>xs[x]?)∘fun x=>i+x)=fun m=>xs[i+m]?:=rfl
 rw [e2] at this;rw [this]
theorem getItem_tuple_cut{t:Addr}{lo hi:Option Int}{Q:Value->Shared->Prop}(ht:IsTup s.heap t items)(hs:s.heap.IsSliceOf sl vl vu .none)(pl:IsPart vl lo)(pu:IsPart vu hi)(hw:¬ (sIx items.size 0 lo=0/\sIx items.size items.size hi=items.size))(h:Q (.ref s.heap.objs.size) { s with heap:=s.heap.push { cls:=.type "tuple",data:=.seq ((items.toList.drop (sIx items.size 0 lo)).take (sIx items.size items.size hi-sIx items.size 0 lo)).toArray } })(hsz:items.size<=sizeLine):wpAny (model prog w) A (getItem (.ref t) (.ref sl)) Q E s:=by
 have Y5:sizeOk (.seq ((items.toList.drop (sIx items.size 0 lo)).take (sIx items.size items.size hi-sIx items.size 0 lo)).toArray):=by
  show ((items.toList.drop (sIx items.size 0 lo)).take (sIx items.size items.size hi-sIx items.size 0 lo)).toArray.size<=sizeLine;rw [E7,L0,q9,t8];lia
 have hj:sIx items.size items.size hi<=items.size:=sIx_le _ _ (B5 _) hi;obtain ⟨os,fA,rN,mK⟩:=id hs;have hTs:s.TypeIs (.ref sl) "slice":=⟨os,fA,rN⟩
 unfold getItem
 try with_reducible refine wpAny_holding ?_
 first | refine wpAny_bind (wpAny_pure ?_) | skip
 refine wpAny_bind (wpAny_sequenceKey ht.typeIs (by decide) ?_);refine wpAny_bind (wpAny_callSpecial?_slot (name:=Str.ofString "__getitem__") ht.typeIs PyProof.Rows.slot_tuple_getitem
  (wpAny_call_entry PyProof.Rows.slot_tuple_getitem ht.typeIs entry_tuple_getitem ?_ (args_tuple_getitem _ _)))
 show wpAny _ _ (Builtin.Tuple.tupleItemsOf (.ref t) >>= _) _ _ s;refine wpAny_bind (tupleItemsOf_ ht ?_);refine wpAny_bind (wpAny_typeOf hTs ?_);rw [if_pos (by decide)];refine wpAny_bind (sliceApplied_gen hs pl pu ?_);have mL:¬ ((((sIx items.size 0 lo:Nat):Int)==0&&(1:Int)==1&&(sIx items.size items.size hi-sIx items.size 0 lo)==items.size)=true):=by
  intro q;rw [Z7,Z7] at q;have q1:((sIx items.size 0 lo:Nat):Int)=0:=eq_of_beq q.1.1;have q2:sIx items.size items.size hi-sIx items.size 0 lo=items.size:=eq_of_beq q.2;exact hw ⟨by lia,by lia⟩
 show wpAny _ _ (if (((sIx items.size 0 lo:Nat):Int)==0&&(1:Int)==1&&(sIx items.size items.size hi-sIx items.size 0 lo)==items.size)=true then _ else _) _ _ s;rw [if_neg mL,ak6]
 first
  | exact wpAny_bind (m:=Builtin.Tuple.tupleExact _) (wpAny_newObj_type (wpAny_pure ⟨_,rfl,wpAny_pure h⟩) Y5)
  | exact wpAny_bind (m:=Builtin.Tuple.tupleExact _) (wpAny_newObj_type (wpAny_bind (wpAny_pure (wpAny_pure ⟨_,rfl,wpAny_pure h⟩))) Y5)
  | exact wpAny_bind (wpAny_bind (m:=Builtin.Tuple.tupleExact _) (wpAny_newObj_type (wpAny_pure (wpAny_pure ⟨_,rfl,wpAny_pure h⟩)) Y5))
  | exact wpAny_bind (wpAny_bind (m:=Builtin.Tuple.tupleExact _) (wpAny_newObj_type (wpAny_pure ⟨_,rfl,wpAny_pure h⟩) Y5))
end
end HT
namespace L2
open PySem PySem.Spec PyProof.Rows
noncomputable abbrev TO:=St->Hp->(Option Int->Hp->Prop)->Prop
noncomputable def PO (X:Cx) (e:Option Expr) (t:TO):Prop:=
 ∀ (pins:List (Addr×Obj)) (s:Shared) (O:St) (H:Hp) (Q:Option Int->Hp->Prop),Inv X pins O H s->t O H Q->
  wpAny (model X.prog X.w) X.A (evalPart e X.env) (fun u s'=>∃ o H',Inv X pins O H' s'/\IsPart u o/\Q o H') X.xe s
noncomputable def tH:TO:=fun _ H Q=>Q none H
noncomputable def tPart (t:TE):TO:=fun O H Q=>t O H fun x H1=>∃ i,x=.int i/\Q (some i) H1
theorem oS : ∀ {us:List Value},Vals (ns.map V.int) us->IntsAre us ns:=by
 induction ns with
 | nil=>intro us r;rw [List.map_nil] at r;cases r;exact .nil
 | cons n ns ih=>
  intro us r;rw [K5] at r
  cases r with
  | cons r1 r2=>
   obtain ⟨t,e⟩:=r1;subst e;exact .cons n t (ih r2)
section
variable {X:Cx} {e:Expr} {te:TE} {lo hi:Option Expr} {tl th:TO} {pos p2:Pos}
theorem ane:PO X none tH:=by
 intro pins s O H Q I h;rw [evalPart_none];exact wpAny_pure ⟨none,H,I,.none,h⟩
theorem anf(h:PE X e te):PO X (some e) (tPart te):=by
 intro pins s O H Q I hw;rw [evalPart_some];refine B1 (h pins s O H _ I hw) fun u s1 ⟨x,H1,I1,r1,q1⟩=>?_
 obtain ⟨i,rfl,q⟩:=q1;obtain ⟨t,rfl⟩:=r1;exact ⟨some i,H1,I1,.int i t,q⟩
noncomputable def iB (X:Cx) (r:V->Option Int->Option Int->Hp->VK->Prop):Prop:=
 ∀ (pins:List (Addr×Obj)) (s:Shared) (O:St) (H:Hp) (x:V) (v vl vu:Value) (lo hi:Option Int) (sl:Addr) (Q:VK),Inv X pins O H s->RelV x v->s.heap.IsSliceOf sl vl vu .none->IsPart vl lo->IsPart vu hi->r x lo hi H Q->
  ∃ T id,typeLookup (.type T) "__getitem__"=pure (some (.builtin id))/\s.TypeIs v T/\wpAny (model X.prog X.w) X.A (getItem v (.ref sl)) (EP X pins O Q) X.xe s
noncomputable def tI (r:V->Option Int->Option Int->Hp->VK->Prop) (te:TE) (tl th:TO):TE:=fun O H Q=>te O H fun x H1=>tl O H1 fun l H2=>th O H2 fun u H3=>r x l u H3 Q
theorem ak7{r:V->Option Int->Option Int->Hp->VK->Prop}(hr:iB X r)(he:PE X e te)(hl:PO X lo tl)(hu:PO X hi th):PE X (.Subscript e (.Slice lo hi none p2) pos) (tI r te tl th):=by
 intro pins s O H Q I h;refine Subscript_ (B1 (he pins s O H _ I h) fun v s1 ⟨x,H1,I1,r1,q1⟩=>?_);refine wpAny_Slice (B1 (hl pins s1 O H1 _ I1 q1) fun vl s2 ⟨l,H2,I2,pl,q2⟩=>B1 (hu pins s2 O H2 _ I2 q2) fun vu s3 ⟨u,H3,I3,pu,q3⟩=>?_);rw [evalPart_none];refine wpAny_pure ?_;have I4:Inv X pins O H3 { s3 with heap:=s3.heap.push { cls:=.type "slice",data:=.fields #[vl,vu,.none] } }:=I3.kept (t':=s3.toks) fun b ob q=>Heap.get?_push_of_some _ q
 obtain ⟨T,id,hT,ht,hg⟩:=hr pins { s3 with heap:=s3.heap.push { cls:=.type "slice",data:=.fields #[vl,vu,.none] } } O H3 x v vl vu l u s3.heap.objs.size Q I4 r1 (Heap.IsSliceOf.new ..) pl pu q3;show wpAny (model X.prog X.w) X.A (subscriptTail e (.Slice lo hi none p2) v (.ref s3.heap.objs.size)) (EP X pins O Q) X.xe { s3 with heap:=s3.heap.push { cls:=.type "slice",data:=.fields #[vl,vu,.none] } };exact tail_any (ops:=[.ref s3.heap.objs.size,v]) ht hT hg (by with_unfolding_all rfl)
noncomputable def cutV (xs:List V) (lo hi:Option Int):List V:=(xs.drop (HT.sIx xs.length 0 lo)).take (HT.sIx xs.length xs.length hi-HT.sIx xs.length 0 lo)
theorem aeb(xs:List V)(lo hi:Option Int):(cutV xs lo hi).length<=xs.length:=by
 unfold cutV;rw [L0,q9];lia
noncomputable def rSlT (K:PySem.W.Frag):V->Option Int->Option Int->Hp->VK->Prop:=fun x lo hi H Q=>∃ a xs,x=.ref a/\C6 K H a xs/\
 ¬ (HT.sIx xs.length 0 lo=0/\HT.sIx xs.length xs.length hi=xs.length)/\∀ p,H p=none->Q (.ref p) (A0 H p (.tup (cutV xs lo hi)))
theorem ao3:iB X (rSlT X.K):=by
 intro pins s O H x v vl vu lo hi sl Q I rx hs pl pu h;obtain ⟨a,xs,rfl,hx,hw,q⟩:=h
 cases rx
 obtain ⟨its,r,ht,hz⟩:=I.tuple hx;have A9:its.toArray.size=xs.length:=by rw [E7];exact r.length.symm
 refine ⟨"tuple",_,PyProof.Rows.slot_tuple_getitem.lookup,ht.typeIs,?_⟩;refine HT.getItem_tuple_cut ht hs pl pu (by rw [A9];exact hw) ?_ (by rw [A9];exact hz);rw [A9];refine ⟨.ref s.heap.objs.size,_,I.laid (t':=s.toks) (o:=.tup (cutV xs lo hi)) (fun b ob q=>Heap.get?_push_of_some _ q) (B5 _) ?_,rfl,q _ (I.hok.fresh (B5 _))⟩;exact ⟨K6 (aeb xs lo hi) hz,_,(r.drop (HT.sIx xs.length 0 lo)).take (HT.sIx xs.length xs.length hi-HT.sIx xs.length 0 lo),IsTup.new _ _⟩
noncomputable def rCatT (K:PySem.W.Frag):R2:=fun x y H Q=>∃ a b xs ys,x=.ref a/\y=.ref b/\C6 K H a xs/\C6 K H b ys/\xs≠[]/\xs.length+ys.length<=sizeLine/\
 (ys=[]->Q (.ref a) H)/\(ys≠[]->∀ p,H p=none->Q (.ref p) (A0 H p (.tup (xs++ys))))
theorem Vals.nil_iff(r:Vals xs us):us=[]↔xs=[]:=by
 cases r with
 | nil=>simp
 | cons _ _=>simp
theorem ang:K1 X (binaryOp .Add) (rCatT X.K):=by
 intro pins s O H x y v u Q I rx ry h;obtain ⟨a,b,xs,ys,rfl,rfl,ha,hb,hx,hz,q1,q2⟩:=h
 cases rx
 cases ry
 obtain ⟨its,r1,p1,_⟩:=I.tuple ha;obtain ⟨its2,r2,p2,_⟩:=I.tuple hb;refine HT.cat_tup p1 p2 (fun z=>hx (r1.nil_iff.mp z)) (fun z=>⟨.ref a,H,I,rfl,q1 (r2.nil_iff.mp z)⟩) (fun z=>?_) (by rw [<- r1.length,<- r2.length];exact hz);refine ⟨.ref s.heap.objs.size,_,I.laid (t':=s.toks) (o:=.tup (xs++ys)) (fun b ob q=>Heap.get?_push_of_some _ q) (B5 _) ?_,rfl,q2 (fun w=>z (r2.nil_iff.mpr w)) _ (I.hok.fresh (B5 _))⟩;exact ⟨by rw [C8];exact hz,_,r1.append r2,IsTup.new _ _⟩
end
end L2
namespace L2
open PySem PySem.Spec PyProof.Rows
noncomputable def W9 (n:Nat) (i:Int):Option Nat:=if 0<=i then (if i<n then some i.toNat else none) else if -(n:Int)<=i then some (i+n).toNat else none
noncomputable def K7 {α:Type} (xs:List α) (i:Int):Option α:=(W9 xs.length i).bind fun j=>xs[j]?
theorem ajq{i:Int}(h:W9 n i=some j):seqIndex? i n=some j/\j<n/\-(n:Int)<=i/\i<n:=by
 unfold W9 at h
 by_cases h0:0<=i
 .rw [if_pos h0] at h
  by_cases h1:i<n
  .rw [if_pos h1] at h;have e:i.toNat=j:=Option.some.inj h;exact ⟨by rw [seqIndex_of h0 h1,e],by lia,by lia,h1⟩
  .rw [if_neg h1] at h;cases h
 .rw [if_neg h0] at h
  by_cases h1:-(n:Int)<=i
  .rw [if_pos h1] at h;have e:(i+n).toNat=j:=Option.some.inj h;exact ⟨by rw [seqIndex_neg (by lia) h1,e],by lia,h1,by lia⟩
  .rw [if_neg h1] at h;cases h
theorem tJ{α:Type}{xs:List α}{i:Int}{v:α}(h:K7 xs i=some v):∃ j,seqIndex? i xs.length=some j/\xs[j]?=some v/\j<xs.length/\-(xs.length:Int)<=i/\i<xs.length:=by
 unfold K7 at h;cases e:W9 xs.length i with
 | none=>rw [e] at h;cases h
 | some j=>
  rw [e] at h;obtain ⟨h1,h2,h3,h4⟩:=ajq e;exact ⟨j,h1,h,h2,h3,h4⟩
theorem G7{α:Type}{xs:List α}{v:α}(h:xs[j]?=some v):K7 xs (j:Int)=some v:=by
 have hj:j<xs.length:=(F6.mp h).1;have e:W9 xs.length (j:Int)=some j:=by
  unfold W9;rw [if_pos (by lia),if_pos (by lia)];simp
 unfold K7;rw [e];exact h
theorem ak8{α:Type}(xs:List α)(v:α):K7 (xs++[v]) (-1)=some v:=by
 have hl:(xs++[v]).length=xs.length+1:=by simp
 have e:W9 (xs++[v]).length (-1)=some xs.length:=by
  unfold W9;rw [hl,if_neg (by decide),if_pos (by lia)]
  congr 1
  lia
 unfold K7;rw [e];show (xs++[v])[xs.length]?=some v
 simp
noncomputable def ajr (b:Expr):Prop:=∀ o i,subscripted b false o i=operate [o,i] (getItem o i)
noncomputable def aI (X:Cx) (r:R2):Prop:=
 ∀ (value slice:Expr) (pins:List (Addr×Obj)) (s:Shared) (O:St) (H:Hp) (x y:V) (v u:Value) (Q:VK),Inv X pins O H s->RelV x v->RelV y u->r x y H Q->
  subscripted slice false v u=operate [v,u] (getItem v u)->wpAny (model X.prog X.w) X.A (subscriptTail value slice v u) (EP X pins O Q) X.xe s
noncomputable def oT (X:Cx) (id:String) (r:V->List V->Hp->VK->Prop):Prop:=
 ∀ (pins:List (Addr×Obj)) (s:Shared) (O:St) (H:Hp) (x:V) (xs:List V) (v:Value) (us:List Value) (Q:VK),Inv X pins O H s->RelV x v->Vals xs us->r x xs H Q->
  wpAny (model X.prog X.w) X.A (call (.builtin id) (v::us)) (EP X pins O Q) X.xe s
section
variable {X:Cx} {a b:Expr} {ta tb:TE} {pos:Pos}
theorem aI.or{r r':R2}(h:aI X r)(h':aI X r'):aI X (fun x y H Q=>r x y H Q\/r' x y H Q):=by
 intro value slice pins s O H x y v u Q I rx ry q hs
 rcases q with q | q
 .exact h value slice pins s O H x y v u Q I rx ry q hs
 .exact h' value slice pins s O H x y v u Q I rx ry q hs
theorem pe_ix{r:R2}(hr:aI X r)(ha:PE X a ta)(hb:PE X b tb)(hs:ajr b):PE X (.Subscript a b pos) (l7 r ta tb):=by
 intro pins s O H Q I h;exact Subscript_ (binT ha hb I h fun v u s2 x y H2 I2 rx ry q=>hr a b pins s2 O H2 x y v u Q I2 rx ry q (hs _ _))
noncomputable def rIxL (K:PySem.W.Frag):R2:=fun x y H Q=>∃ p xs i v,x=.ref p/\y=.int i/\C7 K H p xs/\K7 xs i=some v/\Q v H
noncomputable def rIxT (K:PySem.W.Frag):R2:=fun x y H Q=>∃ p xs i v,x=.ref p/\y=.int i/\C6 K H p xs/\K7 xs i=some v/\Q v H
noncomputable def rIxS:R2:=fun x y H Q=>∃ z i c,x=.str z/\y=.int i/\z.length<=sizeLine/\K7 z.cps.toList i=some c/\Q (.str ⟨#[c]⟩) H
theorem ix_list:aI X (rIxL X.K):=by
 intro value slice pins s O H x y v u Q I rx ry h hs;obtain ⟨p,xs,i,z,rfl,rfl,hq,he,q⟩:=h
 cases rx
 obtain ⟨t,rfl⟩:=ry;obtain ⟨its,r,pl,hz⟩:=I.list hq;obtain ⟨j,h1,h2,h3,h4,h5⟩:=tJ he;obtain ⟨w,ew,rw'⟩:=r.get h2;have hl:=r.length;have hn:=iA;have fin:EP X pins O Q w s:=⟨z,H,I,rw',q⟩
 by_cases h0:0<=i
 .have hj:i.toNat=j:=by
   rw [seqIndex_of h0 h5] at h1;exact Option.some.inj h1
  exact item_listR pl.isList h0 (by lia) (by rw [hj];simpa using ew) fin hs
 .have hj:(i+(its.toArray.size:Int)).toNat=j:=by
   rw [seqIndex_neg (by lia) h4] at h1;rw [E7,<- hl];exact Option.some.inj h1
  exact subscriptTail_builtinR (x:=w) pl.isList.typeIs slot_list_getitem.lookup
   (wpAny_getItem_list_neg (Q:=fun r s'=>r=w/\EP X pins O Q r s') pl.isList (by lia) (by rw [E7] <;> lia) (by lia) (by rw [hj];simpa using ew) ⟨rfl,fin⟩) hs
theorem ix_tup:aI X (rIxT X.K):=by
 intro value slice pins s O H x y v u Q I rx ry h hs;obtain ⟨p,xs,i,z,rfl,rfl,hq,he,q⟩:=h
 cases rx
 obtain ⟨t,rfl⟩:=ry;obtain ⟨its,r,pl,hz⟩:=I.tuple hq;obtain ⟨j,h1,h2,h3,h4,h5⟩:=tJ he;obtain ⟨w,ew,rw'⟩:=r.get h2;have hl:=r.length;have hn:=iA;have fin:EP X pins O Q w s:=⟨z,H,I,rw',q⟩
 exact subscriptTail_builtinR (x:=w) pl.typeIs slot_tuple_getitem.lookup
  (getItem_tuple (j:=j) (Q:=fun r s'=>r=w/\EP X pins O Q r s') pl (by lia) (by lia) (by rw [E7,<- hl];exact h1) (by simpa using ew) ⟨rfl,fin⟩) hs
theorem ao4:aI X rIxS:=by
 intro value slice pins s O H x y v u Q I rx ry h hs;obtain ⟨z,i,c,rfl,rfl,hz,he,q⟩:=h;obtain ⟨t,rfl⟩:=rx;obtain ⟨t',rfl⟩:=ry;obtain ⟨j,h1,h2,h3,h4,h5⟩:=tJ he;have hl:z.cps.toList.length=z.length:=by simp [Str.length]
 rw [hl] at h1 h4 h5;have hn:=iA;exact tail_any (typeIs_str s z t) slot_str_getitem.lookup (getItem_str (c:=c) (by
  have e1:decide (i < -(2 ^ 63:Int))=false:=decide_eq_false (by lia);have e2:decide (i≥2 ^ 63)=false:=decide_eq_false (by lia);rw [e1,e2,Bool.or_false]) (by rw [h1];simpa using h2) ⟨.str ⟨#[c]⟩,H,I.tok _,⟨_,rfl⟩,q⟩) hs
noncomputable def eC (K:PySem.W.Frag):R2:=fun x y H Q=>rIxL K x y H Q\/rIxT K x y H Q\/rIxS x y H Q
theorem ao5:aI X (eC X.K):=ix_list.or (ix_tup.or ao4)
theorem aiz(its:List Value)(n j:Nat)(u:Value):Obj.mapSeq (·.setIfInBounds j u) { cls:=.type "list",data:=.seq its.toArray n }={ cls:=.type "list",data:=.seq (its.set j u).toArray n }:=by
 simp [Obj.mapSeq]
theorem Inv.lst(I:Inv X pins O H s)(h:H p=some (.lst xs)) :
  ∃ (its:List Value) (n:Nat),Vals xs its/\s.heap.get? p=some { cls:=.type "list",data:=.seq its.toArray n }/\xs.length<=sizeLine:=by
 obtain ⟨z,its,n,r,e⟩:=I.hok p _ h;exact ⟨its,n,r,e,z⟩
theorem Inv.lstUpd{f:Obj->Obj}(I:Inv X pins O H s)(h:H p=some (.lst xs))(ho:s.heap.get? p=some { cls:=.type "list",data:=.seq its.toArray n })(hf:f { cls:=.type "list",data:=.seq its.toArray n }={ cls:=.type "list",data:=.seq its'.toArray n' })(r:Vals ys its')(hz:ys.length<=sizeLine)(t:Nat) :
  Inv X pins O (A0 H p (.lst ys)) { s with heap:=s.heap.update p f,toks:=t }:=by
 have e:(s.heap.update p f).get? p=some { cls:=.type "list",data:=.seq its'.toArray n' }:=by
  rw [Heap.get?_update_self f ho (by rw [hf] <;> rfl),hf]
 refine I.write (x:=p) (e:=p) (by rw [h];trivial) (.inl rfl) (fun b u hb q=>(Heap.get?_update_other _ _ (Ne.symm hb)).trans q) ⟨_,e⟩ ?_;exact ⟨hz,its',n',r,e⟩
noncomputable def rSetL:V->V->V->Hp->(Hp->Prop)->Prop:=fun o i v H Q=>∃ p xs k j,o=.ref p/\i=.int k/\H p=some (.lst xs)/\W9 xs.length k=some j/\Q (A0 H p (.lst (xs.set j v)))
theorem ak9:PSet X rSetL:=by
 intro pins s O H o i v ov iv u Q I ro ri rv h;obtain ⟨p,xs,k,j,rfl,rfl,hp,hj,q⟩:=h
 cases ro
 obtain ⟨t,rfl⟩:=ri;obtain ⟨its,n,r,ho,hz⟩:=I.lst hp;obtain ⟨h1,h2,h3,h4⟩:=ajq hj;have hl:=r.length;have hn:=iA;have I':Inv X pins O (A0 H p (.lst (xs.set j v))) { s with heap:=s.heap.update p (Obj.mapSeq (·.setIfInBounds j u)) }:=
  I.lstUpd hp ho (aiz its n j u) (r.set rv j) (by rw [List.length_set];exact hz) s.toks
 by_cases h0:0<=k
 .have hk:k.toNat=j:=by
   rw [seqIndex_of h0 h4] at h1;exact Option.some.inj h1
  exact PySem.W.ki_setAt ho h0 (by lia) (by rw [E7,<- hl];exact h4) (by rw [hk];exact ⟨_,I',q⟩)
 .have hk:(k+(its.toArray.size:Int)).toNat=j:=by
   rw [seqIndex_neg (by lia) h3] at h1;rw [E7,<- hl];exact Option.some.inj h1
  exact PySem.W.ki_setBack ho (by lia) (by rw [E7,<- hl];exact h3) (by lia) (by rw [hk];exact ⟨_,I',q⟩)
theorem af8(lo hi:Option Int)(n:Nat):(sliceBounds lo hi none n).1=((HT.sIx n 0 lo:Nat):Int)/\(sliceBounds lo hi none n).2.1=((HT.sIx n n hi:Nat):Int)/\(sliceBounds lo hi none n).2.2=1:=by
 refine ⟨?_,?_,rfl⟩
 .cases lo with
  | none=>simp [sliceBounds,HT.sIx]
  | some i=>
   simp only [sliceBounds,HT.sIx,Option.getD_none,show (1:Int) > 0 by decide,if_true]
   by_cases h:i<0
   .simp only [h,if_true] <;> lia
   .simp only [h,if_false] <;> lia
 .cases hi with
  | none=>simp [sliceBounds,HT.sIx]
  | some i=>
   simp only [sliceBounds,HT.sIx,Option.getD_none,show (1:Int) > 0 by decide,if_true]
   by_cases h:i<0
   .simp only [h,if_true] <;> lia
   .simp only [h,if_false] <;> lia
theorem afn(its:List Value)(lo hi:Option Int):slicePick its.toArray lo hi none=((its.drop (HT.sIx its.length 0 lo)).take (HT.sIx its.length its.length hi-HT.sIx its.length 0 lo)).toArray:=by
 obtain ⟨h1,h2,h3⟩:=af8 lo hi its.toArray.size;unfold slicePick;rw [h1,h2,h3];simp only [sliceRange_one,pick_run,E7] <;> rfl
noncomputable def rSlL (K:PySem.W.Frag):V->Option Int->Option Int->Hp->VK->Prop:=fun x lo hi H Q=>∃ a xs,x=.ref a/\C7 K H a xs/\∀ p,H p=none->Q (.ref p) (A0 H p (.lst (cutV xs lo hi)))
theorem anh:iB X (rSlL X.K):=by
 intro pins s O H x v vl vu lo hi sl Q I rx hs pl pu h;obtain ⟨a,xs,rfl,hx,q⟩:=h
 cases rx
 obtain ⟨its,r,ht,hz⟩:=I.list hx;have A9:=r.length;refine ⟨"list",_,slot_list_getitem.lookup,ht.isList.typeIs,?_⟩;refine wpAny_getItem_list_slice ht.isList hs pl pu .none (by simp) ?_ (by rw [E7] <;> lia);rw [afn,<- A9];refine ⟨.ref s.heap.objs.size,_,I.laid (t':=s.toks) (o:=.lst (cutV xs lo hi)) (fun b ob q=>Heap.get?_push_of_some _ q) (B5 _) ?_,rfl,q _ (I.hok.fresh (B5 _))⟩;exact ⟨K6 (aeb xs lo hi) hz,_,0,(r.drop (HT.sIx xs.length 0 lo)).take (HT.sIx xs.length xs.length hi-HT.sIx xs.length 0 lo),Heap.get?_push_size _ rfl⟩
noncomputable def flatV:V->Bool
 | .non=>true
 | .bl _=>true
 | .int _=>true
 | .str _=>true
 | _=>false
noncomputable def bZ:V->V->Bool
 | .non,.non=>true
 | .bl a,.bl b=>a==b
 | .bl a,.int b=>(if a then 1 else 0)==b
 | .int a,.bl b=>a==(if b then 1 else 0)
 | .int a,.int b=>a==b
 | .str a,.str b=>a==b
 | _,_=>false
theorem ao6{y x:V}(ry:RelV y u)(rx:RelV x v)(fy:flatV y=true)(fx:flatV x=true):SeqAt.EqAt A s u v (bZ y x):=by
 cases y with
 | non=>
  cases ry
  cases x with
  | non=>cases rx;exact SeqAt.EqAt.same _
  | bl b=>cases rx;exact SeqAt.EqAt.none_bool b
  | int b=>obtain ⟨t,rfl⟩:=rx;exact SeqAt.EqAt.none_int b t
  | str b=>obtain ⟨t,rfl⟩:=rx;exact SeqAt.EqAt.none_str b t
  | _=>exact absurd (show false=true from fx) L3
 | bl a=>
  cases ry
  cases x with
  | non=>cases rx;exact SeqAt.EqAt.bool_none a
  | bl b=>cases rx;exact SeqAt.EqAt.bool_bool a b
  | int b=>obtain ⟨t,rfl⟩:=rx;exact SeqAt.EqAt.bool_int a b t
  | str b=>obtain ⟨t,rfl⟩:=rx;exact SeqAt.EqAt.bool_str a b t
  | _=>exact absurd (show false=true from fx) L3
 | int a=>
  obtain ⟨t',rfl⟩:=ry
  cases x with
  | non=>cases rx;exact SeqAt.EqAt.int_none a t'
  | bl b=>cases rx;exact SeqAt.EqAt.int_bool a t' b
  | int b=>obtain ⟨t,rfl⟩:=rx;exact SeqAt.EqAt.int_int a t' b t
  | str b=>obtain ⟨t,rfl⟩:=rx;exact SeqAt.EqAt.int_str a t' b t
  | _=>exact absurd (show false=true from fx) L3
 | str a=>
  obtain ⟨t',rfl⟩:=ry
  cases x with
  | non=>cases rx;exact SeqAt.EqAt.str_none a t'
  | bl b=>cases rx;exact SeqAt.EqAt.str_bool a t' b
  | int b=>obtain ⟨t,rfl⟩:=rx;exact SeqAt.EqAt.str_int a t' b t
  | str b=>obtain ⟨t,rfl⟩:=rx;exact SeqAt.EqAt.str_str a t' b t
  | _=>exact absurd (show false=true from fx) L3
 | _=>exact absurd (show false=true from fy) L3
noncomputable def X0 (x:V) (u:Value):Bool:=match u with
 | .none=>bZ .non x
 | .bool b=>bZ (.bl b) x
 | .int i _=>bZ (.int i) x
 | .str z _=>bZ (.str z) x
 | _=>false
theorem amq{x y:V}(r:RelV y u)(f:flatV y=true):X0 x u=bZ y x:=by
 cases y with
 | non=>cases r;rfl
 | bl b=>cases r;rfl
 | int i=>obtain ⟨t,rfl⟩:=r;rfl
 | str z=>obtain ⟨t,rfl⟩:=r;rfl
 | _=>exact absurd (show false=true from f) L3
theorem kX{x:V} : ∀ {xs:List V} {us:List Value},Vals xs us->xs.all flatV=true->us.any (X0 x)=xs.any fun y=>bZ y x
 | _,_,.nil,_=>rfl
 | y::xs,u::us,.cons r t,f=>by
  rw [List.all_cons,Z7] at f;rw [t7,t7,amq r f.1,kX t f.2]
theorem kY{x:V}(rx:RelV x v)(fx:flatV x=true):∀ {xs:List V} {us:List Value},Vals xs us->xs.all flatV=true->∀ u∈us,SeqAt.EqAt A s u v (X0 x u)
 | _,_,.nil,_=>fun u hu=>by cases hu
 | y::xs,u::us,.cons r t,f=>fun u' hu=>by
  rw [List.all_cons,Z7] at f
  rcases E4.mp hu with rfl | hu
  .rw [amq r f.1];exact ao6 r rx f.1 fx
  .exact kY rx fx t f.2 u' hu
noncomputable def cA (x:V) (xs:List V):Bool:=xs.any fun y=>bZ y x
noncomputable def tK (K:PySem.W.Frag) (neg:Bool):R2:=fun x y H Q=>∃ p xs,y=.ref p/\(C7 K H p xs\/C6 K H p xs)/\flatV x=true/\xs.all flatV=true/\Q (.bl (if neg then !cA x xs else cA x xs)) H
theorem ajs:K1 X (compareOp .In) (tK X.K false):=by
 intro pins s O H x y v u Q I rx ry h;obtain ⟨p,xs,rfl,hq,fx,fs,q⟩:=h
 cases ry
 rcases hq with hq | hq
 .obtain ⟨its,r,pl,hz⟩:=I.list hq;refine SeqAt.in_listAt (X0 x) pl.isList (fun w hw=>kY rx fx r fs w (by simpa using hw)) ⟨.bl _,H,I,rfl,?_⟩;rw [show its.toArray.any (X0 x)=its.any (X0 x) by simp,kX r fs];exact q
 .obtain ⟨its,r,pl,hz⟩:=I.tuple hq;refine SeqAt.in_tupleAt (X0 x) pl (fun w hw=>kY rx fx r fs w (by simpa using hw)) ⟨.bl _,H,I,rfl,?_⟩;rw [show its.toArray.any (X0 x)=its.any (X0 x) by simp,kX r fs];exact q
theorem af9:K1 X (compareOp .NotIn) (tK X.K true):=by
 intro pins s O H x y v u Q I rx ry h;obtain ⟨p,xs,rfl,hq,fx,fs,q⟩:=h
 cases ry
 rcases hq with hq | hq
 .obtain ⟨its,r,pl,hz⟩:=I.list hq;refine SeqAt.notIn_listAt (X0 x) pl.isList (fun w hw=>kY rx fx r fs w (by simpa using hw)) ⟨.bl _,H,I,rfl,?_⟩;rw [show its.toArray.any (X0 x)=its.any (X0 x) by simp,kX r fs];exact q
 .obtain ⟨its,r,pl,hz⟩:=I.tuple hq;refine SeqAt.notIn_tupleAt (X0 x) pl (fun w hw=>kY rx fx r fs w (by simpa using hw)) ⟨.bl _,H,I,rfl,?_⟩;rw [show its.toArray.any (X0 x)=its.any (X0 x) by simp,kX r fs];exact q
theorem aga:K1 X (compareOp .NotIn) (fun x y H Q=>∃ i j,x=.str i/\y=.str j/\Q (.bl (!(!(Builtin.Str.occurrences j i 0 j.length 1).isEmpty))) H):=by
 intro pins s O H x y v u Q I rx ry h;obtain ⟨i,j,rfl,rfl,q⟩:=h;obtain ⟨t,rfl⟩:=rx;obtain ⟨t',rfl⟩:=ry;exact notIn_str ⟨.bl _,H,I,rfl,q⟩
theorem agb:CallR X (.type "list") (fun xs H Q=>∃ p ys,xs=[.ref p]/\(C7 X.K H p ys\/C6 X.K H p ys)/\∀ l,H l=none->Q (.ref l) (A0 H l (.lst ys))):=by
 intro pins s O H xs us Q I r h;obtain ⟨p,ys,rfl,hq,q⟩:=h;obtain ⟨u,rfl,rx⟩:=vals1 r
 cases rx
 have fin:∀ (its:List Value),Vals ys its->ys.length<=sizeLine->∀ (h':Heap) (c':Nat),(∀ b o',s.heap.get? b=some o'->h'.get? b=some o')->
   h'.get? s.heap.objs.size=some { cls:=.type "list",dict:=none,data:=.seq its.toArray c',slots:=#[] }->EP X pins O Q (.ref s.heap.objs.size) { s with heap:=h' }:=fun its r' hz h' c' kp e=>
  ⟨.ref s.heap.objs.size,_,I.laid (t':=s.toks) kp (B5 _) (show ObjOk X.prog X.w _ h' _ (.lst ys) from ⟨hz,its,c',r',e⟩),rfl,q _ (I.hok.fresh (B5 _))⟩
 rcases hq with hq | hq
 .obtain ⟨its,r',pl,hz⟩:=I.list hq;have A9:=r'.length;obtain ⟨o,ho,hc,n,hd⟩:=pl.isList;exact call_list_seq p (.inl rfl) ho hc hd (fun h' c' kp e=>fin its r' hz h' c' kp e) (by simp only [E7] <;> lia)
 .obtain ⟨its,r',pl,hz⟩:=I.tuple hq;have A9:=r'.length;obtain ⟨o,ho,hc,n,hd⟩:=pl;exact call_list_seq p (.inr rfl) ho hc hd (fun h' c' kp e=>fin its r' hz h' c' kp e) (by simp only [E7] <;> lia)
theorem afo:CallR X (.type "tuple") (fun xs H Q=>∃ p ys,xs=[.ref p]/\((C7 X.K H p ys/\∀ l,H l=none->Q (.ref l) (A0 H l (.tup ys)))\/(C6 X.K H p ys/\Q (.ref p) H))):=by
 intro pins s O H xs us Q I r h;obtain ⟨p,ys,rfl,h⟩:=h;obtain ⟨u,rfl,rx⟩:=vals1 r
 cases rx
 rcases h with ⟨hq,q⟩ | ⟨hq,q⟩
 .obtain ⟨its,r',pl,hz⟩:=I.list hq;have A9:=r'.length;refine call_tuple_list pl.isList (fun h' kp=>?_) (by simp only [E7] <;> lia);have I1:Inv X pins O H { s with heap:=h' }:=I.kept (t':=s.toks) kp;have I2:Inv X pins O (A0 H h'.objs.size (.tup ys)) { s with heap:=h'.push { cls:=.type "tuple",data:=.seq its.toArray } }:=
   I1.laid (t':=s.toks) (fun b o e=>Heap.get?_push_of_some _ e) (B5 _) (show ObjOk X.prog X.w _ _ _ (.tup ys) from ⟨hz,its,r',IsTup.new _ _⟩)
  exact ⟨.ref h'.objs.size,_,I2,rfl,q _ (I1.hok.fresh (B5 _))⟩
 .obtain ⟨its,r',pl,hz⟩:=I.tuple hq;exact call_tuple_same pl ⟨.ref p,H,I,rfl,q⟩
noncomputable def cB (K:PySem.W.Frag) (T:String) (x:V) (H:Hp):Prop:=match x with
 | .str _=>T="str"
 | .int _=>T="int"
 | .ref p=>(T="list"/\∃ xs,C7 K H p xs)\/(T="tuple"/\∃ o,K.lookup p=some o/\o.cls=.type "tuple"/\o.dict=none)\/
   (T="dict"/\((∃ kvs,H p=some (.dK kvs))\/∃ kvs,H p=some (.dT kvs)))\/(T="set"/\∃ S n,H p=some (.set S n))
 | _=>False
theorem amr{T:String}{x:V}(I:Inv X pins O H s)(r:RelV x v)(ty:cB X.K T x H) :
  s.TypeIs v T/\∀ a,v=.ref a->∃ ob,s.heap.get? a=some ob/\ob.dict=none:=by
 cases x with
 | str z=>
  obtain ⟨t,rfl⟩:=r
  cases (show T="str" from ty)
  exact ⟨typeIs_str s z t,fun _ e=>nomatch e⟩
 | int i=>
  obtain ⟨t,rfl⟩:=r
  cases (show T="int" from ty)
  exact ⟨typeIs_int s i t,fun _ e=>nomatch e⟩
 | ref p=>
  cases r
  rcases ty with ⟨rfl,xs,hq⟩ | ⟨rfl,o,hk,hc,hd⟩ | ⟨rfl,hk⟩ | ⟨rfl,S,n,hk⟩
  .obtain ⟨its,_,pl,_⟩:=I.list hq;refine ⟨pl.isList.typeIs,fun a e=>?_⟩;cases e;obtain ⟨o,n,e,c,hd,_⟩:=pl;exact ⟨o,e,hd⟩
  .refine ⟨⟨o,I.kIn p o hk,hc⟩,fun a e=>?_⟩;cases e;exact ⟨o,I.kIn _ o hk,hd⟩
  .have z:∃ o,s.heap.get? p=some o/\o.ExactDict:=by
    rcases hk with ⟨kvs,hk⟩ | ⟨kvs,hk⟩
    .obtain ⟨_,_,_,_,o,_,_,e,ex,_⟩:=I.hok p _ hk;exact ⟨o,e,ex⟩
    .obtain ⟨_,_,_,_,o,_,_,e,ex,_⟩:=I.hok p _ hk;exact ⟨o,e,ex⟩
   obtain ⟨o,e,ex⟩:=z;refine ⟨⟨o,e,ex.1⟩,fun a e2=>?_⟩;cases e2;exact ⟨o,e,ex.2.1⟩
  .obtain ⟨o,_,_,_,e,ex,_⟩:=I.hok p _ hk;refine ⟨⟨o,e,ex.1⟩,fun a e2=>?_⟩;cases e2;exact ⟨o,e,ex.2.1⟩
 | _=>exact False.elim ty
noncomputable def tBM0 (K:PySem.W.Frag) (T:String) (r:V->List V->Hp->VK->Prop) (to:TE):TE:=fun O H Q=>to O H fun x H1=>cB K T x H1/\r x [] H1 Q
noncomputable def iC (K:PySem.W.Frag) (T:String) (r:V->List V->Hp->VK->Prop) (to:TE) (t:TA):TE:=fun O H Q=>to O H fun x H1=>cB K T x H1/\t O H1 fun xs H2=>r x xs H2 Q
variable {o e:Expr} {es:List Expr} {to:TE} {t:TA} {name:Str} {apos cpos:Pos} {T id:String} {r:V->List V->Hp->VK->Prop}
theorem ao7(pa:PlainAttrs T)(slot:Slot T name id)(V6:typeOf (.builtin id)=pure (.type "method_descriptor"))(hm:oT X id r)(ho:PE X o to)(E2:attributeBase o name X.env (eval o X.env)=eval o X.env:=by rfl)(E3:(apos.endLine==cpos.line)=true:=by rfl):PE X (.Call (.Attribute o name apos) [] [] cpos) (tBM0 X.K T r to):=by
 intro pins s O H Q I h;refine wpAny_Call_method0_late E2 E3 (B1 (ho pins s O H _ I h) fun v s1 ⟨x,H1,I1,r1,ty,q1⟩=>?_);obtain ⟨h1,h2⟩:=amr I1 r1 ty;exact ⟨T,id,pa,slot,V6,h1,h2,Calls.callWith_builtin rfl (PySem.evalArgs_none (hm pins s1 O H1 x [] v [] Q I1 r1 .nil q1))⟩
theorem pe_bm(pa:PlainAttrs T)(slot:Slot T name id)(V6:typeOf (.builtin id)=pure (.type "method_descriptor"))(hm:oT X id r)(ho:PE X o to)(ha:PA X (e::es) t)(E2:attributeBase o name X.env (eval o X.env)=eval o X.env:=by rfl)(yD:((backTo cpos (starEach (e::es) X.env)).all (fun x=>!x.1)&&(backToKw cpos (keywordEach [] X.env)).all (fun x=>x.1.isSome)
   && decide ((e::es).length+([]:List Keyword).length+(if ([]:List Keyword).isEmpty then 0 else 1)<30))=true:=by rfl)(E3:(apos.endLine==cpos.line)=true:=by rfl)(hs:starEach (e::es) X.env=(false,eval e X.env)::starEach es X.env:=by rfl)(hplain:(backTo cpos (starEach es X.env)).any (·.1)=false:=by rfl) :
  PE X (.Call (.Attribute o name apos) (e::es) [] cpos) (iC X.K T r to t):=by
 intro pins s O H Q I h;refine wpAny_Call_method_late E2 yD E3 rfl (B1 (ho pins s O H _ I h) fun v s1 ⟨x,H1,I1,r1,ty,q1⟩=>?_);obtain ⟨h1,h2⟩:=amr I1 r1 ty;refine ⟨T,id,pa,slot,V6,h1,h2,?_⟩;have hA:=ha cpos pins s1 O H1 _ I1 q1;rw [hs] at hA ⊢
 refine Calls.callWith_builtin (by show (false || (backTo cpos (starEach es X.env)).any (·.1))=false;rw [hplain] <;> rfl) (Calls.evalArgs_plain ?_);exact B1 hA fun us s2 ⟨vs,H2,I2,r2,q2⟩=>hm pins s2 O H2 x vs v us Q I2 r1 r2 q2
end
end L2
namespace L2
open PySem PySem.Spec PyProof.Rows
noncomputable def iD (X:Cx) (id:String) (r:V->List V->Hp->VK->Prop):Prop:=
 ∀ (pins:List (Addr×Obj)) (s:Shared) (O:St) (H:Hp) (x:V) (xs:List V) (v:Value) (us:List Value) (Q:VK),Inv X pins O H s->RelV x v->Vals xs us->r x xs H Q->
  wpAny (model X.prog X.w) X.A (call (.builtin id) (v::us)) (EP X pins O Q) X.xe s
theorem Vals.one:∀ {x:V} {us:List Value},Vals [x] us->∃ u,us=[u]/\RelV x u
 | _,_,.cons r .nil=>⟨_,rfl,r⟩
theorem Vals.zero:∀ {us:List Value},Vals [] us->us=[]
 | _,.nil=>rfl
theorem Vals.eraseIdx:∀ {xs:List V} {us:List Value} (i:Nat),Vals xs us->Vals (xs.eraseIdx i) (us.eraseIdx i)
 | _,_,_,.nil=>.nil
 | _,_,0,.cons _ t=>t
 | _,_,i+1,.cons r t=>.cons r (Vals.eraseIdx i t)
theorem Vals.rep(h:Vals xs us):∀ k:Nat,Vals (W1 k xs).flatten (W1 k us).flatten
 | 0=>.nil
 | k+1=>by
  rw [gI,gI,gO,gO];exact Vals.append h (Vals.rep h k)
theorem agc(its:List Value):∀ (k:Nat) (acc:List Value),
  List.foldl (fun x1 x2=>x1++x2) acc.toArray (W1 k its.toArray)=(acc++(W1 k its).flatten).toArray
 | 0,acc=>by simp
 | k+1,acc=>by
  have e:acc.toArray++its.toArray=(acc++its).toArray:=by simp
  have e2:(acc++its)++(W1 k its).flatten=acc++(W1 (k+1) its).flatten:=by
   rw [gI,gO,W8]
  rw [<- e2,<- agc its k (acc++its),<- e,gI,List.foldl_cons]
section
variable {X:Cx} {pins:List (Addr×Obj)} {O:St} {H:Hp} {s:Shared} {l b:Addr} {xs ys zs:List V}
theorem Inv.lset{f:Array Value->Array Value}(I:Inv X pins O H s)(hH:H l=some (.lst xs))(e:s.heap.get? l=some { cls:=.type "list",data:=.seq its.toArray n })(hf:f its.toArray=its'.toArray)(hv:Vals ys its')(hz:ys.length<=sizeLine) :
  Inv X pins O (A0 H l (.lst ys)) { s with heap:=s.heap.update l (Obj.mapSeq f),toks:=t' }:=by
 have q:=PySem.IsL.update e f;rw [hf] at q;refine I.write (x:=l) (e:=l) (by rw [hH];exact trivial) (.inl rfl) (fun b' u hb hu=>(Heap.get?_update_other s.heap (Obj.mapSeq f) (Ne.symm hb)).trans hu) ⟨_,q⟩ ?_;exact ⟨hz,its',_,hv,q⟩
theorem Inv.lnew(I:Inv X pins O H s)(hv:Vals ys its)(hz:ys.length<=sizeLine) :
  Inv X pins O (A0 H s.heap.objs.size (.lst ys)) { s with heap:=s.heap.push { cls:=.type "list",data:=.seq its.toArray },toks:=t' }:=
 I.laid (fun _ _ q=>Heap.get?_push_of_some _ q) (B5 _) ⟨hz,its,0,hv,Heap.get?_push_size _ rfl⟩
theorem Inv.fresh(I:Inv X pins O H s):H s.heap.objs.size=none:=I.hok.fresh (B5 _)
theorem Inv.lstM(I:Inv X pins O H s)(hH:H l=some (.lst xs)):xs.length<=sizeLine/\∃ (its:List Value) (n:Nat),Vals xs its/\xs.length=its.length/\s.heap.get? l=some { cls:=.type "list",data:=.seq its.toArray n }:=by
 obtain ⟨z,its,n,r,e⟩:=I.hok l _ hH;exact ⟨z,its,n,r,r.length,e⟩
theorem tL(h:n<=sizeLine):Builtin.List.listTooLong n=false:=by
 unfold Builtin.List.listTooLong;exact decide_eq_false (by lia)
end
section
variable {X:Cx}
noncomputable def oU:V->List V->Hp->VK->Prop:=fun x vs H Q=>∃ l xs y,x=.ref l/\vs=[y]/\H l=some (.lst xs)/\xs.length<sizeLine/\Q .non (A0 H l (.lst (xs++[y])))
theorem agd:iD X "list.append" oU:=by
 intro pins s O H x vs v us Q I rx rv h;obtain ⟨l,xs,y,rfl,rfl,hH,hz,q⟩:=h
 cases rx
 obtain ⟨u,rfl,ru⟩:=rv.one;obtain ⟨z,its,n,r,hl,e⟩:=I.lstM hH;refine call_meets F.slot_list_append ⟨_,e,rfl⟩ F.entry_list_append (F.args_list_append_2 _ _) (PySem.list_append l its.toArray n u (by rw [E7];lia)) ⟨e,?_⟩;refine ⟨.non,_,I.lset (its':=its++[u]) hH e (by simp) (r.append (.cons ru .nil)) ?_,rfl,q⟩;rw [C8,R3];lia
noncomputable def tM:V->List V->Hp->VK->Prop:=fun x vs H Q=>∃ l b xs zs,x=.ref l/\vs=[.ref b]/\H l=some (.lst xs)/\H b=some (.lst zs)/\xs.length+zs.length<=sizeLine/\Q .non (A0 H l (.lst (xs++zs)))
theorem ajt:iD X "list.extend" tM:=by
 intro pins s O H x vs v us Q I rx rv h;obtain ⟨l,b,xs,zs,rfl,rfl,hH,hB,hz,q⟩:=h
 cases rx
 obtain ⟨u,rfl,ru⟩:=rv.one
 cases ru
 obtain ⟨z,its,n,r,hl,e⟩:=I.lstM hH;obtain ⟨z2,its2,n2,r2,X4,e2⟩:=I.lstM hB;have hsz:its.toArray.size+its2.toArray.size<=sizeLine:=by rw [E7,E7];lia
 have V7:¬ (!its.toArray.isEmpty&&Builtin.List.listTooLong (its.toArray.size+its2.toArray.size))=true:=by
  rw [tL hsz,Bool.and_false];exact L3
 refine call_meets F.slot_list_extend ⟨_,e,rfl⟩ F.entry_list_extend (F.args_list_extend_2 _ _)
  (AutoSeq1.list_extend_list_list_0 l its.toArray n b its2.toArray n2 V7 (by rw [E7];lia) (by lia)) ⟨e,e2,?_⟩
 refine ⟨.non,_,I.lset (its':=its++its2) hH e (by simp) (r.append r2) ?_,rfl,q⟩;rw [C8];lia
noncomputable def rCat:R2:=fun x y H Q=>∃ l b xs zs,x=.ref l/\y=.ref b/\H l=some (.lst xs)/\H b=some (.lst zs)/\xs.length+zs.length<=sizeLine/\∀ p,H p=none->Q (.ref p) (A0 H p (.lst (xs++zs)))
theorem ao8:K1 X (binaryOp .Add) rCat:=by
 intro pins s O H x y v u Q I rx ry h;obtain ⟨l,b,xs,zs,rfl,rfl,hH,hB,hz,q⟩:=h
 cases rx
 cases ry
 obtain ⟨z,its,n,r,hl,e⟩:=I.lstM hH;obtain ⟨z2,its2,n2,r2,X4,e2⟩:=I.lstM hB;refine PySem.P.add_list e e2 ?_ (by rw [E7,E7];lia);have ea:its.toArray++its2.toArray=(its++its2).toArray:=by simp
 rw [ea];exact ⟨.ref _,_,I.lnew (t':=s.toks) (r.append r2) (by rw [C8];lia),rfl,q _ I.fresh⟩
noncomputable def rRep:R2:=fun x y H Q=>∃ l k xs,x=.ref l/\y=.int k/\H l=some (.lst xs)/\-(2 ^ 63)<=k/\k<2 ^ 63/\xs.length*k.toNat<=sizeLine/\
 ∀ p,H p=none->Q (.ref p) (A0 H p (.lst (W1 k.toNat xs).flatten))
theorem ani{α:Type}(xs:List α)(k:Nat):(W1 k xs).flatten.length=k*xs.length:=by
 induction k with
 | zero=>simp
 | succ k ih=>rw [gI,gO,C8,ih,Nat.succ_mul,Nat.add_comm]
theorem ao9:K1 X (binaryOp .Mult) rRep:=by
 intro pins s O H x y v u Q I rx ry h;obtain ⟨l,k,xs,rfl,rfl,hH,h1,h2,hz,q⟩:=h
 cases rx
 obtain ⟨t,rfl⟩:=ry;obtain ⟨z,its,n,r,hl,e⟩:=I.lstM hH;have A9:its.toArray.size*k.toNat<=sizeLine:=by rw [E7,<- hl];exact hz
 have yE:¬ its.toArray.size*k.toNat > (2 ^ 63-1) / 8:=by
  have:(sizeLine:Nat)<=(2 ^ 63-1) / 8:=by decide
  lia
 have yF:¬ (!Builtin.List.listFitsIndex k)=true:=by
  rw [fitsIndex_both h1 h2];exact L3
 have V7:¬ Builtin.List.listTooLong (its.toArray.size*k.toNat)=true:=by
  rw [tL A9];exact L3
 have O9:List.foldl (fun x1 x2=>x1++x2) #[] (W1 (if its.toArray.isEmpty=true then 0 else k.toNat) its.toArray)=(W1 k.toNat its).flatten.toArray:=by
  have f0:∀ m:Nat,List.foldl (fun x1 x2=>x1++x2) #[] (W1 m its.toArray)=(W1 m its).flatten.toArray:=fun m=>by
   have:=agc its m []
   rw [bS] at this;exact this
  rw [f0]
  cases its with
  | nil=>simp
  | cons a r'=>rw [if_neg (by simp)]
 refine wpAny_binaryOp_repeat_ref (T:="list") (U:="int") (by decide) ⟨_,e,rfl⟩ (fun s'=>typeIs_int s' k t) noFill_list_mul F.fills_int_mul F.slot_int_rmul repeat_list F.slot_int_index.lookup
  (call_meets F.slot_int_rmul (typeIs_int s k t) F.entry_int_rmul (F.args_int_rmul_2 _ _) (int___rmul___int_list k t l its.toArray n)
   ⟨e,rfl,⟨_,e,rfl⟩,call_meets F.slot_list_mul ⟨_,e,rfl⟩ F.entry_list_mul (F.args_list_mul_2 _ _) (AutoListH.list___mul___list_int_3 l its.toArray n k t yF yE V7) ⟨e,?_⟩⟩)
 rw [O9];exact ⟨.ref _,_,I.lnew (t':=s.toks) (r.rep k.toNat) (by rw [ani,Nat.mul_comm];exact hz),rfl,q _ I.fresh⟩
end
section
variable {prog:Program} {w:World} {A:Around} {E:Value->Shared->Prop} {s:Shared}
end
section
variable {X:Cx}
end
end L2
namespace Att
open PySem PySem.W PySem.Calls PyProof.Rows
theorem aed{P:Params} : ∀ (ns:List Int) (vs:List Value),WellAll P h vs (ns.map WData.int)->IntsAre vs ns:=by
 intro ns
 induction ns with
 | nil=>
  intro vs w;rw [List.map_nil] at w
  cases w
  exact .nil
 | cons n ns ih=>
  intro vs w;rw [K5] at w
  cases w with
  | cons a b=>
   cases a
   exact .cons _ _ (ih _ b)
theorem aju{l:OpenLaw}(hn:l.most=some n){P:Params}{args:List WData}{vals:List Value}(aX:l.row.toRowW.claim.pre args=true)(yG:WellAll P h vals args) :
  ∃ a vs ns,vals=[Value.ref a]/\args=[WData.list (ns.map WData.int)]/\h.get? a=some { cls:=.type "list",data:=.seq vs.toArray }/\IntsAre vs ns/\ns.length<=n:=by
 have hsh:WShape.hasAll [] args [.list .int]=true:=(pre_splitW aX).1;have hc:l.pre.holds [] { args:=args }=true:=(pre_splitW aX).2;obtain ⟨d,r,rfl,h1,h2⟩:=hasAllW_cons hsh;obtain rfl:=hasAllW_nil h2;obtain ⟨xs,rfl,h3⟩:=hasW_list h1;obtain ⟨ns,rfl⟩:=items_int h3;have A9:ns.length<=n:=by
  unfold OpenLaw.pre at hc;have h4:(WTm.not (.lt (.lit (.int (n:Int))) (.len (.arg 0)))).holds [] { args:=[.list (ns.map .int)] }=true:=by
   have h4:=(holds_andW hc).1;rw [hn] at h4;exact h4
  have h5:=condW_of h4 (w_not (w_lt w_lit (w_len_list (w_arg rfl))));rw [A4] at h5;refine Nat.le_of_not_lt fun q=>?_
  have q':(n:Int)<((ns.length:Nat):Int):=by lia
  first
   | (rw [decide_eq_true q'] at h5;exact absurd h5 (by decide))
   | (simp at h5;lia)
 cases yG with
 | cons w1 w2=>
  cases w2
  cases w1 with
  | list ho aY=>exact ⟨_,_,ns,rfl,rfl,ho,aed ns _ aY,A9⟩
theorem ajv(l:OpenLaw)(args:List WData):l.row.toRowW.claim.post args (.bool true) args=true:=
 postW_of (r:=l.row.toRowW) (X:=(true==true))
  (show WShape.has [] (.bool true) .bool=true by first | rfl | decide | simp [WShape.has,WShape.arms,WShape.armsAll])
  (show (WTm.eq .res (.lit (.bool true))).value [] { args:=args,res:=some (.bool true),after:=args }=some (.bool (true==true)) from w_eq_bool (w_res rfl) w_lit) rfl
theorem attach_call{l:OpenLaw}{q:Program}{XP:(Str->Option Value)->Heap->Prop}{YP:World->Heap->Prop}{d:DefRec}(hn:l.most=some n)(y0:d.params.defaults=[])(call:∀ (w:World) (s₀ zu:Shared) (mg mb:Str->Option Value) (fa:Addr) (o:Obj) (pm cd doc:Value) (a:Addr) (vs:List Value) (ns:List Int),
   Ground q loose [] XP w s₀ mg mb zu.heap->YP w zu.heap->
   zu.heap.get? fa=some o->o.data=.func (docDef d.name d.params d.body d.scope pm cd doc)->zu.heap.CodeRec cd d.name->mg d.name=some (.ref fa)->
   zu.heap.get? a=some { cls:=.type "list",data:=.seq vs.toArray }->IntsAre vs ns->ns.length<=n->zu.gens=#[]->
   codeAny (model l.prog w) callerA (.call (.ref fa) ⟨[.ref a],[]⟩) (fun r s'=>r=.ok (.ret (.bool true))/\OldK zu.heap s'.heap/\s'.os=zu.os/\AllBare s'.gens) zu) :
  WalkO q loose XP YP l.row.toRowW d [] (fun f vs=>PySem.call f vs):=by
 intro w s₀ zu mg mb G Y fa o pm cd doc dV kV ho hd P7 hD mM hg args vals as aX hlay hrd yG hlo;obtain rfl:dV=.none:=Dflts.none hD y0;obtain rfl:kV=.none:=Dflts.noKw hD;obtain ⟨a,vs,ns,rfl,rfl,fB,m9,A9⟩:=aju hn aX yG;refine enter_call (codeAny_mono (call w s₀ zu mg mb fa o pm cd doc a vs ns G Y ho (fd_plain hd) P7 mM fB m9 A9 hg) fun r s' hq=>?_);obtain ⟨rfl,h2,h3,h4⟩:=hq;exact ⟨.inl ⟨.bool true,.bool true,[],rfl,fun _=>rfl,.bool true,ajv l _,fun _=>⟨List.Pairwise.nil,fun _ hm=>(nomatch hm)⟩⟩,h2,h3,h4⟩
section
variable {prog:Program} {w:World} {A:Around} {E:Value->Shared->Prop} {s:Shared} {K:Frag}
end
end Att
namespace L2
open PySem PySem.Spec PyProof.Rows
theorem age:∀ {vs:List Value} {ns:List Int},IntsAre vs ns->Vals (ns.map V.int) vs
 | _,_,.nil=>.nil
 | _,_,.cons n t h=>.cons ⟨t,rfl⟩ (age h)
end L2
namespace L2
open PySem PySem.Spec PyProof.Rows
end L2
namespace L2
open PySem PySem.Spec PyProof.Rows
noncomputable def aJ (s:Stmt) (j:Nat):Stmt:=match s with
 | .ClassDef _ _ _ body _ _ _ _ _ _ _=>body.getD j (.Pass ⟨0,0,0,0⟩)
 | _=>.Pass ⟨0,0,0,0⟩
noncomputable def Q5 (s:Stmt):Arguments:=match s with
 | .FunctionDef _ a _ _ _ _ _ _ _ _=>a
 | _=>{ posonlyargs:=[],args:=[],vararg:=none,kwonlyargs:=[],kw_defaults:=[],kwarg:=none,defaults:=[] }
noncomputable def P5 (s:Stmt):List Stmt:=match s with
 | .FunctionDef _ _ b _ _ _ _ _ _ _=>b
 | _=>[]
noncomputable def C3 (s:Stmt):Scope:=match s with
 | .FunctionDef _ _ _ _ _ _ sc _ _ _=>sc
 | _=>{ kind:=.function,names:=[],isGenerator:=false,isCoroutine:=false }
noncomputable abbrev D9:Z8:=fun _ _ _ _ _ _=>False
noncomputable abbrev E0:XK:=fun _ _ _=>False
theorem pass0 : eA D9 X E0:=fun _ _ _ _ _ _ _ h=>h.elim
structure Fun(K:PySem.W.Frag)(x qual:Str)(st:Stmt)(f:Addr)(fd:FuncData):Prop where
 ex:∃ (oc:Value) (od:Option Addr) (kV doc pm:Value) (an:Option Addr) (cdv ct:Value) (osl:Array (Option Value)),
  fd=P3 x qual (Q5 st) (P5 st) (C3 st) .none kV doc pm an cdv ct/\K.lookup f=some ⟨oc,od,.func fd,osl⟩/\T0 K cdv qual=true
 kp:Q4 K (.ref f)=true
section
variable {P:Program} {w:World} {K:PySem.W.Frag} {mg:Str->Option Value} {base:Heap}
end
theorem hu_of(hr:Room k A):A.units+1<cLine:=Nat.lt_of_le_of_lt (Nat.add_le_add_left (by decide:1<=64) _) hr.units
section
variable {X:Cx}
end
theorem iteF{A B:Prop}(h:B):if false=true then A else B:=by
 rw [if_neg L3];exact h
theorem iteT{A B:Prop}(h:A):if true=true then A else B:=by
 rw [if_pos rfl];exact h
noncomputable def Same (H H':Hp):Prop:=∀ b o,H b=some o->H' b=some o
theorem Same.refl(H:Hp):Same H H:=fun _ _ h=>h
theorem Same.trans(a:Same H H1)(b:Same H1 H2):Same H H2:=fun c o h=>b c o (a c o h)
theorem Same.free(e:Same H H'){l:Addr}(h:H' l=Option.none):H l=Option.none:=by
 cases q:H l with
 | none=>rfl
 | some o=>
  rw [e l o q] at h;cases h
theorem Same.seq(e:Same H H')(h:C7 K H a xs):C7 K H' a xs:=by
 rcases h with (h | ⟨o,h⟩) | h
 .exact .inl (.inl (e _ _ h))
 .exact .inl (.inr ⟨o,e _ _ h⟩)
 .exact .inr h
end L2
set_option maxRecDepth 100000
namespace L2
open PySem PySem.Spec PyProof.Rows
section
variable {κ:Type} [DecidableEq κ]
noncomputable def valV (kvs:List (κ×V)) (k:κ):Option V:=(kvs.find? fun kv=>decide (kv.1=k)).map (·.2)
noncomputable def putK (kvs:List (κ×V)) (k:κ) (v:V):List (κ×V):=
 if (kvs.any fun kv=>decide (kv.1=k))=true then kvs.map (fun kv=>if kv.1=k then (kv.1,v) else kv) else kvs++[(k,v)]
noncomputable def dropK (kvs:List (κ×V)) (k:κ):List (κ×V):=kvs.filter fun kv=>decide (kv.1≠k)
theorem oV{p:κ×V}{r:List (κ×V)}{k:κ}(e:p.1=k):valV (p::r) k=some p.2:=by simp [valV,r8,e]
theorem aK{p:κ×V}{r:List (κ×V)}{k:κ}(e:¬ p.1=k):valV (p::r) k=valV r k:=by simp [valV,r8,e]
theorem tN(k:κ):∀ kvs:List (κ×V),(kvs.any fun kv=>decide (kv.1=k))=(valV kvs k).isSome
 | []=>rfl
 | p::r=>by
  rw [t7]
  by_cases e:p.1=k
  .simp only [oV e,decide_eq_true e,Bool.true_or,Option.isSome_some]
  .rw [aK e,decide_eq_false e,Bool.false_or];exact tN k r
theorem tO(kvs:List (κ×V))(k:κ)(v:V):(putK kvs k v).length<=kvs.length+1:=by
 unfold putK
 split
 .rw [A4];lia
 .rw [C8,G6,k4];lia
theorem ala{kvs:List (κ×V)}{k:κ}(v:V)(h:valV kvs k=none):putK kvs k v=kvs++[(k,v)]:=by
 unfold putK;rw [tN,h];exact if_neg (by decide)
theorem RelO.isSome_eq{o:Option V}{u:Option Value}(r:RelO o u):o.isSome=u.isSome:=by
 cases o with
 | none=>cases u with
  | none=>rfl
  | some _=>exact (show False from r).elim
 | some _=>cases u with
  | none=>exact (show False from r).elim
  | some _=>rfl
theorem RelO.getD{o:Option V}{u:Option Value}{d:V}{d':Value}(r:RelO o u)(rd:RelV d d'):RelV (o.getD d) (u.getD d'):=by
 cases o with
 | none=>cases u with
  | none=>exact rd
  | some _=>exact (show False from r).elim
 | some _=>cases u with
  | none=>exact (show False from r).elim
  | some _=>exact r
theorem KV.val{kvs:List (κ×V)}{vs:List (κ×Value)}(r:KV kvs vs)(k:κ):RelO (valV kvs k) (valueAt vs k):=by
 unfold KV at r
 induction r with
 | nil=>exact True.intro
 | @cons p q ps qs h t ih=>
  obtain ⟨h1,h2⟩:=h
  by_cases e:p.1=k
  .have e':q.1=k:=h1.symm.trans e;have b:valueAt (q::qs) k=some q.2:=by simp [valueAt,r8,e']
   rw [oV e,b];exact h2
  .have e':¬ q.1=k:=fun z=>e (h1.trans z)
   have b:valueAt (q::qs) k=valueAt qs k:=by simp [valueAt,r8,e']
   rw [aK e,b];exact ih
theorem KV.any{kvs:List (κ×V)}{vs:List (κ×Value)}(r:KV kvs vs)(k:κ):(kvs.any fun kv=>decide (kv.1=k))=vs.any fun kv=>decide (kv.1=k):=by
 unfold KV at r
 induction r with
 | nil=>rfl
 | cons h t ih=>rw [t7,t7,ih,h.1]
theorem KV.repl{kvs:List (κ×V)}{vs:List (κ×Value)}(r:KV kvs vs)(k:κ){y:V}(ry:RelV y u) :
  KV (kvs.map fun kv=>if kv.1=k then (kv.1,y) else kv) (vs.map fun kv=>if kv.1=k then (kv.1,u) else kv):=by
 unfold KV at r ⊢
 induction r with
 | nil=>exact .nil
 | @cons p q ps qs h t ih=>
  rw [K5,K5];refine .cons ?_ ih;obtain ⟨h1,h2⟩:=h
  by_cases e:p.1=k
  .rw [if_pos e,if_pos (h1.symm.trans e)];exact ⟨h1,ry⟩
  .rw [if_neg e,if_neg (fun z=>e (h1.trans z))];exact ⟨h1,h2⟩
theorem KV.put{kvs:List (κ×V)}{vs:List (κ×Value)}(r:KV kvs vs)(k:κ){y:V}(ry:RelV y u):KV (putK kvs k y) (stored vs k u):=by
 unfold putK stored;rw [r.any k]
 by_cases e:(vs.any fun kv=>decide (kv.1=k))=true
 .rw [if_pos e,if_pos e];exact r.repl k ry
 .rw [if_neg e,if_neg e];exact Paired.snoc r ⟨rfl,ry⟩
theorem KV.drop{kvs:List (κ×V)}{vs:List (κ×Value)}(r:KV kvs vs)(k:κ):KV (dropK kvs k) (without vs k):=by
 unfold KV at r ⊢
 unfold dropK without
 induction r with
 | nil=>exact .nil
 | @cons p q ps qs h t ih=>
  obtain ⟨h1,h2⟩:=h;rw [gQ,gQ]
  by_cases e:p.1=k
  .have a:¬ decide (p.1≠k)=true:=by simp [e]
   have b:¬ decide (q.1≠k)=true:=by simp [h1.symm.trans e]
   rw [if_neg a,if_neg b];exact ih
  .have e':¬ q.1=k:=fun z=>e (h1.trans z)
   have a:decide (p.1≠k)=true:=by simp [e]
   have b:decide (q.1≠k)=true:=by simp [e']
   rw [if_pos a,if_pos b];exact .cons ⟨h1,h2⟩ ih
theorem KV.keys{kvs:List (κ×V)}{vs:List (κ×Value)}(r:KV kvs vs):kvs.map (·.1)=vs.map (·.1):=by
 unfold KV at r
 induction r with
 | nil=>rfl
 | cons h t ih=>rw [K5,K5,ih,h.1]
theorem KV.length{kvs:List (κ×V)}{vs:List (κ×Value)}(r:KV kvs vs):kvs.length=vs.length:=Paired.length r
theorem alb(kvs:List (κ×V))(k:κ):(dropK kvs k).length<=kvs.length:=oH _ _
end
theorem kV_is{P:Program}{w:World}{k:C1}(r:RelV (kV k) u):(M7 P w).is k u=true:=by
 cases k with
 | inl i=>obtain ⟨t,e⟩:=(show ∃ t,u=Value.int i t from r);subst e;exact agX P w i t
 | inr x=>obtain ⟨t,e⟩:=(show ∃ t,u=Value.str x t from r);subst e;exact agY P w x t
theorem agf{P:Program}{w:World} : ∀ {ks:List C1} {us:List Value},Vals (ks.map kV) us->ItemsAre (M7 P w) ks us
 | [],_,r=>by rw [List.map_nil] at r;cases r;exact .nil
 | k::ks,_,r=>by
  rw [K5] at r
  cases r with
  | cons h t=>exact .cons (kV_is h) (agf t)
noncomputable abbrev KT (H:Hp):List (List C1×V)->List (List C1×Addr×Value)->Prop:=Paired fun p q=>p.1=q.1/\H q.2.1=some (.tup (p.1.map kV))/\RelV p.2 q.2.2
theorem KT.val{kvs:List (List C1×V)}{xs:List (List C1×Addr×Value)}(r:KT H kvs xs)(k:List C1):RelO (valV kvs k) ((atKey xs k).map (·.2)):=by
 induction r with
 | nil=>exact True.intro
 | @cons p q ps qs h t ih=>
  obtain ⟨h1,_,h2⟩:=h
  by_cases e:p.1=k
  .have e':q.1=k:=h1.symm.trans e;have b:atKey (q::qs) k=some q.2:=by simp [atKey,r8,e']
   rw [oV e,b];exact h2
  .have e':¬ q.1=k:=fun z=>e (h1.trans z)
   have b:atKey (q::qs) k=atKey qs k:=by simp [atKey,r8,e']
   rw [aK e,b];exact ih
theorem KT.repl{kvs:List (List C1×V)}{xs:List (List C1×Addr×Value)}(r:KT H kvs xs)(k:List C1){y:V}(ry:RelV y u) :
  KT H (kvs.map fun kv=>if kv.1=k then (kv.1,y) else kv) (xs.map (putAt k u)):=by
 induction r with
 | nil=>exact .nil
 | @cons p q ps qs h t ih=>
  rw [K5,K5];refine .cons ?_ ih;obtain ⟨h1,h2,h3⟩:=h;unfold putAt
  by_cases e:p.1=k
  .rw [if_pos e,if_pos (h1.symm.trans e)];exact ⟨h1,h2,ry⟩
  .rw [if_neg e,if_neg (fun z=>e (h1.trans z))];exact ⟨h1,h2,h3⟩
theorem KT.put{kvs:List (List C1×V)}{xs:List (List C1×Addr×Value)}(r:KT H kvs xs)(k:List C1){y:V}(hb:H b=some (.tup (k.map kV)))(ry:RelV y u) :
  KT H (putK kvs k y) (storedH xs k b u):=by
 have e:(kvs.any fun kv=>decide (kv.1=k))=(atKey xs k).isSome:=by
  rw [tN,(r.val k).isSome_eq,Option.isSome_map]
 unfold putK storedH;rw [e]
 by_cases q:(atKey xs k).isSome=true
 .rw [if_pos q,if_pos q];exact r.repl k ry
 .rw [if_neg q,if_neg q];exact Paired.snoc r ⟨rfl,hb,ry⟩
theorem KT.keeps{kvs:List (List C1×V)}{xs:List (List C1×Addr×Value)}(r:KT H kvs xs)(ht:∀ b ys,H b=some (.tup ys)->H' b=some (.tup ys)):KT H' kvs xs:=
 T3 r fun _ _ z=>⟨z.1,ht _ _ z.2.1,z.2.2⟩
section
variable {P:Program} {w:World} {H:Hp} {h:Heap} {a:Addr}
theorem rd_of{u:HO}(ok:L6 P w H h)(e:Rd H a u):ObjOk P w H h a u:=e.ok ok
theorem dk_rd(ok:L6 P w H h)(e:Rd H a (.dK kvs)):kvs.length<=sizeLine/\(a==sysModules)=false/\∃ vs,KV kvs vs/\h.DictOf (M7 P w) a vs:=
 show ObjOk P w H h a (.dK kvs) from rd_of ok e
theorem dk_of(ok:L6 P w H h)(e:H a=some (.dK kvs)):kvs.length<=sizeLine/\(a==sysModules)=false/\∃ vs,KV kvs vs/\h.DictOf (M7 P w) a vs:=dk_rd ok (.inl e)
theorem eD{ks:List C1}(ok:L6 P w H h)(e:H a=some (.tup (ks.map kV))):(tupleKind (M7 P w)).is h ks a:=by
 obtain ⟨_,its,r,o,h1,h2,n,h3⟩:=(show ObjOk P w H h a (.tup (ks.map kV)) from ok a _ e)
 exact ⟨o,its.toArray,n,h1,h2,h3,by simpa using agf r⟩
theorem dt_rd{kvs:List (List C1×V)}(ok:L6 P w H h)(e:Rd H a (.dT kvs)):kvs.length<=sizeLine/\(a==sysModules)=false/\
  ∃ xs,KT H kvs xs/\h.DictOfH (tupleKind (M7 P w)) a xs:=by
 obtain ⟨z,y,xs,r,o,es,ep,h1,h2,h3,h4,h5⟩:=(show ObjOk P w H h a (.dT kvs) from rd_of ok e)
 refine ⟨z,y,xs,r,o,es,ep,h1,h2,h3,h4,fun x hx=>?_,h5⟩;have all:∀ {l:List (List C1×V)} {m:List (List C1×Addr×Value)},KT H l m->∀ x∈m,(tupleKind (M7 P w)).is h x.1 x.2.1:=by
  intro l m q
  induction q with
  | nil=>intro x hx;exact nomatch hx
  | @cons p q ps qs hq t ih=>
   intro x hx
   rcases E4.mp hx with e | hx
   .subst e;exact eD ok (by rw [<- hq.1];exact hq.2.1)
   .exact ih x hx
 exact all r x hx
theorem dt_of{kvs:List (List C1×V)}(ok:L6 P w H h)(e:H a=some (.dT kvs)):kvs.length<=sizeLine/\(a==sysModules)=false/\
  ∃ xs,KT H kvs xs/\h.DictOfH (tupleKind (M7 P w)) a xs:=dt_rd ok (.inl e)
end
noncomputable def DGet (H:Hp) (a:Addr) (y:V) (r:Option V):Prop:=
 (∃ kvs k,Rd H a (.dK kvs)/\y=kV k/\r=valV kvs k)\/∃ kvs k b,Rd H a (.dT kvs)/\y=.ref b/\H b=some (.tup (k.map kV))/\r=valV kvs k
noncomputable def DPut (H:Hp) (a:Addr) (y v:V) (H':Hp):Prop:=
 (∃ kvs k,H a=some (.dK kvs)/\y=kV k/\kvs.length<sizeLine/\H'=A0 H a (.dK (putK kvs k v)))\/
 ∃ kvs k b,H a=some (.dT kvs)/\y=.ref b/\H b=some (.tup (k.map kV))/\kvs.length<sizeLine/\H'=A0 H a (.dT (putK kvs k v))
theorem W4{k:C1}(e:H a=some (.dK kvs)):DGet H a (kV k) (valV kvs k):=.inl ⟨kvs,k,.inl e,rfl,rfl⟩
theorem v4{k:C1}{v:V}(e:H a=some (.dK kvs))(hl:kvs.length<sizeLine):DPut H a (kV k) v (A0 H a (.dK (putK kvs k v))):=.inl ⟨kvs,k,e,rfl,hl,rfl⟩
section
variable {X:Cx} {pins:List (Addr×Obj)} {O:St} {H:Hp} {s:Shared} {a:Addr} {y v:V} {u r:Value} {o:Option V} {A:Around} {E:Value->Shared->Prop}
theorem Inv.big(I:Inv X pins O H s):sysModules<s.heap.objs.size:=by
 have h:mainGlobals<s.heap.objs.size:=(I.mod.glob.keeps I.bk).lt;exact Nat.lt_trans (by decide) h
theorem agg{Q:Value->Shared->Prop}(hu:A.units+1<cLine)(I:Inv X pins O H s)(g:DGet H a y (some v))(ry:RelV y u)(h:∀ w' s',Inv X pins O H s'->RelV v w'->Q w' s') :
  wpAny (model X.prog X.w) A (getItem (.ref a) u) Q E s:=by
 rcases g with ⟨kvs,k,e,ey,l⟩ | ⟨kvs,k,b,e,ey,eb,l⟩
 .subst ey;obtain ⟨z,hd,vs,rel,dd⟩:=dk_rd I.hok e;obtain ⟨w',hw,rw'⟩:=kW (v:=v) (o:=valueAt vs k) (by rw [l];exact rel.val k);exact wpAny_getItem_of (kV_is ry) dd.mapOf hw (h w' _ (I.tok _) rw')
 .subst ey
  cases (show u=Value.ref b from ry)
  obtain ⟨z,hd,xs,rel,dd⟩:=dt_rd I.hok e;obtain ⟨w',hw,rw'⟩:=kW (v:=v) (o:=(atKey xs k).map (·.2)) (by rw [l];exact rel.val k);obtain ⟨p,hp,j8⟩:=kQ.mp hw;refine wpAny_getItem_heap (tupleKind_room_in1 hu) (eD I.hok eb) dd hp ?_;rw [j8];exact h w' _ (I.tok _) rw'
theorem d_in{Q:Value->Shared->Prop}(hu:A.units+1<cLine)(I:Inv X pins O H s)(g:DGet H a y o)(ry:RelV y u)(h:∀ s',Inv X pins O H s'->Q (.bool o.isSome) s') :
  wpAny (model X.prog X.w) A (compareOp .In u (.ref a)) Q E s:=by
 rcases g with ⟨kvs,k,e,ey,l⟩ | ⟨kvs,k,b,e,ey,eb,l⟩
 .subst ey;obtain ⟨z,hd,vs,rel,dd⟩:=dk_rd I.hok e;refine wpAny_in_of (kV_is ry) hd dd.mapOf ?_;rw [<- (rel.val k).isSome_eq,<- l];exact h _ (I.tok _)
 .subst ey
  cases (show u=Value.ref b from ry)
  obtain ⟨z,hd,xs,rel,dd⟩:=dt_rd I.hok e;refine wpAny_in_heap (tupleKind_room_in1 hu) (eD I.hok eb) hd dd ?_;have q:=(rel.val k).isSome_eq;rw [Option.isSome_map] at q;rw [<- q,<- l];exact h _ (I.tok _)
theorem anj{Q:Value->Shared->Prop}(hu:A.units+1<cLine)(I:Inv X pins O H s)(g:DGet H a y o)(ry:RelV y u)(h:∀ s',Inv X pins O H s'->Q (.bool (!o.isSome)) s') :
  wpAny (model X.prog X.w) A (compareOp .NotIn u (.ref a)) Q E s:=by
 rcases g with ⟨kvs,k,e,ey,l⟩ | ⟨kvs,k,b,e,ey,eb,l⟩
 .subst ey;obtain ⟨z,hd,vs,rel,dd⟩:=dk_rd I.hok e;refine wpAny_notIn_of (kV_is ry) hd dd.mapOf ?_;rw [<- (rel.val k).isSome_eq,<- l];exact h _ (I.tok _)
 .subst ey
  cases (show u=Value.ref b from ry)
  obtain ⟨z,hd,xs,rel,dd⟩:=dt_rd I.hok e;refine wpAny_notIn_heap (tupleKind_room_in1 hu) (eD I.hok eb) hd dd ?_;have q:=(rel.val k).isSome_eq;rw [Option.isSome_map] at q;rw [<- q,<- l];exact h _ (I.tok _)
theorem oW{ob:HO}(I:Inv X pins O H s)(mu:kR (H a))(hs:Heap.SameBut a s.heap h')(he:∃ q,h'.get? a=some q)(new:ObjOk X.prog X.w (A0 H a ob) h' a ob) :
  Inv X pins O (A0 H a ob) { s with heap:=h',toks:=t' }:=
 I.write (x:=a) (e:=a) mu (.inl rfl) (fun b q hb z=>(hs.2 b hb).trans z) he new
theorem oX{P:Program}{w:World}{vs:List (C1×Value)}(z:kvs.length<=sizeLine)(hd:(a==sysModules)=false)(rel:KV kvs vs)(dd:h'.DictOf (M7 P w) a vs) :
  ObjOk P w H' h' a (.dK kvs):=⟨z,hd,vs,rel,dd⟩
theorem agh{Q:Unit->Shared->Prop}(hu:A.units+1<cLine)(I:Inv X pins O H s)(g:DPut H a y v H')(ry:RelV y u)(rv:RelV v r)(h:∀ s',Inv X pins O H' s'->Q () s') :
  wpAny (model X.prog X.w) A (setItem (.ref a) u r) Q E s:=by
 rcases g with ⟨kvs,k,e,ey,l,eH⟩ | ⟨kvs,k,b,e,ey,eb,l,eH⟩
 .subst ey eH;obtain ⟨z,hd,vs,rel,dd⟩:=dk_of I.hok e;have hz:vs.length<=sizeLine:=by rw [<- rel.length];exact z
  have hl:(putK kvs k v).length<=sizeLine:=by have:=tO kvs k v;lia
  refine wpAny_setItem_pairs (hsz:=hz) (kV_is ry) dd fun h' dd' hs=>h _ ?_
  have he:∃ q,h'.get? a=some q:=let ⟨q,_,_,hq,_⟩:=dd';⟨q,hq⟩
  exact oW I (by rw [e];exact True.intro) hs he (oX hl hd (rel.put k rv) dd')
 .subst ey eH
  cases (show u=Value.ref b from ry)
  obtain ⟨z,hd,xs,rel,dd⟩:=dt_of I.hok e;have hz:xs.length<=sizeLine:=by rw [<- Paired.length rel];exact z
  have hl:(putK kvs k v).length<=sizeLine:=by have:=tO kvs k v;lia
  refine wpAny_setItem_heap (hsz:=hz) (tupleKind_room_in1 hu) (eD I.hok eb) dd fun h' dd' hs=>h _ ?_
  obtain ⟨q,es,ep,hq,h2,h3,h4,_,h5⟩:=dd';refine oW I (by rw [e];exact True.intro) hs ⟨q,hq⟩ ⟨hl,hd,_,(rel.put k eb rv).keeps fun c ys ec=>?_,q,es,ep,hq,h2,h3,h4,h5⟩;rw [A3 (ne_of ec e (fun z=>nomatch z))];exact ec
end
section
variable {X:Cx} {pins:List (Addr×Obj)} {O:St} {H:Hp} {s:Shared} {a:Addr} {kvs:List (C1×V)} {k:C1} {u:Value} {A:Around} {E:Value->Shared->Prop}
theorem d_pop{v:V}{more:List Value}{Q:Value->Shared->Prop}(I:Inv X pins O H s)(e:H a=some (.dK kvs))(ry:RelV (kV k) u)(l:valV kvs k=some v)(hm:more=[]\/∃ x,more=[x])(h:∀ w' s',Inv X pins O (A0 H a (.dK (dropK kvs k))) s'->RelV v w'->Q w' s'):wpAny (model X.prog X.w) A (call (.builtin "dict.pop") (.ref a::u::more)) Q E s:=by
 obtain ⟨z,hd,vs,rel,dd⟩:=dk_of I.hok e;obtain ⟨w',hw,rw'⟩:=kW (v:=v) (o:=valueAt vs k) (by rw [<- l];exact rel.val k);have hp:(keyPart u).isSome=true:=by
  cases k with
  | inl i=>obtain ⟨t,q⟩:=(show ∃ t,u=Value.int i t from ry);subst q;rfl
  | inr x=>obtain ⟨t,q⟩:=(show ∃ t,u=Value.str x t from ry);subst q;rfl
 have ha:argsOk "dict.pop" ⟨.ref a::u::more,[]⟩:=by
  rcases hm with q | ⟨x,q⟩
  .subst q;exact PySem.F.args_dict_pop_2 _ _
  .subst q;exact PySem.F.args_dict_pop_3 _ _ _
 refine call_meetsIn PySem.F.slot_dict_pop dd.typeIs PySem.F.entry_dict_pop ha (meets_dict_pop_there (M7 X.prog X.w) a (kV_is ry) more hm hp)
  ⟨vs,w',dd,by rw [<- rel.length];exact z,hw,fun h' dd' hs=>h w' _ ?_ rw'⟩
 have he:∃ q,h'.get? a=some q:=let ⟨q,_,_,hq,_⟩:=dd';⟨q,hq⟩
 exact oW I (by rw [e];exact True.intro) hs he (oX (K6 (alb kvs k) z) hd (rel.drop k) dd')
theorem d_len{Q:Value->Shared->Prop}(I:Inv X pins O H s)(e:Rd H a (.dK kvs))(h:∀ t s',Inv X pins O H s'->Q (.int kvs.length t) s'):wpAny (model X.prog X.w) A (call (.builtin "len") [.ref a]) Q E s:=by
 obtain ⟨z,hd,vs,rel,dd⟩:=dk_rd I.hok e;refine call_len_dict hd dd (by rw [<- rel.length];rw [sizeLine_eq] at z;lia) ?_;rw [<- rel.length];exact h _ _ (I.tok _)
end
noncomputable def NoSl (i:Expr):Prop:=∀ ov iv,subscripted i false ov iv=operate [ov,iv] (getItem ov iv)
theorem ajw{w:World}{env:Env}{value slice:Expr}{pos:Pos}{T id:String}{Q:Value->Shared->Prop}(hl:typeLookup (.type T) "__getitem__"=pure (some (.builtin id)))(hs:NoSl slice)(h:wpAny (model prog w) A (eval value env) (fun o zu=>wpAny (model prog w) A (eval slice env) (fun i zx=>zx.TypeIs o T/\wpAny (model prog w) A (getItem o i) Q E zx) E zu) E s) :
  wpAny (model prog w) A (eval (.Subscript value slice pos) env) Q E s:=by
 refine Subscript_ (wpAny_mono h (fun o zu zr=>wpAny_mono zr (fun i zx zq=>?_) fun _ _ x=>x) fun _ _ x=>x);obtain ⟨hT,zq⟩:=zq;unfold subscriptTail;refine wpAny_bind ?_;rw [getitemInPython_of_ne hT.not_modules];refine wpAny_bind (wpAny_specialOf hT hl ?_);have fin:wpAny (model prog w) A (subscripted slice false o i) (fun r zw=>wpAny (model prog w) A (letTemporaryGo value o r >>= fun _=>pure r) Q E zw) E zx:=by
  rw [hs o i];exact wpAny_operating (wpAny_mono zq (fun r zw zo=>wpAny_bind (wpAny_letTemporaryGo (wpAny_pure zo))) fun _ _ x=>x)
 first
  | exact wpAny_pure (wpAny_bind fin)
  | exact wpAny_bind (wpAny_pure (wpAny_bind fin))
  | exact wpAny_bind fin
theorem ag3{y:V}{o:Option V}(I:Inv X pins O H s)(g:DGet H a y o):s.TypeIs (.ref a) "dict":=by
 rcases g with ⟨kvs,k,e,_,_⟩ | ⟨kvs,k,b,e,_,_,_⟩
 .obtain ⟨_,_,vs,_,dd⟩:=dk_rd I.hok e;exact dd.typeIs
 .obtain ⟨_,_,xs,_,dd⟩:=dt_rd I.hok e;exact dd.typeIs
noncomputable def tDGet (td ty:TE):TE:=fun O H Q=>td O H fun x H1=>ty O H1 fun y H2=>∃ a v,x=.ref a/\DGet H2 a y (some v)/\Q v H2
noncomputable def sDPut (td ty tv:TE):TS:=fun D O H=>tv O H fun v H1=>td O H1 fun x H2=>ty O H2 fun y H3=>∃ a H4,x=.ref a/\DPut H3 a y v H4/\D.nx O H4
noncomputable def sDAug (td ty tv:TE) (rd:V->V->Hp->VK->Prop):TS:=fun D O H=>td O H fun x H1=>ty O H1 fun y H2=>∃ a v,x=.ref a/\DGet H2 a y (some v)/\
 tv O H2 fun y2 H3=>rd v y2 H3 fun z H4=>∃ H5,DPut H4 a y z H5/\D.nx O H5
section
variable {X:Cx} {o i e value:Expr} {pos pos' tpos:Pos} {td ty tv:TE}
theorem ank(hu:X.A.units+1<cLine)(ho:PE X o td)(hi:PE X i ty)(hs:NoSl i):PE X (.Subscript o i pos) (tDGet td ty):=by
 intro pins s O H Q I h;refine ajw PySem.F.slot_dict_getitem.lookup hs (B1 (ho pins s O H _ I h) fun u s1 ⟨x,H1,I1,rx,q1⟩=>B1 (hi pins s1 O H1 _ I1 q1) fun iv s2 ⟨y,H2,I2,ry,a,v,ex,g,q2⟩=>?_);subst ex;obtain rfl:u=Value.ref a:=rx;exact ⟨ag3 I2 g,agg hu I2 g ry fun w' s3 I3 rw'=>⟨v,H2,I3,rw',q2⟩⟩
theorem anl(hu:X.A.units+1<cLine)(ho:PE X o td)(hi:PE X i ty)(hv:PE X value tv)(hs:swapsWith value (some (.Subscript o i pos')) pos.line X.env=pure false) :
  PS X (.Assign [.Subscript o i pos'] value pos) (sDPut td ty tv):=by
 intro pins s O H D I h;refine wpAny_Assign_Subscript (B1 (hv pins s O H _ I h) fun r s1 ⟨v,H1,I1,rv,q1⟩=>B1 (ho pins s1 O H1 _ I1 q1) fun u s2 ⟨x,H2,I2,rx,q2⟩=>B1 (hi pins s2 O H2 _ I2 q2) fun iv s3 ⟨y,H3,I3,ry,a,H4,ex,g,q3⟩=>?_) hs;subst ex;obtain rfl:u=Value.ref a:=rx;exact agh hu I3 g ry rv fun s4 I4=>⟨O,H4,I4,q3⟩
theorem anm{op:Operator}{rd:V->V->Hp->VK->Prop}(hu:X.A.units+1<cLine)(ho:PE X o td)(hi:PE X i ty)(hv:PE X value tv)(yH:InOp X op rd)(ha:∀ ov iv new,augStore i ov iv new=(do holding [new,ov,iv] (setItem ov iv new);release [new,ov,iv] [];pure .next)):PS X (.AugAssign (.Subscript o i tpos) op value pos) (sDAug td ty tv rd):=by
 intro pins s O H D I h;refine wpAny_AugAssign_SubscriptAny (B1 (ho pins s O H _ I h) fun u s1 ⟨x,H1,I1,rx,q1⟩=>B1 (hi pins s1 O H1 _ I1 q1) fun iv s2 ⟨y,H2,I2,ry,a,v,ex,g,q2⟩=>?_) ha;subst ex;obtain rfl:u=Value.ref a:=rx;refine agg hu I2 g ry fun w' s3 I3 rw'=>B1 (hv pins s3 O H2 _ I3 q2) fun w2 s4 ⟨y2,H3,I4,ry2,q3⟩=>B1 (yH pins s4 O H3 v y2 w' w2 _ I4 rw' ry2 q3) fun w3 s5 ⟨z,H4,I5,rz,H5,g5,q4⟩=>?_
 exact agh hu I5 g5 ry rz fun s6 I6=>⟨O,H5,I6,q4⟩
end
theorem alc{P:Program}{w:World}(h:Heap)(hb:sysModules<h.objs.size):ObjOk P w H (h.push { cls:=.type "dict",data:=.dict #[] }) h.objs.size (.dK []):=
 ⟨F7 _,beq_eq_false_iff_ne.mpr (Ne.symm (I0 hb)),[],.nil,Heap.DictOf.new h⟩
noncomputable def tP:TE:=fun _ H Q=>∀ p,H p=none->Q (.ref p) (A0 H p (.dK []))
section
variable {X:Cx} {pos:Pos}
theorem ald:PE X (.Dict [] [] pos) tP:=fun pins s O H Q I h=>
 wpAny_Dict_empty ⟨.ref s.heap.objs.size,_,I.laid (a:=s.heap.objs.size) (o:=.dK []) (t':=s.toks) (fun _ _ q=>Heap.get?_push_of_some _ q) (B5 _) (alc s.heap I.big),rfl,h _ (I.hok.fresh (B5 _))⟩
end
noncomputable def iE:List (TE×TE)->St->Hp->(List (V×V)->Hp->Prop)->Prop
 | [],_,H,Q=>Q [] H
 | (tk,tv)::r,O,H,Q=>tk O H fun x H1=>tv O H1 fun y H2=>iE r O H2 fun ps H3=>Q ((x,y)::ps) H3
noncomputable def W5 (kvs more:List (C1×V)):List (C1×V):=more.foldl (fun acc kv=>putK acc kv.1 kv.2) kvs
theorem adk:∀ (more kvs:List (C1×V)),(W5 kvs more).length<=kvs.length+more.length
 | [],kvs=>by show kvs.length<=kvs.length+0;lia
 | p::r,kvs=>by
  have h1:=adk r (putK kvs p.1 p.2);have h2:=tO kvs p.1 p.2;show (W5 (putK kvs p.1 p.2) r).length<=_;rw [G6];lia
noncomputable def tDisp (trs:List (TE×TE)):TE:=fun O H Q=>∀ p,H p=none->iE trs O (A0 H p (.dK [])) fun ps H2=>H2 p=some (.dK [])/\∃ kvs:List (C1×V),ps=kvs.map (fun kv=>(kV kv.1,kv.2))/\kvs.length<=15/\Q (.ref p) (A0 H2 p (.dK (W5 [] kvs)))
structure M1(X:Cx)(o:Expr)(m:Str)(apos:Pos)(e:Expr)(cpos:Pos):Prop where
 base:attributeBase o m X.env (eval o X.env)=eval o X.env
 few:((backTo cpos (starEach [e] X.env)).all (fun x=>!x.1)&&(backToKw cpos (keywordEach [] X.env)).all (fun x=>x.1.isSome)
  && decide (([e]:List Expr).length+([]:List Keyword).length+(if ([]:List Keyword).isEmpty then 0 else 1)<30))=true
 line:(apos.endLine==cpos.line)=true
 trees:backTo cpos (starEach [e] X.env)=[(false,eval e X.env)]
structure M2(X:Cx)(o:Expr)(m:Str)(apos:Pos)(e f:Expr)(cpos:Pos):Prop where
 base:attributeBase o m X.env (eval o X.env)=eval o X.env
 few:((backTo cpos (starEach [e,f] X.env)).all (fun x=>!x.1)&&(backToKw cpos (keywordEach [] X.env)).all (fun x=>x.1.isSome)
  && decide (([e,f]:List Expr).length+([]:List Keyword).length+(if ([]:List Keyword).isEmpty then 0 else 1)<30))=true
 line:(apos.endLine==cpos.line)=true
 trees:backTo cpos (starEach [e,f] X.env)=[(false,eval e X.env),(false,eval f X.env)]
noncomputable def aL (H:Hp) (a:Addr):Prop:=(∃ kvs,Rd H a (.dK kvs))\/∃ kvs,Rd H a (.dT kvs)
theorem oY(I:Inv X pins O H s)(d:aL H a) :
  s.TypeIs (.ref a) "dict"/\(∀ b,Value.ref a=.ref b->∃ ob,s.heap.get? b=some ob/\ob.dict=none)/\(a==sysModules)=false:=by
 rcases d with ⟨kvs,e⟩ | ⟨kvs,e⟩
 .obtain ⟨_,hd,vs,_,dd⟩:=dk_rd I.hok e;refine ⟨dd.typeIs,fun b q=>?_,hd⟩
  cases q
  obtain ⟨ob,_,_,h1,h2,_⟩:=dd;exact ⟨ob,h1,h2.2.1⟩
 .obtain ⟨_,hd,xs,_,dd⟩:=dt_rd I.hok e;refine ⟨dd.typeIs,fun b q=>?_,hd⟩
  cases q
  obtain ⟨ob,_,_,h1,h2,_⟩:=dd;exact ⟨ob,h1,h2.2.1⟩
section
variable {X:Cx} {pins:List (Addr×Obj)} {O:St} {H:Hp} {s:Shared} {a:Addr} {y d:V} {u r:Value} {o:Option V} {A:Around} {E:Value->Shared->Prop}
theorem aqa{Q:Value->Shared->Prop}(hu:A.units+1<cLine)(I:Inv X pins O H s)(g:DGet H a y o)(ry:RelV y u)(h:∀ w' s',Inv X pins O H s'->RelV (o.getD .non) w'->Q w' s') :
  wpAny (model X.prog X.w) A (call (.builtin "dict.get") [.ref a,u]) Q E s:=by
 rcases g with ⟨kvs,k,e,ey,l⟩ | ⟨kvs,k,b,e,ey,eb,l⟩
 .subst ey;obtain ⟨z,hd,vs,rel,dd⟩:=dk_rd I.hok e;refine call_meetsIn gU dd.typeIs oJ (PySem.F.args_dict_get_2 _ _) (meets_dict_get (M7 X.prog X.w) a (kV_is ry) hd) ⟨_,dd.mapOf,h _ _ (I.tok _) ?_⟩;rw [l];exact (rel.val k).getD rfl
 .subst ey
  cases (show u=Value.ref b from ry)
  obtain ⟨z,hd,xs,rel,dd⟩:=dt_rd I.hok e;refine call_meetsIn gU dd.typeIs oJ (PySem.F.args_dict_get_2 _ _) (meetsH_dict_get (tupleKind (M7 X.prog X.w)) a b hd) ⟨tupleKind_room_in1 hu,k,xs,eD I.hok eb,dd,h _ _ (I.tok _) ?_⟩;rw [l];exact (rel.val k).getD rfl
theorem aqb{Q:Value->Shared->Prop}(hu:A.units+1<cLine)(I:Inv X pins O H s)(g:DGet H a y o)(ry:RelV y u)(rd:RelV d r)(h:∀ w' s',Inv X pins O H s'->RelV (o.getD d) w'->Q w' s') :
  wpAny (model X.prog X.w) A (call (.builtin "dict.get") [.ref a,u,r]) Q E s:=by
 rcases g with ⟨kvs,k,e,ey,l⟩ | ⟨kvs,k,b,e,ey,eb,l⟩
 .subst ey;obtain ⟨z,hd,vs,rel,dd⟩:=dk_rd I.hok e;refine call_meetsIn gU dd.typeIs oJ (PySem.F.args_dict_get_3 _ _ _) (meets_dict_get_default (M7 X.prog X.w) a (kV_is ry) hd r) ⟨_,dd.mapOf,h _ _ (I.tok _) ?_⟩;rw [l];exact (rel.val k).getD rd
 .subst ey
  cases (show u=Value.ref b from ry)
  obtain ⟨z,hd,xs,rel,dd⟩:=dt_rd I.hok e;refine call_meetsIn gU dd.typeIs oJ (PySem.F.args_dict_get_3 _ _ _) (meetsH_dict_get_default (tupleKind (M7 X.prog X.w)) a b hd r) ⟨tupleKind_room_in1 hu,k,xs,eD I.hok eb,dd,h _ _ (I.tok _) ?_⟩;rw [l];exact (rel.val k).getD rd
end
noncomputable def tQ (td ty:TE):TE:=fun O H Q=>td O H fun x H1=>∃ a,x=.ref a/\aL H1 a/\ty O H1 fun y H2=>∃ o,DGet H2 a y o/\Q (o.getD .non) H2
noncomputable def tR (td ty tx:TE):TE:=fun O H Q=>td O H fun x H1=>∃ a,x=.ref a/\aL H1 a/\ty O H1 fun y H2=>tx O H2 fun z H3=>∃ o,DGet H3 a y o/\Q (o.getD z) H3
noncomputable def tS (td ty:TE):TE:=fun O H Q=>td O H fun x H1=>∃ a,x=.ref a/\aL H1 a/\ty O H1 fun y H2=>∃ kvs k v,H2 a=some (.dK kvs)/\y=kV k/\valV kvs k=some v/\Q v (A0 H2 a (.dK (dropK kvs k)))
section
variable {X:Cx} {o e f:Expr} {apos cpos:Pos} {td ty tx:TE}
theorem ale(hu:X.A.units+1<cLine)(ho:PE X o td)(he:PE X e ty)(m:M1 X o "get" apos e cpos):PE X (.Call (.Attribute o "get" apos) [e] [] cpos) (tQ td ty):=by
 intro pins s O H Q I h;refine wpAny_Call_method m.base m.few m.line gT gU PySem.F.type_dict_get (B1 (ho pins s O H _ I h) fun u s1 ⟨x,H1,I1,rx,a,ex,d,q1⟩=>?_);subst ex;obtain rfl:u=Value.ref a:=rx;obtain ⟨t1,t2,_⟩:=oY I1 d;refine ⟨t1,t2,?_⟩;rw [m.trees];refine Calls.callWith_builtin rfl (Calls.evalArgs_plain (Calls.spliced_cons (B1 (he pins s1 O H1 _ I1 q1) fun iv s2 ⟨y,H2,I2,ry,ov,g,q2⟩=>Calls.spliced_nil ?_)));exact aqa hu I2 g ry fun w' s3 I3 rw'=>⟨_,H2,I3,rw',q2⟩
theorem alf(hu:X.A.units+1<cLine)(ho:PE X o td)(he:PE X e ty)(hf:PE X f tx)(m:M2 X o "get" apos e f cpos):PE X (.Call (.Attribute o "get" apos) [e,f] [] cpos) (tR td ty tx):=by
 intro pins s O H Q I h;refine wpAny_Call_method m.base m.few m.line gT gU PySem.F.type_dict_get (B1 (ho pins s O H _ I h) fun u s1 ⟨x,H1,I1,rx,a,ex,d,q1⟩=>?_);subst ex;obtain rfl:u=Value.ref a:=rx;obtain ⟨t1,t2,_⟩:=oY I1 d;refine ⟨t1,t2,?_⟩;rw [m.trees];refine Calls.callWith_builtin rfl (Calls.evalArgs_plain (Calls.spliced_cons (B1 (he pins s1 O H1 _ I1 q1) fun iv s2 ⟨y,H2,I2,ry,q2⟩=>
  Calls.spliced_cons (B1 (hf pins s2 O H2 _ I2 q2) fun fv s3 ⟨z,H3,I3,rz,ov,g,q3⟩=>Calls.spliced_nil ?_))))
 exact aqb hu I3 g ry rz fun w' s4 I4 rw'=>⟨_,H3,I4,rw',q3⟩
theorem alg(ho:PE X o td)(he:PE X e ty)(m:M1 X o "pop" apos e cpos):PE X (.Call (.Attribute o "pop" apos) [e] [] cpos) (tS td ty):=by
 intro pins s O H Q I h;refine wpAny_Call_method m.base m.few m.line gT PySem.F.slot_dict_pop PySem.F.type_dict_pop (B1 (ho pins s O H _ I h) fun u s1 ⟨x,H1,I1,rx,a,ex,d,q1⟩=>?_);subst ex;obtain rfl:u=Value.ref a:=rx;obtain ⟨t1,t2,_⟩:=oY I1 d;refine ⟨t1,t2,?_⟩;rw [m.trees];refine Calls.callWith_builtin rfl (Calls.evalArgs_plain (Calls.spliced_cons (B1 (he pins s1 O H1 _ I1 q1) fun iv s2 ⟨y,H2,I2,ry,kvs,k,v,ea,ey,l,q2⟩=>Calls.spliced_nil ?_)));subst ey;exact d_pop I2 ea ry l (.inl rfl) fun w' s3 I3 rw'=>⟨v,_,I3,rw',q2⟩
end
section
variable {X:Cx} {pins:List (Addr×Obj)} {O:St} {H:Hp} {s:Shared} {a:Addr} {kvs:List (C1×V)} {A:Around} {E:Value->Shared->Prop}
end
section
variable {X:Cx} {pins:List (Addr×Obj)} {O:St} {H:Hp} {s:Shared} {a:Addr} {y:V} {u:Value} {A:Around} {E:Value->Shared->Prop}
end
end L2
namespace L2
open PySem PySem.Spec PyProof.Rows
section
variable {X:Cx}
end
section
variable {κ:Type} [DecidableEq κ]
theorem iF:∀ {l:List κ} {k:κ},l.Nodup->¬ k∈l->(l++[k]).Nodup
 | [],k,_,_=>by simp
 | a::r,k,h,hk=>by
  obtain ⟨h1,h2⟩:=V2.mp h;show (a::(r++[k])).Nodup;refine V2.mpr ⟨fun m=>?_,iF h2 fun m=>hk (E4.mpr (Or.inr m))⟩
  rcases D4.mp m with q | q
  .exact h1 q
  .exact hk (E4.mpr (Or.inl (D1.mp q).symm))
end
end L2
set_option maxRecDepth 100000
namespace L2
open PySem PySem.Spec PyProof.Rows
noncomputable def cloOf (cells:List (Str×Addr)):List (Str×NameKind)->List (Str×Addr)->List (Str×Addr)
 | [],acc=>acc
 | (n,k)::r,acc=>if k=.free then cloOf cells r ((n,(cells.lookup n).getD 0)::acc) else cloOf cells r acc
theorem tT{env:Env} : ∀ (names:List (Str×NameKind)) (acc:List (Str×Addr)),(∀ x∈names,x.2=.free->∃ c,env.cells.lookup x.1=some c)->
  (forIn names acc fun (x:Str×NameKind) (cs:List (Str×Addr))=>(if (x.2==NameKind.free)=true then do
   let c <- cellOf env x.1
   pure (ForInStep.yield ((x.1,c)::cs)) else pure (ForInStep.yield cs):Sem (ForInStep (List (Str×Addr)))))=(pure (cloOf env.cells names acc):Sem (List (Str×Addr)))
 | [],acc,_=>rfl
 | (n,k)::r,acc,h=>by
  rw [List.forIn_cons];have hr:∀ x∈r,x.2=.free->∃ c,env.cells.lookup x.1=some c:=fun x hx=>h x (M3 _ hx)
  by_cases hk:k=.free
  .subst hk;obtain ⟨c,hc⟩:=h (n,.free) L5 rfl;have e1:cellOf env n=pure c:=by unfold cellOf;rw [show env.cells.lookup n=some c from hc]
   simp only [beq_self_eq_true,if_true];rw [e1];show (forIn r ((n,c)::acc) _:Sem _)=_;rw [tT r _ hr];show _=pure (if NameKind.free=.free then cloOf env.cells r ((n,(env.cells.lookup n).getD 0)::acc) else _);rw [if_pos rfl,show env.cells.lookup n=some c from hc];rfl
  .have hb:(k==NameKind.free)=false:=by simpa using hk
   simp only [hb,kM,if_false];show (forIn r acc _:Sem _)=_;rw [tT r _ hr];show _=pure (if k=.free then _ else cloOf env.cells r acc);rw [if_neg hk]
theorem tU{scope:Scope}{env:Env}(h:∀ x∈scope.names,x.2=.free->∃ c,env.cells.lookup x.1=some c):closureFor scope env=pure (cloOf env.cells scope.names []):=by
 simp only [closureFor];have e:=tT (env:=env) scope.names [] h;rw [e];rfl
theorem oZ{cells:List (Str×Addr)} : ∀ (names:List (Str×NameKind)) (acc:List (Str×Addr)),
  (cloOf cells names acc).lookup x=if (x,NameKind.free)∈names then some ((cells.lookup x).getD 0) else acc.lookup x
 | [],acc=>by simp [cloOf]
 | (n,k)::r,acc=>by
  show (if k=.free then cloOf cells r ((n,(cells.lookup n).getD 0)::acc) else cloOf cells r acc).lookup x=_
  by_cases hk:k=.free
  .subst hk;rw [if_pos rfl,oZ r]
   by_cases hm:(x,NameKind.free)∈r
   .rw [if_pos hm,if_pos (M3 _ hm)]
   .rw [if_neg hm,List.lookup_cons]
    by_cases hx:x=n
    .subst hx;rw [if_pos L5]
     simp
    .have e:(x==n)=false:=by simpa using hx
     rw [e,if_neg];intro z
     rcases E4.mp z with z | z
     .exact hx (Prod.mk.inj z).1
     .exact hm z
  .rw [if_neg hk,oZ r]
   by_cases hm:(x,NameKind.free)∈r
   .rw [if_pos hm,if_pos (M3 _ hm)]
   .rw [if_neg hm,if_neg];intro z
    rcases E4.mp z with z | z
    .exact hk (Prod.mk.inj z).2.symm
    .exact hm z
theorem kZ{α:Type} : ∀ {l:List (Str×α)} {k:α},l.lookup x=some k->(x,k)∈l
 | [],_,h=>by simp at h
 | (n,a)::r,k,h=>by
  rw [List.lookup_cons] at h
  by_cases hx:x=n
  .subst hx;simp at h;subst h;exact L5
  .have e:(x==n)=false:=by simpa using hx
   rw [e] at h;exact M3 _ (kZ h)
theorem adM{sc:Scope}{env:Env}{k:NameKind}(hc:∀ y∈sc.names,y.2≠.cell)(h:(relabel sc env).names.lookup x=some k)(hk:k=.cell\/k=.free):(x,NameKind.free)∈sc.names:=by
 have m:=kZ h;unfold relabel at m;obtain ⟨⟨n,k'⟩,hm,e⟩:=E5.mp m;have N4:=hc _ hm
 by_cases hf:k'=.free
 .subst hf
  have:n=x:=by
   dsimp only at e
   split at e
   .exact (Prod.mk.inj e).1
   .exact (Prod.mk.inj e).1
  subst this;exact hm
 .have hb:(k'==NameKind.free)=false:=by simpa using hf
  simp only [hb,Bool.false_and,kM,if_false] at e;obtain ⟨e1,e2⟩:=Prod.mk.inj e;subst e1 e2
  rcases hk with z | z
  .exact absurd z N4
  .subst z;exact absurd rfl hf
structure CompOk(N:List Str)(kn:List (Str×NameKind))(sc:Scope)(N':List Str)(k:Nat)(ixs:List Nat):Prop where
 kind:sc.kind=.function
 cell:∀ x∈sc.names,x.2≠.cell
 names:∀ x∈sc.names,x.2=.local->sc.names.lookup x.1=some .local
 free:∀ x∈sc.names,x.2=.free->kn.lookup x.1=some .cell\/kn.lookup x.1=some .free
 clean:∀ x∈sc.names,x.2=.free->sc.names.lookup x.1=some .free
 len:N'.length=k+ixs.length
 at_:ixs.map (fun i=>N[i]?)=(N'.drop k).map some
 fr:∀ x∈N'.drop k,(x,NameKind.free)∈sc.names
noncomputable def L8 (X:Cx) (sc:Scope) (N':List Str) (C:Addr) (zw:Shared) (zt:Hp) (fp:List Addr) (pins:List (Addr×Obj)):Cx:=
 {prog:=X.prog,w:=X.w,K:=X.K,mg:=X.mg,base:=X.base,A:=X.A,N:=N',s₀:=zw,H₀:=zt,
  env:=compEnvC sc (cloOf X.env.cells sc.names []) C X.env,outer:=X.stack,stack:=X.stack,ex:=fp,fn:=fun _=>false,calm:=X.calm,
  pn:=X.pn++pins,xe:=fun _ _=>False }
noncomputable def compStart (k:Nat) (ixs:List Nat) (O:St):St:=W1 k none++ixs.map fun i=>(O[i]?).join
theorem aft : (compStart k ixs O).length=k+ixs.length:=by simp [compStart]
section
variable {X:Cx} {sc:Scope} {N':List Str} {k:Nat} {ixs:List Nat} {pins:List (Addr×Obj)} {O:St} {H:Hp} {s:Shared} {fp:List Addr}
theorem v6(C:CompOk X.N X.env.scope.names sc N' k ixs)(I:Inv X pins O H s){c:Addr}(e:(cloOf X.env.cells sc.names []).lookup x=some c):X.env.cells.lookup x=some c/\(x,NameKind.free)∈sc.names:=by
 rw [oZ] at e
 by_cases hm:(x,NameKind.free)∈sc.names
 .rw [if_pos hm] at e;obtain ⟨c',R6⟩:=I.ok.has x (C.free _ hm rfl);rw [R6] at e;exact ⟨R6.trans e,hm⟩
 .rw [if_neg hm] at e;cases e
theorem pA(C:CompOk X.N X.env.scope.names sc N' k ixs)(I:Inv X pins O H s)(hm:(x,NameKind.free)∈sc.names):∃ c,(cloOf X.env.cells sc.names []).lookup x=some c/\X.env.cells.lookup x=some c:=by
 obtain ⟨c',R6⟩:=I.ok.has x (C.free _ hm rfl);refine ⟨c',?_,R6⟩;rw [oZ,if_pos hm,R6];rfl
theorem aqc(C:CompOk X.N X.env.scope.names sc N' k ixs)(I:Inv X pins O H s)(hf:∀ b∈fp,FpOk X pins H b)(ho:∀ b∈fp,∃ o,s.heap.get? b=some o):(L8 X sc N' s.heap.objs.size s H fp pins).Ok where
 mod:=I.ok.mod
 kind:=C.kind
 glob:=I.ok.glob
 blt:=I.ok.blt
 above:=B5 _
 inj:=fun x y c e1 e2=>I.ok.inj x y c (v6 C I e1).1 (v6 C I e2).1
 has:=fun x hx=>by
  have hm:(x,NameKind.free)∈sc.names:=by
   rcases hx with z | z
   .exact adM C.cell z (.inl rfl)
   .exact adM C.cell z (.inr rfl)
  obtain ⟨c,h1,_⟩:=pA C I hm;exact ⟨c,h1⟩
 cab:=fun x c h _=>by cases h
 hd:=I.ok.hd
 frames:=I.ok.frames
 stk:=.inl rfl
 exf:=fun b hb=>by
  obtain ⟨o,e⟩:=ho b hb;exact ⟨I0 (Heap.lt_size e),fun x c e1=>(hf b hb).2.2.2.2.1 x c (v6 C I e1).1⟩
 bs:=I.bs
 bsz:=K6 I.ok.bsz I.sz
 noex:=fun b o e hb=>by
  rcases (hf b hb).2.2.2.1 with z | z
  .exact I.ok.noex b o e z
  .exact absurd (O2 (Heap.lt_size e) (K6 I.ok.bsz z)) (k5 _)
 exfs:=fun b hb hm=>by
  rcases E4.mp (I.stkSub b hm) with z | z
  .exact (hf b hb).2.1 z
  .exact (hf b hb).2.2.1 z
 funs:=I.stack
 frf:=I.stkFree
theorem ann(C:CompOk X.N X.env.scope.names sc N' k ixs)(I:Inv X pins O H s)(hf:∀ b∈fp,FpOk X pins H b)(ho:∀ b∈fp,∃ o,s.heap.get? b=some o){m:Str->Option Value}(hn:h'.Ns s.heap.objs.size m)(hk:∀ b o,s.heap.get? b=some o->h'.get? b=some o):Inv (L8 X sc N' s.heap.objs.size s H fp pins) [] (compStart k ixs O) H { s with heap:=h',toks:=t' } where
 ok:=aqc C I hf ho
 os:=rfl
 bare:=I.bare
 base:=Un.kept hk
 loc:=by
  refine ⟨m,hn,fun i x v e1 e2 e3=>?_⟩;unfold compStart at e2
  by_cases hi:i<k
  .rw [oE (by simpa using hi)] at e2;rw [List.getElem?_replicate_of_lt hi] at e2;cases e2
  .rw [kG (by simpa using hi),List.length_replicate] at e2;rw [O1] at e2;cases e4:ixs[i-k]? with
   | none=>rw [e4] at e2;cases e2
   | some j=>
    rw [e4] at e2;have e5:(O[j]?).join=some v:=Option.some.inj e2;have e6:O[j]?=some (some v):=by
     cases e7:O[j]? with
     | none=>rw [e7] at e5;cases e5
     | some o=>rw [e7] at e5;exact congrArg some e5
    have e1':N'[i]?=some x:=e1;have ed:(N'.drop k)[i-k]?=some x:=by rw [List.getElem?_drop,show k+(i-k)=i by lia];exact e1'
    have n3:(x,NameKind.free)∈sc.names:=C.fr x (K4 ed);have n2:X.N[j]?=some x:=by
     have q:=congrArg (fun l=>l[i-k]?) C.at_;simp only [O1,e4,ed,Option.map_some] at q;exact Option.some.inj q
    obtain ⟨m0,hn0,fC⟩:=I.loc;have n6:X.env.scope.names.lookup x=some .cell\/X.env.scope.names.lookup x=some .free:=C.free _ n3 rfl;obtain ⟨u,r,l⟩:=fC j x v n2 e6 (.inr n6);refine ⟨u,r,.inr ?_⟩
    rcases l with ⟨l,_⟩ | ⟨_,c,hc,J8⟩
    .have l':X.env.scope.names.lookup x=some .local:=l
     rcases n6 with z | z
     .rw [l'] at z;cases z
     .rw [l'] at z;cases z
    .obtain ⟨c',h1,h2⟩:=pA C I n3;rw [hc] at h2;cases h2;refine ⟨?_,c,h1,?_⟩
     .have e3':(relabel sc X.env).names.lookup x=some .local\/(relabel sc X.env).names.lookup x=some .cell\/(relabel sc X.env).names.lookup x=some .free:=e3
      rcases e3' with z | z
      .exfalso
       have mm:=kZ z;unfold relabel at mm;obtain ⟨⟨n,k'⟩,hm,e⟩:=E5.mp mm;have U0:k'=.local/\n=x:=by
        dsimp only at e
        split at e
        .obtain ⟨_,q⟩:=Prod.mk.inj e
         cases q
        .exact ⟨(Prod.mk.inj e).2,(Prod.mk.inj e).1⟩
       obtain ⟨z1,z2⟩:=U0;subst z1 z2;have q1:=C.names _ hm rfl;rw [C.clean _ n3 rfl] at q1
       cases q1
      .exact z
     .exact J8.keeps hk
 cell:=fun x c e=>by
  obtain ⟨v,z⟩:=I.cell x c (v6 C I e).1;exact ⟨v,z.keeps hk⟩
 free:=I.hok.fresh (B5 _)
 freeC:=fun x c e=>I.freeC x c (v6 C I e).1
 pin:=fun p hp=>by
  have hp':p∈X.pn++pins:=by simpa [L8] using hp
  obtain ⟨e,n,ne,nf,d⟩:=I.pin p hp';refine ⟨hk _ _ e,n,I0 (Heap.lt_size e),fun hm=>?_,d⟩
  rcases E4.mp (I.stkSub _ hm) with z | z
  .exact ne z
  .exact nf z
 hok:=I.hok.kept hk
 len:=by rw [aft];exact C.len.symm
end
section
variable {prog:Program} {w:World} {A:Around} {R:Result->Shared->Prop} {s:Shared}
theorem agi{scope:Scope}{pos:Pos}{it acc:Value}{env:Env}(I:Nat->Shared->Prop)(turn:∀ n s,I n s->wpAny (model prog w) A (pyNext it) (fun r zu=>match r with
   | none=>R (.ok .next) zu
   | some v=>wpAny (model prog w) A (letOwnedTupleGo target it v) (fun _ zu=>wpAny (model prog w) A (assign target env v) (fun _ zx=>
     wpAny (model prog w) A (forIn ifs true fun c r=>if r=true then do let ok <- isTrue c env (eval c env);pure (ForInStep.yield ok) else pure (ForInStep.yield r)) (fun ok zw=>
      if ok=true then wpAny (model prog w) A (eval elt env) (fun x zn=>
       wpAny (model prog w) A (call (.builtin "list.append") [acc,x]) (fun _ zm=>∃ m,m<n/\I m zm) (notedBy (model prog w) A env fun e s'=>R (.error e) s') zn) (notedBy (model prog w) A env fun e s'=>R (.error e) s') zw
      else ∃ m,m<n/\I m zw) (notedBy (model prog w) A env fun e s'=>R (.error e) s') zx) (notedBy (model prog w) A env fun e s'=>R (.error e) s') zu) (notedBy (model prog w) A env fun e s'=>R (.error e) s') zu) (notedBy (model prog w) A env fun e s'=>R (.error e) s') s)(n:Nat)(h:I n s) :
  codeAny (model prog w) A (.compLoop (.ListComp elt [⟨target,iter,ifs,0⟩] scope pos) 0 it acc env) R s:=by
 refine codeAny_loop rfl I (fun n s hI=>?_) n h;show wpAny _ A ((compTurn (.ListComp elt [⟨target,iter,ifs,0⟩] scope pos) 0 it acc env).onRaise (fun x=>do noteFrame x env;theTreesLotGoes x)) _ _ s;refine wpAny_noted ?_;rw [compTurn_list];refine wpAny_bind (wpAny_standAt (wpAny_bind (wpAny_mono (turn n s hI) (fun r zu zr=>?_) fun _ _ h'=>h')))
 cases r with
 | none=>exact wpAny_pure zr
 | some v=>
  refine wpAny_bind (wpAny_mono zr (fun _ zu zr=>?_) fun _ _ h'=>h');refine wpAny_bind (wpAny_mono zr (fun _ zx zq=>wpAny_bind (wpAny_mono zq (fun ok zw zo=>?_) fun _ _ h'=>h')) fun _ _ h'=>h')
  cases ok with
  | false=>exact wpAny_pure ⟨rfl,zo⟩
  | true=>
   exact wpAny_bind (wpAny_bind (wpAny_mono zo (fun x zn zk=>wpAny_bind (wpAny_mono zk (fun _ zm zj=>wpAny_pure (wpAny_pure ⟨rfl,zj⟩)) fun _ _ h'=>h')) fun _ _ h'=>h'))
end
noncomputable def PIfs (X:Cx) (ifs:List Expr) (t:TT):Prop:=
 ∀ (pins:List (Addr×Obj)) (s:Shared) (O:St) (H:Hp) (Q:Bool->Hp->Prop),Inv X pins O H s->t O H Q->
  wpAny (model X.prog X.w) X.A (forIn ifs true fun c r=>if r=true then do let ok <- isTrue c X.env (eval c X.env);pure (ForInStep.yield ok) else pure (ForInStep.yield r)) (TP X pins O Q) X.xe s
noncomputable def tYes:TT:=fun _ H Q=>Q true H
theorem alh : PIfs X [] tYes:=fun _ _ _ H _ I h=>wpAny_tests_nil ⟨H,I,h⟩
theorem ali{c:Expr}{t:TT}(hc:PT X c t):PIfs X [c] t:=fun pins s O H Q I h=>wpAny_tests_one (hc pins s O H Q I h)
noncomputable def tComp (wi:TI) (k:Nat) (ixs:List Nat) (g:TG) (c:TT) (te:TE):TE:=fun O H Q=>wi O H fun J H1=>∀ D,H1 D=none->
 ∃ (n:Nat) (W:Nat->List V->St->Hp->Prop),W 0 [] (compStart k ixs O) (A0 H1 D (.lst []))/\∀ i ys σ2 H2,W i ys σ2 H2->H2 D=some (.lst ys)->
  (J.stop i H2/\Q (.ref D) H2)\/
  (i<n/\J.go i H2/\∀ x H',J.yld i H2 x H'->g x σ2 H' fun σ3 H3=>c σ3 H3 fun b H4=>
   if b=true then te σ3 H4 fun y H5=>H5 D=some (.lst ys)/\ys.length<sizeLine/\W (i+1) (ys++[y]) σ3 (A0 H5 D (.lst (ys++[y])))
   else H4 D=some (.lst ys)/\W (i+1) ys σ3 H4)
section
variable {X:Cx} {sc:Scope} {N':List Str} {k:Nat} {ixs:List Nat}
theorem ae0{pos:Pos}{J:It}(C:CompOk X.N X.env.scope.names sc N' k ixs)(K0:X.calm=true)(hg:∀ C zw zt fp pins,PG (L8 X sc N' C zw zt fp pins) target g)(hc:∀ C zw zt fp pins,PIfs (L8 X sc N' C zw zt fp pins) ifs c)(he:∀ C zw zt fp pins,PE (L8 X sc N' C zw zt fp pins) elt te){tn:Nat->Heap->Prop}(I:Inv X pins O H s)(T:Turn X.prog X.w X.K target J fp it tn)(st:tn 0 s.heap)(hf:∀ b∈fp,FpOk X pins H b)(h:∀ D,H D=none->∃ (n:Nat) (W:Nat->List V->St->Hp->Prop),W 0 [] (compStart k ixs O) (A0 H D (.lst []))/\∀ i ys σ2 H2,W i ys σ2 H2->H2 D=some (.lst ys)->
   (J.stop i H2/\Q (.ref D) H2)\/
   (i<n/\J.go i H2/\∀ x H',J.yld i H2 x H'->g x σ2 H' fun σ3 H3=>c σ3 H3 fun b H4=>
    if b=true then te σ3 H4 fun y H5=>H5 D=some (.lst ys)/\ys.length<sizeLine/\W (i+1) (ys++[y]) σ3 (A0 H5 D (.lst (ys++[y])))
    else H4 D=some (.lst ys)/\W (i+1) ys σ3 H4)){RR:Value->Addr->Result->Shared->Prop}(hRR:∀ D Cc (H':Hp) (s':Shared) (o:Obj) m,Inv X pins O H' s'->Inv X (pins++[(Cc,o)]) O H' s'->s'.heap.get? Cc=some o->s'.heap.Ns Cc m->H' Cc=none->Cc≠X.env.locals->X.s₀.heap.objs.size<=Cc->
   (∀ x c,X.env.cells.lookup x=some c->c≠Cc)->(∀ p∈X.pn++pins,p.1≠Cc)->Q (.ref D) H'->RR (.ref D) Cc (.ok .next) s') :
  wpAny (model X.prog X.w) X.A (newList []) (fun acc zw=>wpAny (model X.prog X.w) X.A (newFunctionEnv sc X.env.globals (cloOf X.env.cells sc.names []) [] X.env.qual none .none (some X.env)) (fun cenv zn=>
   codeAny (model X.prog X.w) X.A (.compStart (.ListComp elt [⟨target,iter,ifs,0⟩] sc pos) 0 (.ref it) acc { cenv with scope:=relabel sc X.env }) (RR acc cenv.locals) zn) E zw) E s:=by
 have fresh:=I.hok.fresh (B5 s.heap.objs.size);obtain ⟨n,W,w0,turn⟩:=h s.heap.objs.size fresh;have hfD:∀ b∈fp,b≠s.heap.objs.size:=fun b hb z=>by
  obtain ⟨o,e,_⟩:=T.obj _ _ st b hb;rw [z] at e;exact absurd (Heap.lt_size e) (k5 _)
 have hf3:∀ b∈fp,FpOk X pins (A0 H s.heap.objs.size (.lst [])) b:=fun b hb=>⟨by rw [A3 (hfD b hb)];exact (hf b hb).1,(hf b hb).2⟩
 have main:∀ (s3:Shared) (zr:Heap) (t1:Nat),Inv X pins O (A0 H s.heap.objs.size (.lst [])) s3->(∀ b o,s.heap.get? b=some o->s3.heap.get? b=some o)->zr.Ns s3.heap.objs.size (fun x=>([]:List (Str×Value)).reverse.lookup x)->
   (∀ b o,s3.heap.get? b=some o->zr.get? b=some o)->
   tn 0 zr/\codeAny (model X.prog X.w) X.A (.compLoop (.ListComp elt [⟨target,iter,ifs,0⟩] sc pos) 0 (.ref it) (.ref s.heap.objs.size) (L8 X sc N' s3.heap.objs.size s3 (A0 H s.heap.objs.size (.lst [])) fp pins).env) (RR (.ref s.heap.objs.size) s3.heap.objs.size) { s3 with heap:=zr,toks:=t1 }:=by
  intro s3 zr t1 I3 k3 n8 keep3;have dC:tn 0 s3.heap:=T.keep _ _ _ st fun b hb o e=>k3 b o e
  have ho3:∀ b∈fp,∃ o,s3.heap.get? b=some o:=fun b hb=>let ⟨o,e,_⟩:=T.obj _ _ dC b hb;⟨o,e⟩
  have rO:tn 0 zr:=T.keep _ _ _ dC fun b hb o e=>keep3 b o e
  have B0:Inv (L8 X sc N' s3.heap.objs.size s3 (A0 H s.heap.objs.size (.lst [])) fp pins) [] (compStart k ixs O) (A0 H s.heap.objs.size (.lst [])) { s3 with heap:=zr,toks:=t1 }:=ann C I3 hf3 ho3 n8 keep3;refine ⟨rO,?_⟩;have fpX:∀ {H':Hp},(∀ b∈fp,H' b=none)->∀ b∈fp,FpOk (L8 X sc N' s3.heap.objs.size s3 (A0 H s.heap.objs.size (.lst [])) fp pins) [] H' b:=fun {H'} hn b hb=>by
   obtain ⟨o,eo⟩:=ho3 b hb;refine ⟨hn b hb,I0 (Heap.lt_size eo),?_,.inl hb,?_,?_⟩
   .intro hm
    rcases E4.mp (I3.stkSub b hm) with z | z
    .exact (hf b hb).2.1 z
    .exact (hf b hb).2.2.1 z
   .intro x cc ec;exact (hf b hb).2.2.2.2.1 x cc (v6 C I3 ec).1
   .intro p hp;exact (hf b hb).2.2.2.2.2 p (by simpa [L8] using hp)
  refine agi (fun m s'=>∃ i ys σ' H',m=n-i/\Inv (L8 X sc N' s3.heap.objs.size s3 (A0 H s.heap.objs.size (.lst [])) fp pins) [] σ' H' s'/\tn i s'.heap/\(∀ b∈fp,H' b=none)/\H' s.heap.objs.size=some (.lst ys)/\W i ys σ' H') ?_ n ⟨0,[],_,_,rfl,B0,rO,fun b hb=>(hf3 b hb).1,A2,w0⟩;rintro m s4 ⟨i,ys,σ4,H4,rfl,I4,st4,fr4,hD4,w4⟩;have again:∀ {i':Nat} {ys':List V} {σ7:St} {H7:Hp} {s6 s7:Shared},i<n->i'=i+1->tn i' s6.heap->Inv (L8 X sc N' s3.heap.objs.size s3 (A0 H s.heap.objs.size (.lst [])) fp pins) ([]++hJ fp s6.heap) σ7 H7 s7->H7 s.heap.objs.size=some (.lst ys')->W i' ys' σ7 H7->
    ∃ m,m<n-i/\∃ i ys σ' H',m=n-i/\Inv (L8 X sc N' s3.heap.objs.size s3 (A0 H s.heap.objs.size (.lst [])) fp pins) [] σ' H' s7/\tn i s7.heap/\(∀ b∈fp,H' b=none)/\H' s.heap.objs.size=some (.lst ys)/\W i ys σ' H':=fun {i' ys' σ7 H7 s6 s7} C4 ei jL I7 hD w=>by
   subst ei;refine ⟨n-(i+1),by lia,i+1,ys',σ7,H7,rfl,I7.unpinned,T.keep _ _ _ jL fun b hb o e=>(I7.pin (b,o) (M0 _ (M0 _ (hW hb e)))).1,fun b hb=>?_,hD,w⟩;obtain ⟨o,e,_⟩:=T.obj _ _ jL b hb;exact (I7.pin (b,o) (M0 _ (M0 _ (hW hb e)))).2.1
  rcases turn i ys σ4 H4 w4 hD4 with ⟨stop,q⟩ | ⟨C4,go,step⟩
  .refine B1 (T.done (L8 X sc N' s3.heap.objs.size s3 (A0 H s.heap.objs.size (.lst [])) fp pins) rfl rfl rfl K0 i [] s4 σ4 H4 _ I4 (fpX fr4) st4 stop) fun r s5 jM=>?_
   obtain ⟨hr,I5⟩:=jM;subst hr;have back:Inv X pins O H4 s5:=I3.call' (ch:=fp) I5.os I5.base I5.hok I5.bare fun b hb=>⟨(hf b hb).2.2.2.1,(hf b hb).2.1,(hf b hb).2.2.2.2.1,(hf b hb).2.2.2.2.2⟩
   obtain ⟨mm,hn5,_⟩:=I5.loc;obtain ⟨o,es,ep,ho,hd,R7⟩:=id hn5;have hC:s3.heap.objs.size≠X.env.locals:=i3 I3.lt;refine hRR s.heap.objs.size s3.heap.objs.size H4 s5 o mm back ?_ ho hn5 I5.free hC I3.sz ?_ ?_ q
   .refine back.pins_of fun p hp=>?_
    rcases D4.mp hp with z | z
    .exact back.pin p (M0 _ z)
    .have e:p=(s3.heap.objs.size,o):=by simpa using z
     subst e;exact ⟨ho,I5.free,hC,I3.nofs (B5 _),fun v z=>by rw [hd] at z;cases z⟩
   .intro x c e z;obtain ⟨v,q⟩:=I3.cell x c e
    have:=q.lt
    rw [z] at this;exact k5 _ this
   .intro p hp z
    have:=Heap.lt_size (I3.pin p hp).1
    rw [z] at this;exact k5 _ this
  .refine B1 (T.item (L8 X sc N' s3.heap.objs.size s3 (A0 H s.heap.objs.size (.lst [])) fp pins) rfl rfl rfl K0 i [] s4 σ4 H4 _ I4 (fpX fr4) st4 go) fun r s5 jM=>?_
   obtain ⟨u,hr,h5⟩:=jM;subst hr;refine B1 h5 fun _ s6 h6=>?_
   obtain ⟨x,H6,I6,r6,y6,jL,fr6⟩:=h6;have I6':=I6.pinned (fpX fr6) (T.obj _ _ jL);refine wpAny_mono (hg _ _ _ _ _ _ s6 σ4 H6 x u _ I6' r6 (step x H6 y6)) (fun _ s7 h7=>?_) fun _ _ z=>False.elim z
   obtain ⟨σ7,H7,I7,q7⟩:=h7;refine wpAny_mono (hc _ _ _ _ _ _ s7 σ7 H7 _ I7 q7) (fun ok s8 h8=>?_) fun _ _ z=>False.elim z
   obtain ⟨H8,I8,q8⟩:=h8
   cases ok with
   | false=>
    rw [if_neg L3] at q8 ⊢
    exact again C4 rfl jL I8 q8.1 q8.2
   | true=>
    rw [if_pos rfl] at q8 ⊢
    refine wpAny_mono (he _ _ _ _ _ _ s8 σ7 H8 _ I8 q8) (fun y s9 h9=>?_) fun _ _ z=>False.elim z
    obtain ⟨yv,H9,I9,r9,hD9,hz9,w9⟩:=h9;refine wpAny_mono (agd (X:=(L8 X sc N' s3.heap.objs.size s3 (A0 H s.heap.objs.size (.lst [])) fp pins)) _ s9 σ7 H9 (.ref s.heap.objs.size) [yv] (.ref s.heap.objs.size) [y] (fun _ H'=>H'=A0 H9 s.heap.objs.size (.lst (ys++[yv]))) I9 rfl (.cons r9 .nil) ⟨_,ys,yv,rfl,rfl,hD9,hz9,rfl⟩) (fun _ s10 h10=>?_) fun _ _ z=>False.elim z
    obtain ⟨_,V0,I10,_,e10⟩:=h10;subst e10;exact again C4 rfl jL I10 A2 w9
 have I3:=I.lnew (ys:=[]) (its:=[]) (t':=s.toks) .nil (F7 _);refine wpAny_newObj_type (wpAny_newFunctionEnv C.cell (by intro y hy;simp at hy) (fun zr zi zh=>?_) C.kind);obtain ⟨rO,loop⟩:=main _ zr (s.toks+([]:List (Str×Value)).length) I3 (fun b o e=>Heap.get?_push_of_some _ e) zi fun b o e=>zh.extBut b o (I0 (Heap.lt_size e)) (Heap.get?_push_of_some _ e)
 exact codeAny_compStart_list loop (T.self X.A 0 _ _ _ rO loop)
theorem ano{pos:Pos}{wi:TI}(C:CompOk X.N X.env.scope.names sc N' k ixs)(K0:X.calm=true)(hi:PI X target iter wi)(hg:∀ C zw zt fp pins,PG (L8 X sc N' C zw zt fp pins) target g)(hc:∀ C zw zt fp pins,PIfs (L8 X sc N' C zw zt fp pins) ifs c)(he:∀ C zw zt fp pins,PE (L8 X sc N' C zw zt fp pins) elt te)(hs:∀ x,foldedSetIterable iter X.env x=pure x:=by intro _;rfl):PE X (.ListComp elt [⟨target,iter,ifs,0⟩] sc pos) (tComp wi k ixs g c te):=by
 intro pins s O H Q I h;rw [eval_ListComp];refine wpAny_comprehension_free (use:=none) rfl hs (tU fun x hx hf=>I.ok.has x.1 (C.free x hx hf)) C.kind C.names (B1 (hi pins s O H _ I h) fun v s1 h1=>B1 h1 fun itv s2 h2=>?_);obtain ⟨it,fp,tn,J,H2,e,I2,T,mH,f2,q2⟩:=h2;subst e;refine ae0 (RR:=fun acc C=>compPost (model X.prog X.w) X.A X.xe none (EP X pins O Q) acc C) C K0 hg hc he I2 T mH f2 q2 ?_;intro D Cc H' s' o m I' _ ho hn hC hL y3 J8 fE q;exact ⟨m,hn,fun h'' hs''=>⟨.ref D,H',I'.turned (t':=s'.toks) (fun b o hb e=>hs''.extBut b o hb e) hC hL (.inr y3) J8 fE,rfl,q⟩⟩
theorem aiA{pos py:Pos}{wi:TI}(hN:X.N.Nodup)(hiN:X.N[i]?=some y)(hx:k9 X.env.scope y)(C:CompOk X.N X.env.scope.names sc N' k ixs)(K0:X.calm=true)(hi:PI X target iter wi)(hg:∀ C zw zt fp pins,PG (L8 X sc N' C zw zt fp pins) target g)(hc:∀ C zw zt fp pins,PIfs (L8 X sc N' C zw zt fp pins) ifs c)(he:∀ C zw zt fp pins,PE (L8 X sc N' C zw zt fp pins) elt te)(yI:swapsWith (.ListComp elt [⟨target,iter,ifs,0⟩] sc pos) (some (.Name y py)) spos.line X.env=pure true:=by rfl)(hf:X.fn y=true\/X.env.scope.names.lookup y=some .local:=by first | exact .inl rfl | exact .inr rfl | assumption)(hs:∀ x,foldedSetIterable iter X.env x=pure x:=by intro _;rfl):PS X (.Assign [.Name y py] (.ListComp elt [⟨target,iter,ifs,0⟩] sc pos) spos) (tAsg (tComp wi k ixs g c te) (gName i)):=by
 intro pins s O H D I h;rw [exec_Assign_Name_used _ _ _ _ yI];refine wpAny_bind (wpAny_standAt (wpAny_bind ?_));show wpAny _ X.A (do let _ <- comprehension (.ListComp elt [⟨target,iter,ifs,0⟩] sc pos) sc X.env _ (newList []) false (eval iter X.env) (some (assign (.Name y py) X.env))) _ _ s;refine wpAny_bind (wpAny_mono (wpAny_comprehension_free (use:=some (assign (.Name y py) X.env)) (Q:=fun _ s'=>SP X pins D .next s') rfl hs (tU fun x hx hf=>I.ok.has x.1 (C.free x hx hf)) C.kind C.names
  (B1 (hi pins s O H _ I h) fun v s1 h1=>B1 h1 fun itv s2 h2=>?_)) (fun _ s' hq=>wpAny_pure (wpAny_pure hq)) fun _ _ e=>e)
 obtain ⟨it,fp,tn,J,H2,e,I2,T,mH,f2,q2⟩:=h2;subst e;refine ae0 (Q:=fun x H1=>gName i x O H1 D.nx) (RR:=fun acc C=>compPost (model X.prog X.w) X.A X.xe (some (assign (.Name y py) X.env)) (fun _ s'=>SP X pins D .next s') acc C) C K0 hg hc he I2 T mH f2 q2 ?_;intro Da Cc H' s' o m _ Ip ho hn hC hL y3 J8 fE q;show wpAny _ X.A (assign (.Name y py) X.env (.ref Da)) _ _ _;refine wpAny_assign_Name (oO (v:=.ref Da) Ip hN hiN hx rfl (fun s'' I''=>?_) hf);have hC2:=(I''.pin (Cc,o) (M0 _ (M0 _ (D1.mpr rfl)))).1;refine ⟨m,hn.at' fun o' e'=>?_,fun h'' hs''=>?_⟩
 .rw [ho] at e';cases e';exact hC2
 .have I3:Inv X pins (O.set i (some (.ref Da))) H' s'':=I''.unpinned;exact ⟨_,H',I3.turned (t':=s''.toks) (fun b o hb e=>hs''.extBut b o hb e) hC hL (.inr y3) J8 fE,q⟩
end
end L2
end
set_option maxRecDepth 100000
namespace L2
open PySem PySem.Spec PyProof.Rows
section
variable {X:Cx} {a b:Expr} {ta tb:TE} {pos:Pos} {rest:List Expr}
noncomputable def tTru (K:PySem.W.Frag) (te:TE):TT:=fun O H Q=>te O H fun x H1=>∃ k,TruV K x H1 k/\Q k H1
theorem aqd(ha:PE X a ta)(he:∀ whole,isTrue a X.env whole=(do let v <- whole;standAt a.pos;holding [v] (truthy v)):=by intro _;rfl):PT X a (tTru X.K ta):=akZ ha he
noncomputable def tNotT (K:PySem.W.Frag) (te:TE):TE:=fun O H Q=>te O H fun x H1=>∃ k,TruV K x H1 k/\Q (.bl (!k)) H1
end
mutual
inductive Dn (K:PySem.W.Frag) (H:Hp):V->PyData->Prop
 | non:Dn K H .non .none
 | bl (b):Dn K H (.bl b) (.bool b)
 | int (i):Dn K H (.int i) (.int i)
 | str (x):PyData.strOk x=true->Dn K H (.str x) (.str x)
 | lst {a xs ds} : C7 K H a xs->DnAll K H xs ds->Dn K H (.ref a) (.list ds)
 | tup {a xs ds} : C6 K H a xs->DnAll K H xs ds->Dn K H (.ref a) (.tuple ds)
inductive DnAll (K:PySem.W.Frag) (H:Hp):List V->List PyData->Prop
 | nil:DnAll K H [] []
 | cons {x xs d ds} : Dn K H x d->DnAll K H xs ds->DnAll K H (x::xs) (d::ds)
end
section
variable {X:Cx} {pins:List (Addr×Obj)} {O:St} {H:Hp} {s:Shared}
mutual
theorem Dn.reads{K:PySem.W.Frag}{x:V}{d:PyData}(I:Inv X pins O H s)(hK:X.K=K):Dn K H x d->∀ {u:Value},RelV x u->d.canLay0=true/\∃ as,Reads s.heap u d as
 | .non,u,r=>by cases r;exact ⟨rfl,_,.none⟩
 | .bl b,u,r=>by cases r;exact ⟨rfl,_,.bool b⟩
 | .int i,u,r=>by obtain ⟨t,rfl⟩:=r;exact ⟨rfl,_,.int i t⟩
 | .str x hx,u,r=>by obtain ⟨t,rfl⟩:=r;exact ⟨hx,_,.str x t⟩
 | .lst (a:=a) q hs,u,r=>by
  cases r
  subst hK;obtain ⟨its,rv,⟨o,n,e,c,_,dd⟩,_⟩:=I.list q;obtain ⟨h1,as,h2⟩:=DnAll.reads I rfl hs rv;exact ⟨h1,_,.list e c dd (by simpa using h2)⟩
 | .tup (a:=a) q hs,u,r=>by
  cases r
  subst hK;obtain ⟨its,rv,⟨o,e,c,n,dd⟩,_⟩:=I.tuple q;obtain ⟨h1,as,h2⟩:=DnAll.reads I rfl hs rv;exact ⟨h1,_,.tuple e c dd (by simpa using h2)⟩
theorem DnAll.reads{K:PySem.W.Frag}{xs:List V}{ds:List PyData}(I:Inv X pins O H s)(hK:X.K=K):DnAll K H xs ds->∀ {us:List Value},Vals xs us->PyData.canLayAll0 ds=true/\∃ as,ReadsAll s.heap us ds as
 | .nil,us,r=>by cases r;exact ⟨rfl,_,.nil⟩
 | .cons h t,us,r=>by
  cases r with
  | cons r1 r2=>
   obtain ⟨c1,a1,q1⟩:=Dn.reads I hK h r1;obtain ⟨c2,a2,q2⟩:=DnAll.reads I hK t r2;exact ⟨by simp [PyData.canLayAll0,c1,c2],_,.cons q1 q2⟩
end
end
mutual
theorem Dn.same{K:PySem.W.Frag}{H H':Hp}(hs:Same H H'){x:V}{d:PyData} : Dn K H x d->Dn K H' x d
 | .non=>.non
 | .bl b=>.bl b
 | .int i=>.int i
 | .str x h=>.str x h
 | .lst q h=>.lst (hs.seq q) (DnAll.same hs h)
 | .tup (a:=a) (xs:=xs) q h=>.tup (by
   rcases q with (q | ⟨o,q⟩) | q
   .exact .inl (.inl (hs _ _ q))
   .exact .inl (.inr ⟨o,hs _ _ q⟩)
   .exact .inr q) (DnAll.same hs h)
theorem DnAll.same{K:PySem.W.Frag}{H H':Hp}(hs:Same H H'){xs:List V}{ds:List PyData} : DnAll K H xs ds->DnAll K H' xs ds
 | .nil=>.nil
 | .cons h t=>.cons (Dn.same hs h) (DnAll.same hs t)
end
theorem eE{K:PySem.W.Frag}{H:Hp} : ∀ {zs:List Int},DnAll K H (zs.map V.int) (zs.map PyData.int)
 | []=>.nil
 | z::zs=>.cons (.int z) eE
theorem pB:∀ (xs ys:List Int),PyData.eqvAll (xs.map PyData.int) (ys.map PyData.int)=decide (xs=ys)
 | [],[]=>by simp [PyData.eqvAll]
 | [],_::_=>by simp [PyData.eqvAll]
 | _::_,[]=>by simp [PyData.eqvAll]
 | x::xs,y::ys=>by
  rw [K5,K5,PyData.eqvAll,pB xs ys];rw [show k7 (.int x) (.int y)=(x==y) by simp [k7]]
  by_cases h1:x=y
  .subst h1;simp
  .simp [h1]
noncomputable def rAddR (K:PySem.W.Frag) (a b:Addr) (H:Hp) (Q:VK):Prop:=rCat (.ref a) (.ref b) H Q\/rCatT K (.ref a) (.ref b) H Q
theorem rAddR.l{K:PySem.W.Frag}{a b:Addr}{H:Hp}{Q:VK}{xs ys:List V}(h1:H a=some (.lst xs))(h2:H b=some (.lst ys))(h3:xs.length+ys.length<=sizeLine)(h:∀ p,H p=none->Q (.ref p) (A0 H p (.lst (xs++ys)))):rAddR K a b H Q:=.inl ⟨a,b,xs,ys,rfl,rfl,h1,h2,h3,h⟩
theorem rAddR.t{K:PySem.W.Frag}{a b:Addr}{H:Hp}{Q:VK}{xs ys:List V}(h1:C6 K H a xs)(h2:C6 K H b ys)(h0:xs≠[])(h3:xs.length+ys.length<=sizeLine)(he:ys=[]->Q (.ref a) H)(h:ys≠[]->∀ p,H p=none->Q (.ref p) (A0 H p (.tup (xs++ys)))):rAddR K a b H Q:=.inr ⟨a,b,xs,ys,rfl,rfl,h1,h2,h0,h3,he,h⟩
noncomputable def rAddU (K:PySem.W.Frag):V->V->Hp->VK->Prop
 | .int i,.int j,H,Q=>Q (.int (i+j)) H
 | .str i,.str j,H,Q=>i.length+j.length<=sizeLine/\Q (.str (i++j)) H
 | .ref a,.ref b,H,Q=>rAddR K a b H Q
 | _,_,_,_=>False
noncomputable def rMulU:V->V->Hp->VK->Prop
 | .int i,.int j,H,Q=>CMul i j/\Q (.int (i*j)) H
 | .ref a,.int j,H,Q=>rRep (.ref a) (.int j) H Q
 | _,_,_,_=>False
noncomputable def rEqU (K:PySem.W.Frag):V->V->Hp->VK->Prop
 | .int i,.int j,H,Q=>Q (.bl (decide (i=j))) H
 | .str i,.str j,H,Q=>Q (.bl (decide (i=j))) H
 | .bl i,.bl j,H,Q=>Q (.bl (decide (i=j))) H
 | x,y,H,Q=>∃ d e,Dn K H x d/\Dn K H y e/\min d.depth e.depth<=60/\Q (.bl (k7 d e)) H
noncomputable def rNeU (K:PySem.W.Frag):V->V->Hp->VK->Prop
 | .int i,.int j,H,Q=>Q (.bl (!decide (i=j))) H
 | .str i,.str j,H,Q=>Q (.bl (!decide (i=j))) H
 | .bl i,.bl j,H,Q=>Q (.bl (!decide (i=j))) H
 | x,y,H,Q=>∃ d e,Dn K H x d/\Dn K H y e/\min d.depth e.depth<=60/\Q (.bl (!PyData.eqv d e)) H
noncomputable def rLtU:V->V->Hp->VK->Prop
 | .int i,.int j,H,Q=>Q (.bl (decide (i<j))) H
 | .str i,.str j,H,Q=>Q (.bl (decide (i.cps.toList<j.cps.toList))) H
 | _,_,_,_=>False
noncomputable def rLeU:V->V->Hp->VK->Prop
 | .int i,.int j,H,Q=>Q (.bl (decide (i<=j))) H
 | .str i,.str j,H,Q=>Q (.bl (!decide (j.cps.toList<i.cps.toList))) H
 | _,_,_,_=>False
noncomputable def rGtU:V->V->Hp->VK->Prop
 | .int i,.int j,H,Q=>Q (.bl (decide (j<i))) H
 | .str i,.str j,H,Q=>Q (.bl (decide (j.cps.toList<i.cps.toList))) H
 | _,_,_,_=>False
noncomputable def rGeU:V->V->Hp->VK->Prop
 | .int i,.int j,H,Q=>Q (.bl (decide (j<=i))) H
 | .str i,.str j,H,Q=>Q (.bl (!decide (i.cps.toList<j.cps.toList))) H
 | _,_,_,_=>False
noncomputable def rInR (K:PySem.W.Frag) (neg:Bool) (x:V) (p:Addr) (H:Hp) (Q:VK):Prop:=tK K neg x (.ref p) H Q\/∃ o,DGet H p x o/\Q (.bl (neg.xor o.isSome)) H
theorem rInR.l{K:PySem.W.Frag}{neg:Bool}{x:V}{p:Addr}{H:Hp}{Q:VK}{xs:List V}(h1:C7 K H p xs\/C6 K H p xs)(h2:flatV x=true)(h3:xs.all flatV=true)(h:Q (.bl (neg.xor (cA x xs))) H):rInR K neg x p H Q:=.inl ⟨p,xs,rfl,h1,h2,h3,by cases neg <;> simpa using h⟩
theorem rInR.d{K:PySem.W.Frag}{neg:Bool}{x:V}{p:Addr}{H:Hp}{Q:VK}{o:Option V}(h1:DGet H p x o)(h:Q (.bl (neg.xor o.isSome)) H):rInR K neg x p H Q:=.inr ⟨o,h1,h⟩
noncomputable def rInU (K:PySem.W.Frag) (neg:Bool) (x:V):V->Hp->VK->Prop
 | .str j,H,Q=>∃ i,x=.str i/\Q (.bl (neg.xor (!(Builtin.Str.occurrences j i 0 j.length 1).isEmpty))) H
 | .ref p,H,Q=>rInR K neg x p H Q
 | _,_,_=>False
section
variable {X:Cx} {pins:List (Addr×Obj)} {O:St} {H:Hp} {s:Shared}
theorem p_add:K1 X (binaryOp .Add) (rAddU X.K):=by
 intro pins s O H x y v u Q I rx ry h
 cases x <;> cases y <;> try exact h.elim
 .exact aoQ pins s O H _ _ v u Q I rx ry ⟨_,_,rfl,rfl,h⟩
 .exact ais pins s O H _ _ v u Q I rx ry ⟨_,_,rfl,rfl,h⟩
 .rcases h with h | h
  .exact ao8 pins s O H _ _ v u Q I rx ry h
  .exact ang pins s O H _ _ v u Q I rx ry h
theorem p_mul:K1 X (binaryOp .Mult) rMulU:=by
 intro pins s O H x y v u Q I rx ry h
 cases x <;> cases y <;> try exact h.elim
 .exact aoR pins s O H _ _ v u Q I rx ry ⟨_,_,rfl,rfl,h⟩
 .exact ao9 pins s O H _ _ v u Q I rx ry h
theorem aqe:K1 X (binaryOp .FloorDiv) (rI CDiv fun i j=>.int (i / j)):=am2
theorem p_mod:K1 X (binaryOp .Mod) (rI (fun _ j=>0<j) fun i j=>.int (i % j)):=aoS
theorem pC(hu:X.A.units+64<cLine){x y:V}{v u:Value}{Q:VK}(I:Inv X pins O H s)(rx:RelV x v)(ry:RelV y u)(h:∃ d e,Dn X.K H x d/\Dn X.K H y e/\min d.depth e.depth<=60/\Q (.bl (k7 d e)) H):wpAny (model X.prog X.w) X.A (compareOp .Eq v u) (EP X pins O Q) X.xe s:=by
 obtain ⟨d,e,h1,h2,hd,q⟩:=h;obtain ⟨c1,as,r1⟩:=h1.reads I rfl rx;obtain ⟨c2,bs,r2⟩:=h2.reads I rfl ry;exact SeqAt.compareEq_reads r1 r2 c1 c2 (by lia) ⟨.bl _,H,I,rfl,q⟩
theorem pD(hu:X.A.units+64<cLine){x y:V}{v u:Value}{Q:VK}(I:Inv X pins O H s)(rx:RelV x v)(ry:RelV y u)(h:∃ d e,Dn X.K H x d/\Dn X.K H y e/\min d.depth e.depth<=60/\Q (.bl (!PyData.eqv d e)) H):wpAny (model X.prog X.w) X.A (compareOp .NotEq v u) (EP X pins O Q) X.xe s:=by
 obtain ⟨d,e,h1,h2,hd,q⟩:=h;obtain ⟨c1,as,r1⟩:=h1.reads I rfl rx;obtain ⟨c2,bs,r2⟩:=h2.reads I rfl ry;exact SeqAt.compareNe_reads r1 r2 c1 c2 (by lia) ⟨.bl _,H,I,rfl,q⟩
theorem p_eq(hu:X.A.units+64<cLine):K1 X (compareOp .Eq) (rEqU X.K):=by
 intro pins s O H x y v u Q I rx ry h;have sc:∀ {x y:V},rEq x y H Q->RelV x v->RelV y u->wpAny (model X.prog X.w) X.A (compareOp .Eq v u) (EP X pins O Q) X.xe s:=fun {x y} h rx ry=>op_eq pins s O H x y v u Q I rx ry h
 cases x with
 | int i=>cases y with
  | int j=>exact sc (x:=.int i) (y:=.int j) ⟨rfl,by simpa using (show Q (.bl (decide (i=j))) H from h)⟩ rx ry
  | _=>exact pC hu I rx ry h
 | str i=>cases y with
  | str j=>exact sc (x:=.str i) (y:=.str j) ⟨rfl,by simpa using (show Q (.bl (decide (i=j))) H from h)⟩ rx ry
  | _=>exact pC hu I rx ry h
 | bl i=>cases y with
  | bl j=>exact sc (x:=.bl i) (y:=.bl j) ⟨rfl,by simpa using (show Q (.bl (decide (i=j))) H from h)⟩ rx ry
  | _=>exact pC hu I rx ry h
 | _=>cases y <;> exact pC hu I rx ry h
theorem p_ne(hu:X.A.units+64<cLine):K1 X (compareOp .NotEq) (rNeU X.K):=by
 intro pins s O H x y v u Q I rx ry h;have sc:∀ {x y:V},rNe x y H Q->RelV x v->RelV y u->wpAny (model X.prog X.w) X.A (compareOp .NotEq v u) (EP X pins O Q) X.xe s:=fun {x y} h rx ry=>op_ne pins s O H x y v u Q I rx ry h
 cases x with
 | int i=>cases y with
  | int j=>exact sc (x:=.int i) (y:=.int j) ⟨rfl,by simpa using (show Q (.bl (!decide (i=j))) H from h)⟩ rx ry
  | _=>exact pD hu I rx ry h
 | str i=>cases y with
  | str j=>exact sc (x:=.str i) (y:=.str j) ⟨rfl,by simpa using (show Q (.bl (!decide (i=j))) H from h)⟩ rx ry
  | _=>exact pD hu I rx ry h
 | bl i=>cases y with
  | bl j=>exact sc (x:=.bl i) (y:=.bl j) ⟨rfl,by simpa using (show Q (.bl (!decide (i=j))) H from h)⟩ rx ry
  | _=>exact pD hu I rx ry h
 | _=>cases y <;> exact pD hu I rx ry h
theorem p_lt:K1 X (compareOp .Lt) rLtU:=by
 intro pins s O H x y v u Q I rx ry h
 cases x <;> cases y <;> try exact h.elim
 .exact op_lt pins s O H _ _ v u Q I rx ry ⟨_,_,rfl,rfl,h⟩
 .exact af3 pins s O H _ _ v u Q I rx ry ⟨_,_,rfl,rfl,h⟩
theorem p_le:K1 X (compareOp .LtE) rLeU:=by
 intro pins s O H x y v u Q I rx ry h
 cases x <;> cases y <;> try exact h.elim
 .exact op_le pins s O H _ _ v u Q I rx ry ⟨_,_,rfl,rfl,h⟩
 .obtain ⟨t,rfl⟩:=rx;obtain ⟨t',rfl⟩:=ry;exact PySem.P.le_str ⟨.bl _,H,I,by simp [RelV],h⟩
theorem p_in(hu:X.A.units+64<cLine):K1 X (compareOp .In) (rInU X.K false):=by
 intro pins s O H x y v u Q I rx ry h
 cases y with
 | str j=>
  obtain ⟨i,rfl,q⟩:=h;exact ajh pins s O H _ _ v u Q I rx ry ⟨i,j,rfl,rfl,by simpa using q⟩
 | ref p=>
  rcases h with h | ⟨o,g,q⟩
  .exact ajs pins s O H _ _ v u Q I rx ry h
  .obtain rfl:u=Value.ref p:=ry;exact d_in (by lia) I g rx fun s3 I3=>⟨.bl o.isSome,H,I3,rfl,by simpa using q⟩
 | _=>exact h.elim
theorem anp(hu:X.A.units+64<cLine):K1 X (compareOp .NotIn) (rInU X.K true):=by
 intro pins s O H x y v u Q I rx ry h
 cases y with
 | str j=>
  obtain ⟨i,rfl,q⟩:=h;exact aga pins s O H _ _ v u Q I rx ry ⟨i,j,rfl,rfl,by simpa using q⟩
 | ref p=>
  rcases h with h | ⟨o,g,q⟩
  .exact af9 pins s O H _ _ v u Q I rx ry h
  .obtain rfl:u=Value.ref p:=ry;exact anj (by lia) I g rx fun s3 I3=>⟨.bl (!o.isSome),H,I3,rfl,by simpa using q⟩
 | _=>exact h.elim
noncomputable def cutS (x:Str) (lo hi:Option Int):Str:=⟨((x.cps.toList.drop (HT.sIx x.length 0 lo)).take (HT.sIx x.length x.length hi-HT.sIx x.length 0 lo)).toArray⟩
noncomputable def rSlS:V->Option Int->Option Int->Hp->VK->Prop:=fun x lo hi H Q=>∃ z,x=.str z/\z.length<=sizeLine/\Q (.str (cutS z lo hi)) H
end
end L2
variable {C C2 a b c0 cl_Shelf_texts ds f fa it kS p pt_Shelf_texts r sl th:PySem.Addr}{dvs vs xs ys:List L2.V}{Q:L2.VK}{cd ct ctv oc pm u v vl vu:PySem.Value}{ck e1 i j k m n n' t' x1:Nat}{items items2:Array PySem.Value}{cs fr ns:List Int}{its its' its2 us:List PySem.Value}{pins:List (PySem.Addr×PySem.Obj)}{O:L2.St}{H H' H0 H1 H2 H3 H5 zt:L2.Hp}{s zw:PySem.Shared}{A:PySem.Around}{name o q qn qual x y z:PySem.Str}{h h':PySem.Heap}{L M N N' S acc bad g' ks ks' line loose ls ms ps ts zs:List PySem.Str}{X:L2.Cx}{K:PySem.W.Frag}{kvs:List (L2.C1×L2.V)}{prog:PySem.Program}{E:PySem.Value->PySem.Shared->Prop}{ixs pre:List Nat}{c:L2.TT}{body e elt iter target tg:PySem.Expr}{elts ifs:List PySem.Expr}{g:L2.TG}{tc td te ti tl to tx ty:L2.TE}{fp rs:List PySem.Addr}{apos cpos kpos lpos p2 spos tpos:PySem.Pos}{b1 b2 b3 calm fg neg:Bool}{st:PySem.Stmt}{fd:PySem.FuncData}{sp:L2.Sp}{an od:Option PySem.Addr}{tb:L2.TS}{D:L2.Ends}{lo:Int}{mg:PySem.Str->Option PySem.Value}{ta:L2.TA}{ss:Array (Option PySem.Value)}{ob:PySem.Obj}
set_option maxRecDepth 100000
namespace L2
open PySem PySem.Spec PyProof.Rows
section
variable {X:Cx}
theorem ajB(x:Str)(lo hi:Option Int):Txt.slice x lo hi=cutS x lo hi:=by
 have c1:∀ (o:Option Int) (d:Nat),(match o with | none=>(d:Int) | some i=>if (1:Int) > 0 then max 0 (min (if i<0 then i+(x.length:Int) else i) (x.length:Int)) else max (-1) (min (if i<0 then i+(x.length:Int) else i) ((x.length:Int)-1)))=((HT.sIx x.length d o:Nat):Int):=by
  intro o d
  cases o with
  | none=>rfl
  | some i=>
   rw [<- HT.clip_eq i x.length d];simp only [show ((1:Int) > 0)=True by simp,if_true]
   split <;> lia
 have h2:Builtin.Str.strSliceIndices lo hi 1 x.length=Builtin.Str.strSliceIndices (some ((HT.sIx x.length 0 lo:Nat):Int)) (some ((HT.sIx x.length x.length hi:Nat):Int)) 1 x.length:=by
  have e1:=c1 lo 0;have e2:=c1 hi x.length;have e3:=c1 (some ((HT.sIx x.length 0 lo:Nat):Int)) 0;have e4:=c1 (some ((HT.sIx x.length x.length hi:Nat):Int)) x.length;have l1:=HT.sIx_le x.length 0 (F7 _) lo;have l2:=HT.sIx_le x.length x.length (B5 _) hi;rw [HT.sIx_nat,gS l1] at e3;rw [HT.sIx_nat,gS l2] at e4;unfold Builtin.Str.strSliceIndices
  dsimp only at e3 e4 ⊢
  rw [e3,e4];clear e3 e4 l1 l2;refine congr (congr (congrArg sliceRange ?_) ?_) rfl
  .cases lo with
   | none=>exact e1
   | some i=>exact e1
  .cases hi with
   | none=>exact e2
   | some i=>exact e2
 have l1:=HT.sIx_le x.length 0 (F7 _) lo;have l2:=HT.sIx_le x.length x.length (B5 _) hi;unfold Txt.slice cutS;rw [h2];generalize HT.sIx x.length 0 lo=a at *;generalize HT.sIx x.length x.length hi=b at *;have len:x.length=x.cps.toList.length:=by simp [Str.length]
 by_cases y3:a<=b
 .rw [StrLaws.sliced_plain x y3 l2,StrLaws.strSliceIndices_plain y3 l2]
  split
  .rename_i hc
   have R6:b-a=x.length:=by simpa using hc
   have ha:a=0:=by lia
   subst ha;rw [List.drop_zero,p9 (by lia)]
  .rfl
 .have e:Builtin.Str.strSliceIndices (some (a:Int)) (some (b:Int)) 1 x.length=[]:=by
   have h1:¬ ((a:Int)<0):=by lia
   have h2:¬ ((b:Int)<0):=by lia
   have e1:max (0:Int) (min (a:Int) (x.length:Int))=a:=by lia
   have e2:max (0:Int) (min (b:Int) (x.length:Int))=b:=by lia
   simp only [Builtin.Str.strSliceIndices,sliceRange,h1,h2,if_false,e1,e2,show ((1:Int) > 0)=True from by simp,if_true];rw [if_neg (by lia)];rfl
  rw [e,show b-a=0 by lia,bT]
  split
  .rename_i hc
   have R6:0=x.length:=by simpa using hc
   have:x.cps.toList=[]:=List.eq_nil_of_length_eq_zero (by lia)
   obtain ⟨⟨l⟩⟩:=x;simp at this;subst this;rfl
  .rfl
theorem aqf:iB X rSlS:=by
 intro pins s O H x v vl vu lo hi sl Q I rx hs pl pu h;obtain ⟨z,rfl,hz,q⟩:=h;obtain ⟨t,rfl⟩:=rx;refine ⟨"str",_,F.slot_str_getitem.lookup,typeIs_str _ _ _,?_⟩;rw [<- ajB] at q;have part:∀ {u:Value} {o:Option Int},IsPart u o->∃ l:Option (Int×Tok),u=partValue l/\l.map (·.1)=o:=fun {u o} p=>by
  cases p with
  | none=>exact ⟨none,rfl,rfl⟩
  | int i t=>exact ⟨some (i,t),rfl,rfl⟩
 obtain ⟨l,rfl,el⟩:=part pl;obtain ⟨u,rfl,eu⟩:=part pu;subst el eu;refine wpAny_getItem_str_slice (l:=l) (u:=u) (st:=none) hs rfl ?_;exact post_val_or_str ⟨K6 (Txt.slice_le z _ _) hz,fun t' k=>⟨.str _,H,I.tok _,⟨t',rfl⟩,q⟩⟩
theorem adw{w:World}{t:Addr}{lo hi:Option Int}{Q:Value->Shared->Prop}(ht:IsTup s.heap t items)(hs:s.heap.IsSliceOf sl vl vu .none)(pl:IsPart vl lo)(pu:IsPart vu hi)(hw:HT.sIx items.size 0 lo=0/\HT.sIx items.size items.size hi=items.size)(h:Q (.ref t) s):wpAny (model prog w) A (getItem (.ref t) (.ref sl)) Q E s:=by
 obtain ⟨os,fA,rN,mK⟩:=id hs;have hTs:s.TypeIs (.ref sl) "slice":=⟨os,fA,rN⟩
 unfold getItem
 try with_reducible refine wpAny_holding ?_
 first | refine wpAny_bind (wpAny_pure ?_) | skip
 refine wpAny_bind (wpAny_sequenceKey ht.typeIs (by decide) ?_);refine wpAny_bind (wpAny_callSpecial?_slot (name:=Str.ofString "__getitem__") ht.typeIs PyProof.Rows.slot_tuple_getitem
  (wpAny_call_entry PyProof.Rows.slot_tuple_getitem ht.typeIs PyProof.Rows.entry_tuple_getitem ?_ (PyProof.Rows.args_tuple_getitem _ _)))
 show wpAny _ _ (Builtin.Tuple.tupleItemsOf (.ref t) >>= _) _ _ s;refine wpAny_bind (PyProof.Rows.tupleItemsOf_ ht ?_);refine wpAny_bind (wpAny_typeOf hTs ?_);rw [if_pos (by decide)];refine wpAny_bind (HT.sliceApplied_gen hs pl pu ?_);have yJ:((((HT.sIx items.size 0 lo:Nat):Int)==0&&(1:Int)==1&&(HT.sIx items.size items.size hi-HT.sIx items.size 0 lo)==items.size)=true):=by
  rw [hw.1,hw.2]
  simp
 show wpAny _ _ (if (((HT.sIx items.size 0 lo:Nat):Int)==0&&(1:Int)==1&&(HT.sIx items.size items.size hi-HT.sIx items.size 0 lo)==items.size)=true then _ else _) _ _ s;rw [if_pos yJ];refine wpAny_bind ?_;show wpAny _ _ (typeOf (.ref t) >>= fun v=>pure (v == .type "tuple")) _ _ s;refine wpAny_bind (wpAny_typeOf ht.typeIs (wpAny_pure ?_));rw [if_pos (by decide)];refine wpAny_bind (wpAny_rule ?_);exact wpAny_pure ⟨_,rfl,wpAny_pure h⟩
noncomputable def rSlW (K:PySem.W.Frag):V->Option Int->Option Int->Hp->VK->Prop:=fun x lo hi H Q=>∃ a xs,x=.ref a/\C6 K H a xs/\(HT.sIx xs.length 0 lo=0/\HT.sIx xs.length xs.length hi=xs.length)/\Q (.ref a) H
theorem aqg:iB X (rSlW X.K):=by
 intro pins s O H x v vl vu lo hi sl Q I rx hs pl pu h;obtain ⟨a,xs,rfl,hx,hw,q⟩:=h
 cases rx
 obtain ⟨its,r,ht,hz⟩:=I.tuple hx;have A9:its.toArray.size=xs.length:=by rw [E7];exact r.length.symm
 refine ⟨"tuple",_,PyProof.Rows.slot_tuple_getitem.lookup,ht.typeIs,?_⟩;exact adw ht hs pl pu (by rw [A9];exact hw) ⟨.ref a,H,I,rfl,q⟩
noncomputable def rSlR (K:PySem.W.Frag) (a:Addr) (lo hi:Option Int) (H:Hp) (Q:VK):Prop:=rSlL K (.ref a) lo hi H Q\/rSlT K (.ref a) lo hi H Q\/rSlW K (.ref a) lo hi H Q
theorem rSlR.l{lo hi:Option Int}(h1:C7 K H a xs)(h:∀ p,H p=none->Q (.ref p) (A0 H p (.lst (cutV xs lo hi)))):rSlR K a lo hi H Q:=.inl ⟨a,xs,rfl,h1,h⟩
theorem rSlR.t{lo hi:Option Int}(h1:C6 K H a xs)(h2:¬ (HT.sIx xs.length 0 lo=0/\HT.sIx xs.length xs.length hi=xs.length))(h:∀ p,H p=none->Q (.ref p) (A0 H p (.tup (cutV xs lo hi)))):rSlR K a lo hi H Q:=.inr (.inl ⟨a,xs,rfl,h1,h2,h⟩)
theorem rSlR.w{lo hi:Option Int}(h1:C6 K H a xs)(h2:HT.sIx xs.length 0 lo=0/\HT.sIx xs.length xs.length hi=xs.length)(h:Q (.ref a) H):rSlR K a lo hi H Q:=.inr (.inr ⟨a,xs,rfl,h1,h2,h⟩)
noncomputable def rSlU (K:PySem.W.Frag):V->Option Int->Option Int->Hp->VK->Prop
 | .str z,lo,hi,H,Q=>z.length<=sizeLine/\Q (.str (cutS z lo hi)) H
 | .ref a,lo,hi,H,Q=>rSlR K a lo hi H Q
 | _,_,_,_,_=>False
theorem p_sl:iB X (rSlU X.K):=by
 intro pins s O H x v vl vu lo hi sl Q I rx hs pl pu h
 cases x with
 | str z=>exact aqf pins s O H _ v vl vu lo hi sl Q I rx hs pl pu ⟨z,rfl,h⟩
 | ref a=>
  rcases h with h | h | h
  .exact anh pins s O H _ v vl vu lo hi sl Q I rx hs pl pu h
  .exact ao3 pins s O H _ v vl vu lo hi sl Q I rx hs pl pu h
  .exact aqg pins s O H _ v vl vu lo hi sl Q I rx hs pl pu h
 | _=>exact h.elim
noncomputable def LenR (K:PySem.W.Frag) (H:Hp) (p:Addr) (n:Nat):Prop:=(∃ xs,C7 K H p xs/\n=xs.length)\/(∃ xs,C6 K H p xs/\n=xs.length)\/∃ kvs,Rd H p (.dK kvs)/\n=kvs.length
noncomputable def rLenU (K:PySem.W.Frag):List V->Hp->VK->Prop
 | [.str z],H,Q=>z.length<=sizeLine/\Q (.int z.length) H
 | [.ref p],H,Q=>∃ n:Nat,LenR K H p n/\Q (.int n) H
 | _,_,_=>False
theorem p_len:CallR X (.builtin "len") (rLenU X.K):=by
 intro pins s O H xs us Q I r h
 match xs,h with
 | [.str z],h=>exact tD pins s O H _ us Q I r ⟨.str z,z.length,rfl,⟨h.1,rfl⟩,h.2⟩
 | [.ref p],⟨n,l,q⟩=>
  rcases l with ⟨xs,l,rfl⟩ | ⟨xs,l,rfl⟩ | ⟨kvs,l,rfl⟩
  .exact tD pins s O H _ us Q I r ⟨.ref p,_,rfl,.inl ⟨xs,l,rfl⟩,q⟩
  .exact tD pins s O H _ us Q I r ⟨.ref p,_,rfl,.inr ⟨xs,l,rfl⟩,q⟩
  .obtain ⟨u,rfl,ru⟩:=vals1 r
   cases ru
   exact d_len I l fun t s' I'=>⟨.int kvs.length,H,I',⟨t,rfl⟩,q⟩
theorem aeF(hc:X.calm=true):CallR X (.type "list") (fun xs H Q=>∃ d kvs,xs=[.ref d]/\Rd H d (.dK kvs)/\∀ l,H l=none->Q (.ref l) (A0 H l (.lst (kvs.map fun kv=>kV kv.1)))):=by
 intro pins s O H xs us Q I r h;obtain ⟨d,kvs,rfl,e,q⟩:=h;obtain ⟨u,rfl,rx⟩:=vals1 r
 cases rx
 obtain ⟨z,hd,vs,rel,dd⟩:=dk_rd I.hok e;obtain ⟨ep,K3⟩:=dd.dictAt;have hl:=rel.length;refine PySem.W.kdl_call (PySem.W.kdl_dict (knd:=M7 X.prog X.w) (kvs:=vs) (ep:=ep) hd) (I.ok.hd hc) K3 (by lia) fun h' tk acc c' kp hD U1=>?_
 have hv:Vals (kvs.map fun kv=>kV kv.1) acc.toList:=by
  have hk:=rel.keys;have A9:acc.toList.length=kvs.length:=by rw [t8,U1.1,hl]
  have key:∀ (ks:List C1) (us:List Value),us.length=ks.length->(∀ (j:Nat) (v:Value),us[j]?=some v->∃ k,ks[j]?=some k/\keyIs k v=true)->Vals (ks.map kV) us:=by
   intro ks
   induction ks with
   | nil=>intro us h1 _;cases us with
    | nil=>exact .nil
    | cons _ _=>simp at h1
   | cons k ks ih=>
    intro us h1 h2
    cases us with
    | nil=>simp at h1
    | cons u us=>
     obtain ⟨k',e1,e2⟩:=h2 0 u rfl;simp at e1;subst e1;refine .cons ?_ (ih us (by simpa using h1) fun j v hj=>by simpa using h2 (j+1) v (by simpa using hj))
     rcases i6 e2 with ⟨i,t,rfl,rfl⟩ | ⟨x,t,rfl,rfl⟩
     .exact ⟨t,rfl⟩
     .exact ⟨t,rfl⟩
  rw [show (kvs.map fun kv=>kV kv.1)=(kvs.map (·.1)).map kV by rw [g9];rfl];refine key _ _ (by rw [A9,A4]) fun j v hj=>?_
  obtain ⟨k,x,hx,fF⟩:=U1.2 j v (by rw [<- oM];exact hj);refine ⟨k,?_,fF⟩;rw [hk,O1,hx];rfl
 refine ⟨.ref s.heap.objs.size,_,I.laid (t':=tk) kp (B5 _) (show ObjOk X.prog X.w _ h' _ (.lst (kvs.map fun kv=>kV kv.1)) from ⟨by rw [A4];exact z,acc.toList,c',hv,by simpa using hD⟩),rfl,q _ (I.hok.fresh (B5 _))⟩
noncomputable def rListR (K:PySem.W.Frag) (calm:Bool) (p:Addr) (H:Hp) (Q:VK):Prop:=(∃ ys,(C7 K H p ys\/C6 K H p ys)/\∀ l,H l=none->Q (.ref l) (A0 H l (.lst ys)))\/(calm=true/\∃ kvs,Rd H p (.dK kvs)/\∀ l,H l=none->Q (.ref l) (A0 H l (.lst (kvs.map fun kv=>kV kv.1))))
theorem rListR.l(h1:C7 K H p ys\/C6 K H p ys)(h:∀ l,H l=none->Q (.ref l) (A0 H l (.lst ys))):rListR K calm p H Q:=.inl ⟨ys,h1,h⟩
theorem rListR.d(h1:Rd H p (.dK kvs))(h:∀ l,H l=none->Q (.ref l) (A0 H l (.lst (kvs.map fun kv=>kV kv.1)))):rListR K true p H Q:=.inr ⟨rfl,kvs,h1,h⟩
noncomputable def tV (K:PySem.W.Frag) (calm:Bool):List V->Hp->VK->Prop
 | [.ref p],H,Q=>rListR K calm p H Q
 | _,_,_=>False
theorem aqh:CallR X (.type "list") (tV X.K X.calm):=by
 intro pins s O H xs us Q I r h
 match xs,h with
 | [.ref p],h=>
  rcases h with ⟨ys,h1,h2⟩ | ⟨hc,kvs,h1,h2⟩
  .exact agb pins s O H _ us Q I r ⟨p,ys,rfl,h1,h2⟩
  .exact aeF hc pins s O H _ us Q I r ⟨p,kvs,rfl,h1,h2⟩
noncomputable def rAllB (calm:Bool):List V->Hp->VK->Prop
 | [.ref p],H,Q=>∃ bs:List Bool,calm=true/\H p=some (.lst (bs.map V.bl))/\Q (.bl (bs.all id)) H
 | _,_,_=>False
noncomputable def cC (H:Hp):V->Option String
 | .non=>some "NoneType"
 | .bl _=>some "bool"
 | .int _=>some "int"
 | .str _=>some "str"
 | .ref a=>match H a with
  | some (.lst _)=>some "list"
  | some (.frz _ (.lst _))=>some "list"
  | some (.tup _)=>some "tuple"
  | some (.dK _)=>some "dict"
  | _=>none
 | _=>none
noncomputable def tW (T n:String):Bool:=T==n || (T == "bool" && n == "int")
noncomputable def isTys:List String:=["str", "int", "bool", "list", "tuple", "dict"]
noncomputable def rIsi:List V->Hp->VK->Prop
 | [x,.ty n],H,Q=>∃ T,cC H x=some T/\isTys.contains n=true/\Q (.bl (tW T n)) H
 | _,_,_=>False
theorem aqi{x:V}{T:String}(h:cC H x=some T):TyOf K H x (.type T)/\["NoneType", "bool", "int", "str", "list", "tuple", "dict"].contains T=true:=by
 cases x with
 | non=>cases h;exact ⟨.non,by decide⟩
 | bl b=>cases h;exact ⟨.bl b,by decide⟩
 | int i=>cases h;exact ⟨.int i,by decide⟩
 | str z=>cases h;exact ⟨.str z,by decide⟩
 | ref a=>
  unfold cC at h
  dsimp only at h
  cases e:H a with
  | none=>rw [e] at h;cases h
  | some o=>
   rw [e] at h
   cases o with
   | lst xs=>cases h;exact ⟨.lst e,by decide⟩
   | tup xs=>cases h;exact ⟨.tup e,by decide⟩
   | dK kvs=>cases h;exact ⟨.dK e,by decide⟩
   | frz ob u=>
    cases u with
    | lst xs=>cases h;exact ⟨.frz e,by decide⟩
    | _=>cases h
   | _=>cases h
 | _=>cases h
theorem anq(K:PySem.W.Frag):∀ T∈["NoneType", "bool", "int", "str", "list", "tuple", "dict"],∀ n∈isTys,PySem.W.kitOne K (.type T) (.type n)=some (tW T n):=by
 intro T hT n hn;simp only [E4,Z6,or_false,isTys] at hT hn
 rcases hT with rfl | rfl | rfl | rfl | rfl | rfl | rfl <;> rcases hn with rfl | rfl | rfl | rfl | rfl | rfl <;> rfl
theorem alj:CallR X (.builtin "isinstance") rIsi:=by
 intro pins s O H xs us Q I r h
 match xs,h with
 | [x,.ty n],⟨T,h1,h2,q⟩=>
  obtain ⟨u,c,rfl,ru,rc⟩:=vals2 r;obtain rfl:c=Value.type n:=rc;obtain ⟨h3,h4⟩:=aqi (K:=X.K) h1;exact ajm I ru h3 (anq X.K T (by simpa using h4) n (by simpa using h2)) fun tk=>⟨.bl _,H,I.tok tk,rfl,q⟩
noncomputable def rOrd:List V->Hp->VK->Prop
 | [.str z],H,Q=>z.length=1/\Q (.int (z.cps.getD 0 0:Nat)) H
 | _,_,_=>False
theorem p_ord:CallR X (.builtin "ord") rOrd:=by
 intro pins s O H xs us Q I r h
 match xs,h with
 | [.str z],h=>exact ak0 pins s O H _ us Q I r ⟨z,rfl,h⟩
noncomputable def iG (x:Str):It:=⟨fun i _=>i<x.cps.size,fun i H v H'=>H'=H/\∃ c,x.cps.toList[i]?=some c/\v=.str ⟨#[c]⟩,fun i _=>x.cps.size<=i⟩
theorem alk{P:Program}{w:World}{ty:String}(V6:ty="str_ascii_iterator"\/ty="str_iterator")(it:Addr)(x:Str)(t:Tok):Turn P w K tg (iG x) [it] it (fun i h=>h.IsStrIter it ty x t i) where
 mem:=by simp
 obj:=fun i h st b hb=>by
  have e:b=it:=by simpa using hb
  subst e;obtain ⟨o,e,c,d⟩:=st;exact ⟨o,e,fun v z=>by rw [d] at z;cases z⟩
 keep:=fun i h h' st k=>let ⟨o,e,r⟩:=st;⟨o,k it (by simp) o e,r⟩
 item:=by
  intro X hP hw hK hc i pins s O H E I hf st hg;subst hP hw hK;obtain ⟨f0,f1,f2,f3,f4,f5⟩:=hf it (by simp);have jN:i<x.cps.size:=hg;have go:∀ h',h'.IsStrIter it ty x t (i+1)->Heap.SameBut it s.heap h'->∃ u,some (Value.str ⟨#[x.cps[i]]⟩ s.toks)=some u/\
    wpAny (model X.prog X.w) X.A (letOwnedTupleGo tg (.ref it) u) (fun _ s2=>∃ y H',Inv X pins O H' s2/\RelV y u/\(iG x).yld i H y H'/\s2.heap.IsStrIter it ty x t (i+1)/\∀ b∈[it],H' b=none) E { s with heap:=h',toks:=s.toks+1 }:=by
   intro h' st' sb;have I1:Inv X pins O H { s with heap:=h',toks:=s.toks+1 }:=I.turned (t':=s.toks+1) (fun b o hb e=>(sb.2 b hb).trans e) f0 f1 f3 f4 f5;obtain ⟨o,e,c,d⟩:=id st';refine ⟨_,rfl,go_of (s:={ s with heap:=h',toks:=s.toks+1 }) e c d (by rcases V6 with rfl | rfl <;> decide) ⟨.str ⟨#[x.cps[i]]⟩,H,I1,⟨_,rfl⟩,⟨rfl,x.cps[i],?_,rfl⟩,st',fun b hb=>(hf b hb).1⟩⟩;simp [jN]
  rcases V6 with rfl | rfl
  .exact wpAny_pyNext_ascii_item st (c:=x.cps[i]) (by simp [jN]) go
  .exact wpAny_pyNext_wide_item st (c:=x.cps[i]) (by simp [jN]) go
 done:=by
  intro X hP hw hK hc i pins s O H E I hf st hg;subst hP hw hK;obtain ⟨f0,f1,f2,f3,f4,f5⟩:=hf it (by simp);have jN:x.cps.size<=i:=hg;have fin:∀ h',Heap.ExtBut it s.heap h'->(none:Option Value)=none/\Inv X pins O H { s with heap:=h' }:=fun h' eb=>⟨rfl,I.turned (t':=s.toks) (fun b o hb e=>eb b o hb e) f0 f1 f3 f4 f5⟩
  rcases V6 with rfl | rfl
  .exact wpAny_pyNext_ascii_end (I.ok.hd hc) st (by simp [jN]) fin
  .exact wpAny_pyNext_wide_end (I.ok.hd hc) st (by simp [jN]) fin
 self:=fun A i s Q E st h=>by
  rcases V6 with rfl | rfl
  .exact wpAny_pyIter_striter_ascii st h
  .exact wpAny_pyIter_striter_wide st h
noncomputable def iStr (tl:TE):TI:=fun O H R=>tl O H fun x H1=>∃ z,x=.str z/\R (iG z) H1
variable {tg:Expr}
theorem aqj{l:Expr}(hl:PE X l tl):PI X tg l (iStr tl):=by
 intro pins s O H R I h;refine B1 (hl pins s O H _ I h) fun v s1 ⟨x,H1,I1,r1,q1⟩=>?_
 obtain ⟨z,rfl,q⟩:=q1;obtain ⟨t,rfl⟩:=r1;have fin:∀ (ty:String) (V6:ty="str_ascii_iterator"\/ty="str_iterator"),sW X pins O tg R (.ref s1.heap.objs.size) { s1 with heap:=s1.heap.push { cls:=.type ty,data:=.fields #[.str z t,.int 0 0] } }:=fun ty V6=>by
  refine ⟨s1.heap.objs.size,[s1.heap.objs.size],_,_,H1,rfl,I1.kept (t':=s1.toks) fun b o e=>Heap.get?_push_of_some _ e,alk V6 s1.heap.objs.size z t,⟨_,Heap.get?_push_size _ rfl,rfl,rfl⟩,fun b hb=>?_,q⟩;have e:b=s1.heap.objs.size:=by simpa using hb
  subst e;exact I1.fpOk (B5 _) (I1.hok.fresh (B5 _))
 cases ha:z.cps.all (· < 128)
 .exact wpAny_pyIter_wide ha (fin _ (.inr rfl))
 .exact wpAny_pyIter_ascii ha (fin _ (.inl rfl))
end
end L2
set_option maxRecDepth 100000
namespace L2
open PySem PySem.Spec PyProof.Rows
noncomputable def L1:Expr->Bool
 | .Starred _ _=>true
 | _=>false
noncomputable def W6 (es:List Expr):Bool:=es.all fun e=>!L1 e
theorem N0{es:List Expr}{env:Env}(h:L1 e=false):starEach (e::es) env=(false,eval e env)::starEach es env:=by
 cases e <;> first | rfl | cases h
theorem eF{pos:Pos}{env:Env} : ∀ {es:List Expr},W6 es=true->(backTo pos (starEach es env)).any (·.1)=false
 | [],_=>rfl
 | e::es,h=>by
  have h':(!L1 e&&W6 es)=true:=h;rw [Z7] at h';rw [N0 (by simpa using h'.1)];have ih:=eF (pos:=pos) (env:=env) h'.2;unfold backTo at ih ⊢
  rw [K5,t7,ih];rfl
theorem ahQ{pos:Pos}{env:Env} : ∀ {es:List Expr},W6 es=true->(backTo pos (starEach es env)).all (fun x=>!x.1)=true
 | [],_=>rfl
 | e::es,h=>by
  have h':(!L1 e&&W6 es)=true:=h;rw [Z7] at h';rw [N0 (by simpa using h'.1)];have ih:=ahQ (pos:=pos) (env:=env) h'.2;unfold backTo at ih ⊢
  rw [K5,List.all_cons,ih];rfl
section
variable {X:Cx} {e:Expr} {es:List Expr} {te:TE} {t:TA} {x:Str} {p pos:Pos} {id T:String} {r:List V->Hp->VK->Prop}
theorem pa_c(ha:PE X e te)(hr:PA X es t)(h:L1 e=false:=by rfl):PA X (e::es) (tCons te t):=am8 ha hr (N0 h)
theorem pe_cB(hc:CallR X (.builtin id) r)(hg:Gl X x)(hm:X.mg x=none)(hv:bootBuiltins x=some (.builtin id))(ha:PA X (e::es) t)(h1:L1 e=false:=by rfl)(h2:W6 es=true:=by rfl)(hn:x≠"__name__":=by decide)(Q9:(x==("__debug__" : Str))=false:=by decide) :
  PE X (.Call (.Name x p) (e::es) [] pos) (eB r t):=ak5 hc hg hm hv ha hn Q9 (N0 h1) (eF h2)
theorem pe_cT(hc:CallR X (.type T) r)(hg:Gl X x)(hm:X.mg x=none)(hv:bootBuiltins x=some (.type T))(ha:PA X (e::es) t)(h1:L1 e=false:=by rfl)(h2:W6 es=true:=by rfl)(hn:x≠"__name__":=by decide)(Q9:(x==("__debug__" : Str))=false:=by decide) :
  PE X (.Call (.Name x p) (e::es) [] pos) (eB r t):=ajp hc hg hm hv ha hn Q9 (N0 h1) (eF h2)
variable {o:Expr} {to:TE} {name:Str} {apos cpos:Pos} {rm:V->List V->Hp->VK->Prop}
theorem pe_mB(pa:PlainAttrs T)(slot:Slot T name id)(V6:typeOf (.builtin id)=pure (.type "method_descriptor"))(hm:oT X id rm)(ho:PE X o to)(ha:PA X (e::es) t)(h1:L1 e=false:=by rfl)(h2:W6 es=true:=by rfl)(h3:decide ((e::es).length<30)=true:=by rfl)(E2:attributeBase o name X.env (eval o X.env)=eval o X.env:=by rfl)(E3:(apos.endLine==cpos.line)=true:=by rfl):PE X (.Call (.Attribute o name apos) (e::es) [] cpos) (iC X.K T rm to t):=
 pe_bm pa slot V6 hm ho ha E2 (by
  rw [ahQ (show W6 (e::es)=true by show (!L1 e&&W6 es)=true;rw [h1,h2];rfl)];have h3':(e::es).length<30:=of_decide_eq_true h3;simp only [List.isEmpty_nil,if_true,k4,Nat.add_zero,Bool.true_and];rw [decide_eq_true h3'];rfl) E3 (N0 h1) (eF h2)
variable {tg a b:Expr} {ta:TA}
theorem pi_r1(hg:Gl X "range")(hm:X.mg "range"=none)(ha:PA X [a] ta)(h1:L1 a=false:=by rfl):PI X tg (.Call (.Name "range" p) [a] [] pos) (iRng1 ta):=ajb hg hm ha (by rw [N0 h1];rfl)
end
noncomputable def FO (P:Program) (w:World) (K:PySem.W.Frag) (mg:Str->Option Value) (base:Heap) (k:Nat) (x:Str) (ps:List Str) (dvs:List V) (sp:Sp):Prop:=
 ∃ f fd,FnOk P w K mg base D9 k f fd ps sp/\mg x=some (.ref f)/\Q4 K (.ref f)=true/\∃ ds,Binds K fd ps ds/\Vals dvs ds
structure FunD(K:PySem.W.Frag)(x qual:Str)(st:Stmt)(f:Addr)(fd:FuncData):Prop where
 ex:∃ (oc:Value) (od:Option Addr) (dV kV doc pm:Value) (an:Option Addr) (cdv ct:Value) (osl:Array (Option Value)),
  fd=P3 x qual (Q5 st) (P5 st) (C3 st) dV kV doc pm an cdv ct/\K.lookup f=some ⟨oc,od,.func fd,osl⟩/\T0 K cdv qual=true
section
variable {P:Program} {w:World} {K:PySem.W.Frag} {mg:Str->Option Value} {base:Heap}
theorem FunD.ok(F:FunD K x qual st f fd)(S:FnScope N ps (C3 st))(len:∀ vs H Q E,sp vs H Q E->vs.length=ps.length)(V5:∀ (cdv:Value) (A:Around) (outer:List Env) (s:Shared) (H:Hp) (vs:List V) (Q:VK) (E:XK),Room k (A.deeper (envOfC qual (C3 st) s.heap.objs.size f cdv))->sp vs H Q E->
   ∃ t,W2 (cxOf D9 P w K mg base N qual (C3 st) f cdv A outer s H E).nox (P5 st) t/\t { nx:=fun _ H'=>Q .non H',rt:=Q } (start N vs) H):FnOk P w K mg base D9 (k+1) f fd ps sp:=by
 obtain ⟨oc,od,dV,kV,doc,pm,an,cdv,ct,osl,rfl,lk,P7⟩:=F.ex;refine fn_of lk P7 S len fun A outer s H vs Q E hr x9=>?_
 obtain ⟨t,h,q⟩:=V5 cdv A outer s H vs Q E hr x9;exact ⟨t,h.nox,q⟩
theorem i8{osl:Array (Option Value)}{dV kV doc cdv:Value}(l:K.lookup f=some ⟨oc,od,.func (P3 x qual (Q5 st) (P5 st) (C3 st) dV kV doc pm an cdv ct),osl⟩)(c:T0 K cdv qual=true):FunD K x qual st f (P3 x qual (Q5 st) (P5 st) (C3 st) dV kV doc pm an cdv ct):=⟨oc,od,dV,kV,doc,pm,an,cdv,ct,osl,rfl,l,c⟩
end
section
variable {X:Cx} {k:Nat} {ps:List Str} {sp:Sp} {dvs:List V} {x:Str} {p pos:Pos} {e:Expr} {es:List Expr} {t:TA}
theorem alm(G:FO X.prog X.w X.K X.mg X.base k x ps dvs sp)(hr:Room k X.A)(ha:PA X (e::es) t)(hg:Gl X x:=by rfl)(h1:L1 e=false:=by rfl)(h2:W6 es=true:=by rfl)(Q9:(x==("__debug__" : Str))=false:=by decide):PE X (.Call (.Name x p) (e::es) [] pos) (tCall sp dvs E0 t):=by
 obtain ⟨f,fd,F,hm,hk,ds,hb,hd⟩:=G;exact am9 F hr hg hm hk hb hd pass0 ha Q9 (N0 h1) (eF h2)
theorem aln{i:Int}(h:∃ t,X.mg x=some (.int i t))(hg:Gl X x:=by rfl)(hd:(x==("__debug__" : Str))=false:=by decide):PE X (.Name x p) (tC (.int i)):=by
 obtain ⟨t,h⟩:=h;exact ai8 hg h ⟨t,rfl⟩ hd
theorem alo(h:X.mg x=some (.ref a))(hg:Gl X x:=by rfl)(hd:(x==("__debug__" : Str))=false:=by decide):PE X (.Name x p) (tC (.ref a)):=ai8 hg h rfl hd
end
section
variable {O:St} {H:Hp} {Q:VK} {B:Bool->Hp->Prop} {ta tb tc te:TE} {t u:TS} {tt uu:TT} {D:Ends} {i:Nat} {v:V} {r r':R2} {K:PySem.W.Frag} {taa:TA} {R:List V->Hp->Prop} {g:TG}
theorem ams:tVar i O H Q=∃ v,(O[i]?).join=some v/\Q v H:=by
 unfold tVar;refine propext ⟨fun ⟨v,h,q⟩=>⟨v,by rw [h];rfl,q⟩,fun ⟨v,h,q⟩=>⟨v,?_,q⟩⟩;cases e:O[i]? with
 | none=>rw [e] at h;cases h
 | some o=>rw [e] at h;exact congrArg some h
theorem ap_c:tC v O H Q=Q v H:=rfl
theorem ap_op:l7 r ta tb O H Q=ta O H fun x H1=>tb O H1 fun y H2=>r x y H2 Q:=rfl
theorem ap_un{ru:V->Hp->VK->Prop} : sX ru ta O H Q=ta O H fun x H1=>ru x H1 Q:=rfl
theorem ap_rU{f:Int->V}{x:V} : rU f x H Q=∃ i,x=.int i/\Q (f i) H:=rfl
theorem anr:tTest ta O H B=ta O H fun x H'=>∃ k,x=.bl k/\B k H':=rfl
theorem ap_tB:tB ta O H B=ta O H fun x H'=>∃ k,x=.bl k/\B k H':=rfl
theorem ans:tTru K ta O H B=ta O H fun x H'=>∃ k,TruV K x H' k/\B k H':=rfl
theorem ant:tNotT K ta O H Q=ta O H fun x H'=>∃ k,TruV K x H' k/\Q (.bl (!k)) H':=rfl
theorem alp:sZ r r' ta tb tc O H Q=ta O H fun x H1=>tb O H1 fun y H2=>r x y H2 fun z H3=>∃ k,z=.bl k/\(if k=true then tc O H3 fun w' H4=>r' y w' H4 Q else Q (.bl false) H3):=rfl
theorem aqk:tAnd tt uu O H B=tt O H fun c H1=>if c=true then uu O H1 B else B false H1:=rfl
theorem ap_or:sR tt uu O H B=tt O H fun c H1=>if c=true then B true H1 else uu O H1 B:=rfl
theorem aql:tNot tt O H B=tt O H fun c H1=>B (!c) H1:=rfl
theorem anu:tAndV ta tb O H Q=ta O H fun x H1=>∃ c,x=.bl c/\if c=true then tb O H1 Q else Q (.bl false) H1:=rfl
theorem aqm:tOrV ta tb O H Q=ta O H fun x H1=>∃ c,x=.bl c/\if c=true then Q (.bl true) H1 else tb O H1 Q:=rfl
theorem anv:tNotV ta O H Q=ta O H fun x H1=>∃ c,x=.bl c/\Q (.bl (!c)) H1:=rfl
theorem ap_if:sS tt ta tb O H Q=tt O H fun c H1=>if c=true then ta O H1 Q else tb O H1 Q:=rfl
theorem anw:tNext D O H=D.nx O H:=rfl
theorem aqn:tSeq t u D O H=t { D with nx:=u D } O H:=rfl
theorem alq:aoG D O H=D.bk O H:=rfl
theorem anx:tCont D O H=D.ct O H:=rfl
theorem anz:tDrop te D O H=te O H fun _ H1=>D.nx O H1:=rfl
theorem aqo:tRet te D O H=te O H D.rt:=rfl
theorem anA:tRetN D O H=D.rt .non H:=rfl
theorem aqp:tIfS tt t u D O H=tt O H fun b H1=>if b=true then t D O H1 else u D O H1:=rfl
theorem alr:sT D O H=False:=rfl
theorem anB{Z:St->Hp->Prop} : gName i v O H Z=Z (O.set i (some v)) H:=rfl
theorem anC{Z:St->Hp->Prop} : gNil vs O H Z=(vs=[]/\Z O H):=rfl
theorem als{us:i7}{Z:St->Hp->Prop} : gCons g us vs O H Z=∃ v r,vs=v::r/\g v O H fun σ' H'=>us r σ' H' Z:=rfl
theorem anD{us:i7}{Z:St->Hp->Prop} : gTup K n us v O H Z=∃ a xs,v=.ref a/\C6 K H a xs/\xs.length=n/\us xs O H Z:=rfl
theorem anE{ts:TSet}{Z:St->Hp->Prop} : gSub ta tb ts v O H Z=ta O H fun o H1=>tb O H1 fun i H2=>ts o i v H2 fun H3=>Z O H3:=rfl
theorem aqq:tAsg te g D O H=te O H fun x H1=>g x O H1 D.nx:=rfl
theorem aqr{ti:dZ} : tAug i te ti D O H=∃ x,(O[i]?).join=some x/\te O H fun y H1=>ti x y H1 fun z H2=>D.nx (O.set i (some z)) H2:=ams (Q:=fun x H=>te O H fun y H1=>ti x y H1 fun z H2=>D.nx (O.set i (some z)) H2)
theorem aqs{f:Int->Int->Int}{x y:V} : sV f x y H Q=∃ i j,x=.int i/\y=.int j/\Q (.int (f i j)) H:=rfl
theorem anF:tCons te taa O H R=te O H fun x H1=>taa O H1 fun xs H2=>R (x::xs) H2:=rfl
theorem aqt:tNil O H R=R [] H:=rfl
theorem anG{E:XK} : tCall sp dvs E taa O H Q=taa O H fun vs H1=>sp (vs++dvs) H1 Q E:=rfl
theorem ap_cb{rc:List V->Hp->VK->Prop} : eB rc taa O H Q=taa O H fun vs H1=>rc vs H1 Q:=rfl
theorem aqu:tTup taa O H Q=taa O H fun xs H1=>xs.length<=sizeLine/\∀ p,H1 p=none->Q (.ref p) (A0 H1 p (.tup xs)):=rfl
theorem aqv:tLst taa O H Q=taa O H fun xs H1=>xs.length<=sizeLine/\∀ p,H1 p=none->Q (.ref p) (A0 H1 p (.lst xs)):=rfl
theorem ap_sl{rs:V->Option Int->Option Int->Hp->VK->Prop}{tl th:TO} : tI rs te tl th O H Q=te O H fun x H1=>tl O H1 fun l H2=>th O H2 fun u H3=>rs x l u H3 Q:=rfl
theorem ajD{zy:Option Int->Hp->Prop} : tH O H zy=zy none H:=rfl
theorem anH{zy:Option Int->Hp->Prop} : tPart te O H zy=te O H fun x H1=>∃ i,x=.int i/\zy (some i) H1:=rfl
theorem ap_bm{T:String}{rm:V->List V->Hp->VK->Prop} : iC K T rm te taa O H Q=te O H fun x H1=>cB K T x H1/\taa O H1 fun xs H2=>rm x xs H2 Q:=rfl
theorem aqw{T:String}{rm:V->List V->Hp->VK->Prop} : tBM0 K T rm te O H Q=te O H fun x H1=>cB K T x H1/\rm x [] H1 Q:=rfl
theorem aqx:tYes O H B=B true H:=rfl
theorem anI:tP O H Q=∀ p,H p=none->Q (.ref p) (A0 H p (.dK [])):=rfl
theorem anJ:tDGet ta tb O H Q=ta O H fun x H1=>tb O H1 fun y H2=>∃ a v,x=.ref a/\DGet H2 a y (some v)/\Q v H2:=rfl
theorem anK:sDPut ta tb tc D O H=tc O H fun v H1=>ta O H1 fun x H2=>tb O H2 fun y H3=>∃ a H4,x=.ref a/\DPut H3 a y v H4/\D.nx O H4:=rfl
theorem anL{rd:V->V->Hp->VK->Prop} : sDAug ta tb tc rd D O H=ta O H fun x H1=>tb O H1 fun y H2=>∃ a v,x=.ref a/\DGet H2 a y (some v)/\tc O H2 fun y2 H3=>rd v y2 H3 fun z H4=>∃ H5,DPut H4 a y z H5/\D.nx O H5:=rfl
theorem anM{x y:V} : hX (fun i j=>V.int (i-j)) x y H Q=∃ i j,x=.int i/\y=.int j/\Q (.int (i-j)) H:=rfl
theorem alt{x y:V} : rI CDiv (fun i j=>V.int (i / j)) x y H Q=∃ i j,x=.int i/\y=.int j/\(0<j/\j<1073741824)/\Q (.int (i / j)) H:=rfl
theorem anN{x y:V} : rI (fun _ j=>0<j) (fun i j=>V.int (i % j)) x y H Q=∃ i j,x=.int i/\y=.int j/\0<j/\Q (.int (i % j)) H:=rfl
theorem anO : cB K "str" (.str z) H=True:=by simp [cB]
noncomputable def ForIt (J:It) (g:TG) (tb:TS) (D:Ends) (O:St) (H1:Hp):Prop:=∃ W:Nat->Nat->St->Hp->Prop,(∃ m,W 0 m O H1)/\∀ i m O H,W i m O H->
 (J.stop i H/\D.nx O H)\/(J.go i H/\∃ N:St->Hp->Prop,(∀ σ' H',N σ' H'->∃ m',m'<m/\W (i+1) m' σ' H')/\∀ x H',J.yld i H x H'->g x O H' fun σ2 H2=>tb { D with nx:=N,ct:=N,bk:=D.nx } σ2 H2)
theorem aqy{wi:TI}{tbs:TS} : tFor wi g tbs D O H=wi O H fun J H1=>ForIt J g tbs D O H1:=rfl
theorem alu{Z:It->Hp->Prop} : iList K te O H Z=te O H fun x H1=>∃ a,x=.ref a/\(∃ xs,C7 K H1 a xs)/\Z (t9 K a) H1:=rfl
theorem anP{Z:It->Hp->Prop} : iTup K te O H Z=te O H fun x H1=>∃ a,x=.ref a/\(∃ xs,C6 K H1 a xs)/\Z (bY K a) H1:=rfl
theorem anQ{Z:It->Hp->Prop} : iStr te O H Z=te O H fun x H1=>∃ z,x=.str z/\Z (iG z) H1:=rfl
theorem alv{Z:It->Hp->Prop} : iRng1 taa O H Z=taa O H fun vs H1=>∃ j:Int,vs=[.int j]/\-(2 ^ 62)<=j/\j<2 ^ 62/\Z (l6 0 j.toNat) H1:=rfl
theorem alw{Z:It->Hp->Prop} : iRng2 taa O H Z=taa O H fun vs H1=>∃ i j:Int,vs=[.int i,.int j]/\(-(2 ^ 62)<=i/\i<2 ^ 62/\-(2 ^ 62)<=j/\j<2 ^ 62)/\Z (l6 i (j-i).toNat) H1:=rfl
noncomputable def aM (J:It) (k:Nat) (ixs:List Nat) (g:TG) (c:TT) (te:TE) (O:St) (Q:VK) (H1:Hp):Prop:=∀ D,H1 D=none->
 ∃ (n:Nat) (W:Nat->List V->St->Hp->Prop),W 0 [] (compStart k ixs O) (A0 H1 D (.lst []))/\∀ i ys σ2 H2,W i ys σ2 H2->H2 D=some (.lst ys)->
  (J.stop i H2/\Q (.ref D) H2)\/
  (i<n/\J.go i H2/\∀ x H',J.yld i H2 x H'->g x σ2 H' fun σ3 H3=>c σ3 H3 fun b H4=>
   if b=true then te σ3 H4 fun y H5=>H5 D=some (.lst ys)/\ys.length<sizeLine/\W (i+1) (ys++[y]) σ3 (A0 H5 D (.lst (ys++[y])))
   else H4 D=some (.lst ys)/\W (i+1) ys σ3 H4)
theorem anR{wi:TI} : tComp wi k ixs g tt te O H Q=wi O H fun J H1=>aM J k ixs g tt te O Q H1:=rfl
end
theorem anS{b k:Bool} : TruV K (.bl b) H k=(k=b):=rfl
theorem alx{i:Int}{k:Bool} : TruV K (.int i) H k=(k=(i != 0)):=rfl
theorem aly{k:Bool} : TruV K (.str z) H k=(z.length<=sizeLine/\k=((z.length:Int) != 0)):=rfl
theorem alz{k:Bool} : TruV K .non H k=(k=false):=rfl
theorem alA : start N vs=vs.map some++W1 (N.length-vs.length) none:=rfl
theorem agj : compStart k ixs O=W1 k none++ixs.map fun i=>(O[i]?).join:=rfl
theorem anT{i:Int} : eC K (.str z) (.int i) H Q=∃ c,z.length<=sizeLine/\K7 z.cps.toList i=some c/\Q (.str ⟨#[c]⟩) H:=by
 simp only [eC,rIxL,rIxT,rIxS];refine propext ⟨fun h=>?_,fun ⟨c,h⟩=>.inr (.inr ⟨z,i,c,rfl,rfl,h⟩)⟩
 rcases h with ⟨p,xs,j,v,e,_⟩ | ⟨p,xs,j,v,e,_⟩ | ⟨z',i',c,e1,e2,h⟩
 .cases e
 .cases e
 .cases e1;cases e2;exact ⟨c,h⟩
theorem anU{i:Int} : eC K (.ref p) (.int i) H Q=∃ xs v,(C7 K H p xs\/C6 K H p xs)/\K7 xs i=some v/\Q v H:=by
 simp only [eC,rIxL,rIxT,rIxS];refine propext ⟨fun h=>?_,fun ⟨xs,v,h,r⟩=>?_⟩
 .rcases h with ⟨p',xs,j,v,e1,e2,h1,h2⟩ | ⟨p',xs,j,v,e1,e2,h1,h2⟩ | ⟨z',i',c,e1,e2,h⟩
  .cases e1;cases e2;exact ⟨xs,v,.inl h1,h2⟩
  .cases e1;cases e2;exact ⟨xs,v,.inr h1,h2⟩
  .cases e1
 .rcases h with h | h
  .exact .inl ⟨p,xs,i,v,rfl,rfl,h,r⟩
  .exact .inr (.inl ⟨p,xs,i,v,rfl,rfl,h,r⟩)
theorem tX{α:Type}{xs:List α}{i:Int}(h0:0<=i)(h1:i<xs.length):∃ v,K7 xs i=some v/\v∈xs:=by
 have C4:i.toNat<xs.length:=by lia
 refine ⟨xs[i.toNat],?_,gP C4⟩;unfold K7 W9;rw [if_pos h0,if_pos h1];simp [C4]
theorem Q6:bootBuiltins "len"=some (.builtin "len"):=by decide +kernel
theorem iH:bootBuiltins "isinstance"=some (.builtin "isinstance"):=by decide +kernel
theorem amt:bootBuiltins "any"=some (.builtin "any"):=by decide +kernel
theorem aqz:bootBuiltins "ord"=some (.builtin "ord"):=by decide +kernel
theorem aqA:bootBuiltins "min"=some (.builtin "min"):=by decide +kernel
theorem lA:bootBuiltins "list"=some (.type "list"):=by decide +kernel
theorem pE:bootBuiltins "tuple"=some (.type "tuple"):=by decide +kernel
theorem ajF:bootBuiltins "dict"=some (.type "dict"):=by decide +kernel
theorem pG:bootBuiltins "int"=some (.type "int"):=by decide +kernel
theorem ajG:bootBuiltins "bool"=some (.type "bool"):=by decide +kernel
section
variable {K:PySem.W.Frag} {H:Hp} {Q:VK} {i j:Int} {x y:Str} {u v:V} {b c:Bool} {p q:Addr} {lo hi:Option Int} {cm:Bool}
theorem ad_ii:rAddU K (.int i) (.int j) H Q=Q (.int (i+j)) H:=rfl
theorem ad_ss:rAddU K (.str x) (.str y) H Q=(x.length+y.length<=sizeLine/\Q (.str (x++y)) H):=rfl
theorem ad_rr:rAddU K (.ref p) (.ref q) H Q=rAddR K p q H Q:=rfl
theorem mu_ii:rMulU (.int i) (.int j) H Q=(CMul i j/\Q (.int (i*j)) H):=rfl
theorem mu_ri:rMulU (.ref p) (.int j) H Q=rRep (.ref p) (.int j) H Q:=rfl
theorem eq_ii:rEqU K (.int i) (.int j) H Q=Q (.bl (decide (i=j))) H:=rfl
theorem eq_ss:rEqU K (.str x) (.str y) H Q=Q (.bl (decide (x=y))) H:=rfl
theorem eq_bb:rEqU K (.bl b) (.bl c) H Q=Q (.bl (decide (b=c))) H:=rfl
theorem eq_rx:rEqU K (.ref p) v H Q=∃ d e,Dn K H (.ref p) d/\Dn K H v e/\min d.depth e.depth<=60/\Q (.bl (k7 d e)) H:=by cases v <;> rfl
theorem eq_xr:rEqU K v (.ref p) H Q=∃ d e,Dn K H v d/\Dn K H (.ref p) e/\min d.depth e.depth<=60/\Q (.bl (k7 d e)) H:=by cases v <;> rfl
theorem ne_ii:rNeU K (.int i) (.int j) H Q=Q (.bl (!decide (i=j))) H:=rfl
theorem ne_ss:rNeU K (.str x) (.str y) H Q=Q (.bl (!decide (x=y))) H:=rfl
theorem ne_bb:rNeU K (.bl b) (.bl c) H Q=Q (.bl (!decide (b=c))) H:=rfl
theorem ne_rx:rNeU K (.ref p) v H Q=∃ d e,Dn K H (.ref p) d/\Dn K H v e/\min d.depth e.depth<=60/\Q (.bl (!PyData.eqv d e)) H:=by cases v <;> rfl
theorem ne_xr:rNeU K v (.ref p) H Q=∃ d e,Dn K H v d/\Dn K H (.ref p) e/\min d.depth e.depth<=60/\Q (.bl (!PyData.eqv d e)) H:=by cases v <;> rfl
theorem lt_ii:rLtU (.int i) (.int j) H Q=Q (.bl (decide (i<j))) H:=rfl
theorem lt_ss:rLtU (.str x) (.str y) H Q=Q (.bl (decide (x.cps.toList<y.cps.toList))) H:=rfl
theorem le_ii:rLeU (.int i) (.int j) H Q=Q (.bl (decide (i<=j))) H:=rfl
theorem le_ss:rLeU (.str x) (.str y) H Q=Q (.bl (!decide (y.cps.toList<x.cps.toList))) H:=rfl
theorem gt_ii:rGtU (.int i) (.int j) H Q=Q (.bl (decide (j<i))) H:=rfl
theorem gt_ss:rGtU (.str x) (.str y) H Q=Q (.bl (decide (y.cps.toList<x.cps.toList))) H:=rfl
theorem ge_ii:rGeU (.int i) (.int j) H Q=Q (.bl (decide (j<=i))) H:=rfl
theorem ge_ss:rGeU (.str x) (.str y) H Q=Q (.bl (!decide (x.cps.toList<y.cps.toList))) H:=rfl
theorem in_xs:rInU K b u (.str x) H Q=∃ i,u=.str i/\Q (.bl (b.xor (!(Builtin.Str.occurrences x i 0 x.length 1).isEmpty))) H:=rfl
theorem in_xr:rInU K b u (.ref p) H Q=rInR K b u p H Q:=rfl
theorem sl_s:rSlU K (.str x) lo hi H Q=(x.length<=sizeLine/\Q (.str (cutS x lo hi)) H):=rfl
theorem sl_r:rSlU K (.ref p) lo hi H Q=rSlR K p lo hi H Q:=rfl
theorem len_s:rLenU K [.str x] H Q=(x.length<=sizeLine/\Q (.int x.length) H):=rfl
theorem len_r:rLenU K [.ref p] H Q=∃ n:Nat,LenR K H p n/\Q (.int n) H:=rfl
theorem aqB:tV K cm [.ref p] H Q=rListR K cm p H Q:=rfl
theorem all_r:rAllB cm [.ref p] H Q=∃ bs:List Bool,cm=true/\H p=some (.lst (bs.map V.bl))/\Q (.bl (bs.all id)) H:=rfl
theorem isi_t{n:String} : rIsi [u,.ty n] H Q=∃ T,cC H u=some T/\isTys.contains n=true/\Q (.bl (tW T n)) H:=rfl
theorem ord_s:rOrd [.str x] H Q=(x.length=1/\Q (.int (x.cps.getD 0 0:Nat)) H):=rfl
end
theorem forL(Pv:Nat->St->Hp->Prop)(h0:Pv 0 O H)(hl:∀ i O H,i<=xs.length->Pv i O H->C7 K H a xs)(hs:∀ i x O H,xs[i]?=some x->Pv i O H->g x O H fun σ2 H2=>tb { D with nx:=Pv (i+1),ct:=Pv (i+1),bk:=D.nx } σ2 H2)(hd:∀ O H,Pv xs.length O H->D.nx O H):ForIt (t9 K a) g tb D O H:=akX Pv h0 hl hs hd
theorem forT(Pv:Nat->St->Hp->Prop)(h0:Pv 0 O H)(hl:∀ i O H,i<=xs.length->Pv i O H->C6 K H a xs)(hs:∀ i x O H,xs[i]?=some x->Pv i O H->g x O H fun σ2 H2=>tb { D with nx:=Pv (i+1),ct:=Pv (i+1),bk:=D.nx } σ2 H2)(hd:∀ O H,Pv xs.length O H->D.nx O H):ForIt (bY K a) g tb D O H:=am1 Pv h0 hl hs hd
theorem forR(Pv:Nat->St->Hp->Prop)(h0:Pv 0 O H)(hs:∀ i O H,i<n->Pv i O H->g (.int (lo+i)) O H fun σ2 H2=>tb { D with nx:=Pv (i+1),ct:=Pv (i+1),bk:=D.nx } σ2 H2)(hd:∀ O H,Pv n O H->D.nx O H):ForIt (l6 lo n) g tb D O H:=ajd Pv h0 hs hd
noncomputable def CW (n:Nat) (fr:St) (Pv:Nat->List V->Hp->Prop) (i:Nat) (ys:List V) (σ2:St) (H2:Hp):Prop:=i<=n/\ys.length<=i/\(∃ v,σ2=v::fr)/\Pv i ys H2
theorem CW.put{fr:St}{Pv:Nat->List V->Hp->Prop}{y:V}{o:Option V}(hi:i<n)(hy:ys.length<=i)(p:Pv (i+1) (ys++[y]) H):CW n fr Pv (i+1) (ys++[y]) (o::fr) H:=
 ⟨hi,by rw [C8,R3];lia,⟨_,rfl⟩,p⟩
theorem pH{fr:St}{Pv:Nat->List V->Hp->Prop}{o:Option V}(hi:i<n)(hy:ys.length<=i)(p:Pv (i+1) ys H):CW n fr Pv (i+1) ys (o::fr) H:=⟨hi,Nat.le_succ_of_le hy,⟨_,rfl⟩,p⟩
theorem compL(fr:St)(U3:compStart 1 ixs O=none::fr)(Pv:Addr->Nat->List V->Hp->Prop)(h0:∀ D,H1 D=none->Pv D 0 [] (A0 H1 D (.lst [])))(hl:∀ D i ys H,H1 D=none->i<=xs.length->Pv D i ys H->C7 K H a xs)(hs:∀ D i x ys H,H1 D=none->i<xs.length->xs[i]?=some x->Pv D i ys H->H D=some (.lst ys)->ys.length<=i->c (some x::fr) H fun b H4=>
   if b=true then te (some x::fr) H4 fun y H5=>H5 D=some (.lst ys)/\ys.length<sizeLine/\CW xs.length fr (Pv D) (i+1) (ys++[y]) (some x::fr) (A0 H5 D (.lst (ys++[y])))
   else H4 D=some (.lst ys)/\CW xs.length fr (Pv D) (i+1) ys (some x::fr) H4)(hd:∀ D ys H,H1 D=none->Pv D xs.length ys H->H D=some (.lst ys)->ys.length<=xs.length->Q (.ref D) H):aM (t9 K a) 1 ixs (gName 0) c te O Q H1:=by
 intro D hD;refine ⟨xs.length,CW xs.length fr (Pv D),⟨F7 _,F7 _,⟨none,U3⟩,h0 D hD⟩,?_⟩;rintro i ys σ2 H2 ⟨hi,hy,⟨v,rfl⟩,p⟩ hDy;have q:=hl D i ys H2 hD hi p
 by_cases C4:i<xs.length
 .refine .inr ⟨C4,⟨xs,xs[i],q,by simp [C4]⟩,fun x H' y=>?_⟩;obtain ⟨e,y⟩:=y;subst e;exact hs D i x ys _ hD C4 (y xs q) p hDy hy
 .have e:i=xs.length:=by lia
  subst e;exact .inl ⟨⟨xs,q,B5 _⟩,hd D ys H2 hD p hDy hy⟩
theorem compT(fr:St)(U3:compStart 1 ixs O=none::fr)(Pv:Addr->Nat->List V->Hp->Prop)(h0:∀ D,H1 D=none->Pv D 0 [] (A0 H1 D (.lst [])))(hl:∀ D i ys H,H1 D=none->i<=xs.length->Pv D i ys H->C6 K H a xs)(hs:∀ D i x ys H,H1 D=none->i<xs.length->xs[i]?=some x->Pv D i ys H->H D=some (.lst ys)->ys.length<=i->c (some x::fr) H fun b H4=>
   if b=true then te (some x::fr) H4 fun y H5=>H5 D=some (.lst ys)/\ys.length<sizeLine/\CW xs.length fr (Pv D) (i+1) (ys++[y]) (some x::fr) (A0 H5 D (.lst (ys++[y])))
   else H4 D=some (.lst ys)/\CW xs.length fr (Pv D) (i+1) ys (some x::fr) H4)(hd:∀ D ys H,H1 D=none->Pv D xs.length ys H->H D=some (.lst ys)->ys.length<=xs.length->Q (.ref D) H):aM (bY K a) 1 ixs (gName 0) c te O Q H1:=by
 intro D hD;refine ⟨xs.length,CW xs.length fr (Pv D),⟨F7 _,F7 _,⟨none,U3⟩,h0 D hD⟩,?_⟩;rintro i ys σ2 H2 ⟨hi,hy,⟨v,rfl⟩,p⟩ hDy;have q:=hl D i ys H2 hD hi p
 by_cases C4:i<xs.length
 .refine .inr ⟨C4,⟨xs,xs[i],q,by simp [C4]⟩,fun x H' y=>?_⟩;obtain ⟨e,y⟩:=y;subst e;exact hs D i x ys _ hD C4 (y xs q) p hDy hy
 .have e:i=xs.length:=by lia
  subst e;exact .inl ⟨⟨xs,q,B5 _⟩,hd D ys H2 hD p hDy hy⟩
theorem compS(fr:St)(U3:compStart 1 ixs O=none::fr)(Pv:Addr->Nat->List V->Hp->Prop)(h0:∀ D,H1 D=none->Pv D 0 [] (A0 H1 D (.lst [])))(hs:∀ D i x ys H,H1 D=none->i<z.cps.size->z.cps.toList[i]?=some x->Pv D i ys H->H D=some (.lst ys)->ys.length<=i->c (some (.str ⟨#[x]⟩)::fr) H fun b H4=>
   if b=true then te (some (.str ⟨#[x]⟩)::fr) H4 fun y H5=>H5 D=some (.lst ys)/\ys.length<sizeLine/\CW z.cps.size fr (Pv D) (i+1) (ys++[y]) (some (.str ⟨#[x]⟩)::fr) (A0 H5 D (.lst (ys++[y])))
   else H4 D=some (.lst ys)/\CW z.cps.size fr (Pv D) (i+1) ys (some (.str ⟨#[x]⟩)::fr) H4)(hd:∀ D ys H,H1 D=none->Pv D z.cps.size ys H->H D=some (.lst ys)->ys.length<=z.cps.size->Q (.ref D) H):aM (iG z) 1 ixs (gName 0) c te O Q H1:=by
 intro D hD;refine ⟨z.cps.size,CW z.cps.size fr (Pv D),⟨F7 _,F7 _,⟨none,U3⟩,h0 D hD⟩,?_⟩;rintro i ys σ2 H2 ⟨hi,hy,⟨v,rfl⟩,p⟩ hDy
 by_cases C4:i<z.cps.size
 .refine .inr ⟨C4,C4,fun x H' y=>?_⟩;obtain ⟨e,c,hc,rfl⟩:=y;subst e;exact hs D i c ys _ hD C4 hc p hDy hy
 .have e:i=z.cps.size:=by lia
  subst e;exact .inl ⟨B5 _,hd D ys H2 hD p hDy hy⟩
theorem compR(fr:St)(U3:compStart 1 ixs O=none::fr)(Pv:Addr->Nat->List V->Hp->Prop)(h0:∀ D,H1 D=none->Pv D 0 [] (A0 H1 D (.lst [])))(hs:∀ D i ys H,H1 D=none->i<n->Pv D i ys H->H D=some (.lst ys)->ys.length<=i->c (some (.int (lo+i))::fr) H fun b H4=>
   if b=true then te (some (.int (lo+i))::fr) H4 fun y H5=>H5 D=some (.lst ys)/\ys.length<sizeLine/\CW n fr (Pv D) (i+1) (ys++[y]) (some (.int (lo+i))::fr) (A0 H5 D (.lst (ys++[y])))
   else H4 D=some (.lst ys)/\CW n fr (Pv D) (i+1) ys (some (.int (lo+i))::fr) H4)(hd:∀ D ys H,H1 D=none->Pv D n ys H->H D=some (.lst ys)->ys.length<=n->Q (.ref D) H):aM (l6 lo n) 1 ixs (gName 0) c te O Q H1:=by
 intro D hD;refine ⟨n,CW n fr (Pv D),⟨F7 _,F7 _,⟨none,U3⟩,h0 D hD⟩,?_⟩;rintro i ys σ2 H2 ⟨hi,hy,⟨v,rfl⟩,p⟩ hDy
 by_cases C4:i<n
 .refine .inr ⟨C4,C4,fun x H' y=>?_⟩;obtain ⟨e,y⟩:=y;subst e y;exact hs D i ys _ hD C4 p hDy hy
 .have e:i=n:=by lia
  subst e;exact .inl ⟨B5 _,hd D ys H2 hD p hDy hy⟩
theorem C9{q:Addr}{o u:HO}(h:H p=some o)(n:H q=none):A0 H q u p=some o:=by rw [A3 (aH h n)];exact h
theorem Same.new{q:Addr}{u:HO}(n:H q=none):Same H (A0 H q u):=fun _ _ h=>C9 h n
theorem Same.put{q:Addr}{u:HO}(s:Same H0 H)(n:H0 q=none):Same H0 (A0 H q u):=fun b o h=>by rw [A3 (aH h n)];exact s b o h
end L2
set_option maxRecDepth 100000
namespace L2
open PySem PySem.Spec PyProof.Rows
theorem cxK{CX:Z8}{P:Program}{w:World}{base:Heap}{sc:Scope}{o:List Env}{E:XK} : (cxOf CX P w K mg base N q sc f cd A o s H E).K=K:=rfl
theorem cxKn : X.nox.K=X.K:=rfl
theorem cxKb{sc:Scope} : (L8 X sc N' C zw zt fp pins).K=X.K:=rfl
theorem cxC{CX:Z8}{P:Program}{w:World}{base:Heap}{sc:Scope}{o:List Env}{E:XK} : (cxOf CX P w K mg base N q sc f cd A o s H E).calm=true:=rfl
theorem cxCn : X.nox.calm=X.calm:=rfl
theorem cxCb{sc:Scope} : (L8 X sc N' C zw zt fp pins).calm=X.calm:=rfl
theorem iteD{c A B:Prop}[Decidable c](h1:c->A)(h2:¬ c->B):if decide c=true then A else B:=by
 by_cases h:c
 .rw [decide_eq_true h,if_pos rfl];exact h1 h
 .rw [decide_eq_false h,if_neg L3];exact h2 h
theorem iteN{c A B:Prop}[Decidable c](h1:¬ c->A)(h2:c->B):if (!decide c)=true then A else B:=by
 by_cases h:c
 .rw [decide_eq_true h];exact iteF (h2 h)
 .rw [decide_eq_false h];exact iteT (h1 h)
theorem N7(h:H p=some (.lst xs)):cB K "list" (.ref p) H:=.inl ⟨rfl,_,C7.of h⟩
theorem appOk{l:Addr}{y:V}(h:H l=some (.lst xs))(hz:xs.length<sizeLine)(q:Q .non (A0 H l (.lst (xs++[y])))):oU (.ref l) [y] H Q:=⟨l,xs,y,rfl,rfl,h,hz,q⟩
theorem G5(h:n<=1000000):n<sizeLine:=Nat.lt_of_le_of_lt h (by decide)
theorem i9(h:n<=1000000):n<=sizeLine:=dW (G5 h)
noncomputable def signB (c:Nat):Bool:=decide (33<=c)&&decide (c<=126)&&decide (c≠37)
noncomputable def SG:List Nat:=[33,34,35,36]++(P1 89).map (· + 38)
structure IsRows(H:Hp)(a:Addr)(rs:List Addr)(zss:List (List Str)):Prop where
 top:H a=some (.lst (rs.map V.ref))
 row:Paired (fun r (zs:List Str)=>H r=some (.lst (zs.map V.str))) rs zss
theorem IsRows.same{zss:List (List Str)}(R:IsRows H a rs zss)(s:Same H H'):IsRows H' a rs zss:=⟨s _ _ R.top,T3 R.row fun _ _ h=>s _ _ h⟩
theorem Paired.at{α β:Type}{F:α->β->Prop} : ∀ {l₁:List α} {l₂:List β} {i:Nat} {a:α},Paired F l₁ l₂->l₁[i]?=some a->∃ b,l₂[i]?=some b/\F a b
 | _,_,_,_,.nil,h=>by simp at h
 | _,_,0,_,.cons h t,e=>by simp at e;subst e;exact ⟨_,rfl,h⟩
 | _,_,i+1,_,.cons h t,e=>by
  obtain ⟨b,h1,h2⟩:=Paired.at (i:=i) t (by simpa using e);exact ⟨b,by simpa using h1,h2⟩
theorem pI:∀ zs:List Int,PyData.depthAll (zs.map PyData.int)=0
 | []=>rfl
 | z::zs=>by rw [K5,PyData.depthAll,pI zs,PyData.depth];rfl
noncomputable def dd (acc:List Str) (z:Str):List Str:=if z∈acc then acc else acc++[z]
noncomputable def G8 (acc zs:List Str):List Str:=zs.foldl dd acc
noncomputable def toldL (zss:List (List Str)):List Str:=zss.foldl G8 []
theorem lB(zs:List Str):∀ acc:List Str,(G8 acc zs).length<=acc.length+zs.length:=by
 induction zs with
 | nil=>intro acc;exact B5 _
 | cons z zs ih=>
  intro acc;have h1:=ih (dd acc z);have h2:(dd acc z).length<=acc.length+1:=by
   unfold dd
   split
   .lia
   .simp
  show (G8 (dd acc z) zs).length<=_;rw [G6];lia
theorem alB(h:zs[j]?=some z):G8 acc (zs.take (j+1))=dd (G8 acc (zs.take j)) z:=by
 rw [g6,h];simp [G8,aB]
theorem ajH{zss:List (List Str)}(h:zss[i]?=some zs):toldL (zss.take (i+1))=G8 (toldL (zss.take i)) zs:=by
 rw [g6,h];simp [toldL,aB]
theorem pJ(zss:List (List Str)):∀ acc,zss.foldl G8 acc=G8 acc zss.flatten:=by
 induction zss with
 | nil=>intro acc;rfl
 | cons zs zss ih=>
  intro acc;rw [List.foldl_cons,ih,gO];unfold G8;rw [aB]
theorem lC(zss:List (List Str)):(toldL zss).length<=zss.flatten.length:=by
 unfold toldL;rw [pJ]
 have:=lB zss.flatten []
 simpa using this
noncomputable def kvOf (zs:List Str):List (C1×V):=zs.map fun z=>(Sum.inr z,V.bl true)
theorem tY(z:Str):∀ acc:List Str,((kvOf acc).any fun kv=>decide (kv.1=(Sum.inr z:C1)))=decide (z∈acc)
 | []=>by simp [kvOf]
 | y::acc=>by
  have ih:=tY z acc;unfold kvOf at ih ⊢
  rw [K5,t7,ih]
  by_cases e:y=z
  .subst e
   simp
  .have e1:decide ((Sum.inr y:C1)=Sum.inr z)=false:=decide_eq_false fun q=>e (Sum.inr.inj q)
   have e2:decide (z∈y::acc)=decide (z∈acc):=by
    by_cases h:z∈acc
    .rw [decide_eq_true h,decide_eq_true (M3 _ h)]
    .rw [decide_eq_false h,decide_eq_false];intro q
     rcases E4.mp q with q | q
     .exact e q.symm
     .exact h q
   rw [e2];simp only [e1,Bool.false_or]
theorem agk(acc:List Str)(z:Str):putK (kvOf acc) (Sum.inr z:C1) (.bl true)=kvOf (dd acc z):=by
 unfold putK dd;rw [tY]
 by_cases h:z∈acc
 .rw [decide_eq_true h,if_pos rfl,if_pos h];unfold kvOf;rw [g9];refine gJ fun y _=>?_
  show (if (Sum.inr y:C1)=Sum.inr z then ((Sum.inr y:C1),V.bl true) else (Sum.inr y,V.bl true))=_
  split <;> rfl
 .rw [decide_eq_false h,if_neg L3,if_neg h];unfold kvOf;rw [D6];rfl
theorem ajI(acc:List Str):((kvOf acc).map fun kv=>kV kv.1)=acc.map V.str:=by
 unfold kvOf;rw [g9];rfl
theorem pK(z:Str):∀ acc:List Str,cA (.str z) (acc.map V.str)=decide (z∈acc)
 | []=>by simp [cA]
 | y::acc=>by
  have ih:=pK z acc;unfold cA at ih ⊢
  rw [K5,t7,ih];show ((y==z) || decide (z∈acc))=_
  by_cases e:y=z
  .subst e
   simp
  .have e1:(y==z)=false:=by simpa using e
   rw [e1,Bool.false_or]
   by_cases h:z∈acc
   .rw [decide_eq_true h,decide_eq_true (M3 _ h)]
   .rw [decide_eq_false h,decide_eq_false];intro q
    rcases E4.mp q with q | q
    .exact e q.symm
    .exact h q
theorem tZ:∀ acc:List Str,(acc.map V.str).all flatV=true
 | []=>rfl
 | _::acc=>by rw [K5,List.all_cons,tZ acc];rfl
theorem G9{α β:Type}{f:α->β}{l:List α}{y:β}(h:(l.map f)[i]?=some y):∃ x,l[i]?=some x/\y=f x:=by
 rw [O1] at h;cases e:l[i]? with
 | none=>rw [e] at h;cases h
 | some x=>rw [e] at h;exact ⟨x,rfl,(Option.some.inj h).symm⟩
noncomputable def SS:Str:=Str.ofString "!\"#$&'()*+,-./0123456789:;<=>?@ABCDEFGHIJKLMNOPQRSTUVWXYZ[\\]^_`"++Str.ofString "abcdefghijklmnopqrstuvwxyz{|}~"
theorem drawn{i:Int}(hx:∀ x∈xs,∃ n,x=V.int n)(h0:0<=i)(h1:i<xs.length):∃ n,K7 xs i=some (V.int n):=by
 obtain ⟨v,h2,h3⟩:=tX h0 h1;obtain ⟨n,rfl⟩:=hx v h3;exact ⟨n,h2⟩
theorem uA{α β:Type}{F:α->β->Prop}{a:α}{b:β} : ∀ {l₁:List α} {l₂:List β},Paired F (l₁++[a]) (l₂++[b])->Paired F l₁ l₂/\F a b
 | [],[],.cons h _=>⟨.nil,h⟩
 | [],y::l₂,h=>by
  have:=Paired.length h
  simp at this
 | x::l₁,[],h=>by
  have:=Paired.length h
  simp at this
 | x::l₁,y::l₂,.cons h t=>by
  obtain ⟨h1,h2⟩:=uA (l₁:=l₁) (l₂:=l₂) t;exact ⟨.cons h h1,h2⟩
theorem eG{α β:Type}{F G:α->β->Prop} : ∀ {l₁:List α} {l₂:List β},Paired F l₁ l₂->(∀ a∈l₁,∀ b,F a b->G a b)->Paired G l₁ l₂
 | _,_,.nil,_=>.nil
 | _,_,.cons h t,k=>.cons (k _ L5 _ h) (eG t fun a ha b hb=>k a (M3 _ ha) b hb)
structure RowsAt(H0 H:Hp)(a:Addr)(rs:List Addr)(zss:List (List Str)):Prop where
 rows:IsRows H a rs zss
 nd:(a::rs).Nodup
 new:∀ r∈a::rs,H0 r=none
 same:Same H0 H
theorem RowsAt.live{zss:List (List Str)}(R:RowsAt H0 H a rs zss)(h:r∈a::rs):∃ o,H r=some o:=by
 rcases E4.mp h with h | h
 .subst h;exact ⟨_,R.rows.top⟩
 .obtain ⟨i,hi,rfl⟩:=X7.mp h;obtain ⟨zs,_,h2⟩:=Paired.at R.rows.row (i:=i) (a:=rs[i]) (by simp [hi]);exact ⟨_,h2⟩
theorem agl(x:Str)(lo hi:Option Int):(cutS x lo hi).cps.toList=(x.cps.toList.drop (HT.sIx x.length 0 lo)).take (HT.sIx x.length x.length hi-HT.sIx x.length 0 lo):=by
 unfold cutS
 simp
theorem anV(h:H p=some (.lst xs)):cC H (.ref p)=some "list":=by unfold cC;simp only [h]
theorem anW(h:H p=some (.tup xs)):cC H (.ref p)=some "tuple":=by unfold cC;simp only [h]
end L2
set_option maxRecDepth 100000
namespace L2
open PySem PySem.Spec PyProof.Rows
structure QE(X:Cx)(e:Expr)(t:TE):Prop where
 out:PE X e t
structure QT(X:Cx)(e:Expr)(t:TT):Prop where
 out:PT X e t
structure QW(X:Cx)(e:Expr)(t:TT):Prop where
 out:PW X e t
structure QA(X:Cx)(es:List Expr)(t:TA):Prop where
 out:PA X es t
structure QS(X:Cx)(st:Stmt)(t:TS):Prop where
 out:PS X st t
structure QSs(X:Cx)(st:List Stmt)(t:TS):Prop where
 out:W2 X st t
structure QG(X:Cx)(tg:Expr)(t:TG):Prop where
 out:PG X tg t
structure QGs(X:Cx)(tg:List Expr)(t:i7):Prop where
 out:kU X tg t
structure QI(X:Cx)(tg iter:Expr)(wi:TI):Prop where
 out:PI X tg iter wi
structure QO(X:Cx)(e:Option Expr)(t:TO):Prop where
 out:PO X e t
structure QIfs(X:Cx)(ifs:List Expr)(t:TT):Prop where
 out:PIfs X ifs t
structure QOp(X:Cx)(f:Value->Value->Sem Value)(r:R2):Prop where
 out:K1 X f r
structure QUn(X:Cx)(f:Value->Sem Value)(r:V->Hp->VK->Prop):Prop where
 out:oQ X f r
structure QCall(X:Cx)(f:Value)(r:List V->Hp->VK->Prop):Prop where
 out:CallR X f r
structure QMt(X:Cx)(id:String)(r:V->List V->Hp->VK->Prop):Prop where
 out:oT X id r
structure QIp(X:Cx)(op:Operator)(t:dZ):Prop where
 out:sU X op t
structure QIn(X:Cx)(op:Operator)(t:V->V->Hp->VK->Prop):Prop where
 out:InOp X op t
section
variable {X:Cx} {a b c e o i value:Expr} {es:List Expr} {ta tb tc te to ti tv:TE} {tA tB':TT} {t u:TS} {tl:TA} {pos p pos' tpos:Pos} {rest:List Expr} {r r':R2} {x:Str}
theorem A5{i j} : QE X (.Constant (.int i) j pos) (tC (.int i)):=⟨amn⟩
theorem qe_bl{b j} : QE X (.Constant (.bool b) j pos) (tC (.bl b)):=⟨pe_bl⟩
theorem K2{x j} : QE X (.Constant (.str x) j pos) (tC (.str x)):=⟨aoA⟩
theorem qe_v(hN:X.N[n]?=some x)(hv:kT X.env.scope x)(hd:(x==("__debug__" : Str))=false)(P7:(x==("__classdict__" : Str))=false):QE X (.Name x pos) (tVar n):=⟨amm hN hv hd P7⟩
theorem qv(n:Nat)(hN:X.N[n]?=some x:=by rfl)(hv:kT X.env.scope x:=by first | exact Or.inl rfl | exact Or.inr (Or.inl rfl) | exact Or.inr (Or.inr rfl))(hd:(x==("__debug__" : Str))=false:=by decide)(P7:(x==("__classdict__" : Str))=false:=by decide):QE X (.Name x pos) (tVar n):=⟨amm hN hv hd P7⟩
theorem cD{i:Int}(h:∃ t,X.mg x=some (.int i t))(hg:Gl X x:=by rfl)(hd:(x==("__debug__" : Str))=false:=by decide):QE X (.Name x p) (tC (.int i)):=⟨aln h hg hd⟩
theorem pL{a:Addr}(h:X.mg x=some (.ref a))(hg:Gl X x:=by rfl)(hd:(x==("__debug__" : Str))=false:=by decide):QE X (.Name x p) (tC (.ref a)):=⟨alo h hg hd⟩
theorem qe_ty{n:String}(hm:X.mg x=none)(hv:bootBuiltins x=some (.type n))(hg:Gl X x:=by rfl)(hn:x≠"__name__":=by decide)(hd:(x==("__debug__" : Str))=false:=by decide):QE X (.Name x p) (tC (.ty n)):=⟨amT hg hm hv rfl hn hd⟩
theorem qe_op{op:Operator}(ho:QOp X (binaryOp op) r)(ha:QE X a ta)(hb:QE X b tb):QE X (.BinOp a op b pos) (l7 r ta tb):=⟨pe_op ho.out ha.out hb.out⟩
theorem qe_un{op:UnaryOp}{r:V->Hp->VK->Prop}(ho:QUn X (unaryOp op) r)(ha:QE X a ta):QE X (.UnaryOp op a pos) (sX r ta):=⟨pe_un ho.out ha.out⟩
theorem aqC{op}(ha:QE X a ta):QE X (.BoolOp op [a] pos) ta:=⟨aoE ha.out⟩
theorem aqD(ha:QE X a ta)(hb:QE X (.BoolOp .And (b::rest) pos) tb):QE X (.BoolOp .And (a::b::rest) pos) (tAndV ta tb):=⟨aoF ha.out hb.out⟩
theorem eI{op:CmpOp}(ho:QOp X (compareOp op) r)(ha:QE X a ta)(hb:QE X b tb)(hm:behindInMarks op b=false:=by first | exact amp _ | rfl):QE X (.Compare a [op] [b] pos) (l7 r ta tb):=⟨am3 ho.out ha.out hb.out hm⟩
theorem ahS{op op':CmpOp}(ho:QOp X (compareOp op) r)(f6:QOp X (compareOp op') r')(ha:QE X a ta)(hb:QE X b tb)(hc:QE X c tc)(hm:lastMarks [op,op'] [b,c]=false:=by with_unfolding_all rfl):QE X (.Compare a [op,op'] [b,c] pos) (sZ r r' ta tb tc):=⟨akY ho.out f6.out ha.out hb.out hc.out hm⟩
theorem ahT(hc:QT X c tA)(ha:QE X a ta)(hb:QE X b tb):QE X (.IfExp c a b pos) (sS tA ta tb):=⟨akR hc.out ha.out hb.out⟩
theorem A1:QA X [] tNil:=⟨aoZ⟩
theorem qa_c(ha:QE X e te)(hr:QA X es tl)(h:L1 e=false:=by rfl):QA X (e::es) (tCons te tl):=⟨pa_c ha.out hr.out h⟩
theorem N1(h:QA X es tl):QE X (.List es pos) (tLst tl):=⟨ao1 h.out⟩
theorem O5{x1}(h:QA X es tl):QE X (.Tuple es x1 pos) (tTup tl):=⟨ao0 h.out⟩
theorem cE:QE X (.Dict [] [] pos) tP:=⟨ald⟩
theorem Z9:QO X none tH:=⟨ane⟩
theorem O6(h:QE X e te):QO X (some e) (tPart te):=⟨anf h.out⟩
theorem T4{lo hi:Option Expr}{tlo thi:TO}(he:QE X e te)(hl:QO X lo tlo)(hu:QO X hi thi)(hK:X.K=K:=by rfl):QE X (.Subscript e (.Slice lo hi none p2) pos) (tI (rSlU K) te tlo thi):=by subst hK;exact ⟨ak7 p_sl he.out hl.out hu.out⟩
theorem X1(hu:X.A.units+1<cLine)(ho:QE X o to)(hi:QE X i ti)(hs:NoSl i:=by exact fun _ _=>rfl):QE X (.Subscript o i pos) (tDGet to ti):=⟨ank hu ho.out hi.out hs⟩
theorem qe_ix(ha:QE X a ta)(hb:QE X b tb)(hs:ajr b:=by exact fun _ _=>rfl)(hK:X.K=K:=by rfl):QE X (.Subscript a b pos) (l7 (eC K) ta tb):=by subst hK;exact ⟨pe_ix ao5 ha.out hb.out hs⟩
theorem qe_cB{id:String}{rc:List V->Hp->VK->Prop}(hc:QCall X (.builtin id) rc)(hm:X.mg x=none)(hv:bootBuiltins x=some (.builtin id))(ha:QA X (e::es) tl)(hg:Gl X x:=by rfl)(h1:L1 e=false:=by rfl)(h2:W6 es=true:=by rfl)(hn:x≠"__name__":=by decide)(Q9:(x==("__debug__" : Str))=false:=by decide) :
  QE X (.Call (.Name x p) (e::es) [] pos) (eB rc tl):=⟨pe_cB hc.out hg hm hv ha.out h1 h2 hn Q9⟩
theorem qe_cT{T:String}{rc:List V->Hp->VK->Prop}(hc:QCall X (.type T) rc)(hm:X.mg x=none)(hv:bootBuiltins x=some (.type T))(ha:QA X (e::es) tl)(hg:Gl X x:=by rfl)(h1:L1 e=false:=by rfl)(h2:W6 es=true:=by rfl)(hn:x≠"__name__":=by decide)(Q9:(x==("__debug__" : Str))=false:=by decide) :
  QE X (.Call (.Name x p) (e::es) [] pos) (eB rc tl):=⟨pe_cT hc.out hg hm hv ha.out h1 h2 hn Q9⟩
theorem qe_mB{T id:String}{rm:V->List V->Hp->VK->Prop}(pa:PlainAttrs T)(slot:Slot T name id)(V6:typeOf (.builtin id)=pure (.type "method_descriptor"))(hm:QMt X id rm)(ho:QE X o to)(ha:QA X (e::es) tl)(h1:L1 e=false:=by rfl)(h2:W6 es=true:=by rfl)(h3:decide ((e::es).length<30)=true:=by rfl)(E2:attributeBase o name X.env (eval o X.env)=eval o X.env:=by rfl)(E3:(apos.endLine==cpos.line)=true:=by rfl)(hK:X.K=K:=by rfl):QE X (.Call (.Attribute o name apos) (e::es) [] cpos) (iC K T rm to tl):=by subst hK;exact ⟨pe_mB pa slot V6 hm.out ho.out ha.out h1 h2 h3 E2 E3⟩
theorem qe_m0{T id:String}{rm:V->List V->Hp->VK->Prop}(pa:PlainAttrs T)(slot:Slot T name id)(V6:typeOf (.builtin id)=pure (.type "method_descriptor"))(hm:QMt X id rm)(ho:QE X o to)(E2:attributeBase o name X.env (eval o X.env)=eval o X.env:=by rfl)(E3:(apos.endLine==cpos.line)=true:=by rfl)(hK:X.K=K:=by rfl):QE X (.Call (.Attribute o name apos) [] [] cpos) (tBM0 K T rm to):=by subst hK;exact ⟨ao7 pa slot V6 hm.out ho.out E2 E3⟩
theorem E8(G:FO X.prog X.w X.K X.mg X.base k x ps dvs sp)(hr:Room k X.A)(ha:QA X (e::es) tl)(hg:Gl X x:=by rfl)(h1:L1 e=false:=by rfl)(h2:W6 es=true:=by rfl)(Q9:(x==("__debug__" : Str))=false:=by decide) :
  QE X (.Call (.Name x p) (e::es) [] pos) (tCall sp dvs E0 tl):=⟨alm G hr ha.out hg h1 h2 Q9⟩
theorem J5{op:CmpOp}(ho:QOp X (compareOp op) r)(ha:QE X a ta)(hb:QE X b tb)(hm:behindInMarks op b=false:=by first | exact amp _ | rfl):QT X (.Compare a [op] [b] pos) (tTest (l7 r ta tb)):=⟨am4 ho.out ha.out hb.out hm⟩
theorem aN(ha:QT X a tA):QT X (.UnaryOp .Not a pos) (tNot tA):=⟨aoD ha.out⟩
theorem pM(ha:QT X a tA):QW X (.BoolOp .And [a] pos) tA:=⟨amU ha.out⟩
theorem pN(ha:QT X a tA):QW X (.BoolOp .Or [a] pos) tA:=⟨aoB ha.out⟩
theorem pO(ha:QT X a tA)(hb:QW X (.BoolOp .And (b::rest) pos) tB'):QW X (.BoolOp .And (a::b::rest) pos) (tAnd tA tB'):=⟨aoC ha.out hb.out⟩
theorem qw_or(ha:QT X a tA)(hb:QW X (.BoolOp .Or (b::rest) pos) tB'):QW X (.BoolOp .Or (a::b::rest) pos) (sR tA tB'):=⟨pw_or ha.out hb.out⟩
theorem QW.pt(h:QW X a tA):QT X a tA:=⟨h.out.pt⟩
theorem R4(ha:QE X a ta)(he:∀ whole,isTrue a X.env whole=(do let v <- whole;standAt a.pos;holding [v] (truthy v)):=by intro _;rfl)(hK:X.K=K:=by rfl):QT X a (tTru K ta):=by subst hK;exact ⟨aqd ha.out he⟩
variable {st:Stmt} {sts:List Stmt}
theorem K8:QSs X [] tNext:=⟨amV⟩
theorem A7(h:QS X st t):QSs X [st] t:=⟨amW h.out⟩
theorem A6(h:QS X st t)(h2:QSs X sts u):QSs X (st::sts) (tSeq t u):=⟨akS h.out h2.out⟩
theorem D8(he:QE X e te):QS X (.Return (some e) pos) (tRet te):=⟨aoH he.out⟩
theorem iI:QS X st sT:=⟨akT⟩
theorem D3(hN:X.N.Nodup)(hi:X.N[n]?=some x)(hx:k9 X.env.scope x)(he:QE X e te)(hs:swapsWith e (some (.Name x pos')) pos.line X.env=pure false:=by rfl)(hf:X.fn x=true:=by rfl):QS X (.Assign [.Name x pos'] e pos) (tAsg te (gName n)):=⟨aoL hN hi hx he.out hs (.inl hf)⟩
theorem cF{f:Str}(ho:QE X o to)(hv:QE X value tv)(hs:swapsWith value (some (.Attribute o f pos')) pos.line X.env=pure false:=by rfl)(hK:X.K=K:=by rfl):QS X (.Assign [.Attribute o f pos'] value pos) (sFld K to tv f):=by subst hK;exact ⟨aoW ho.out hv.out hs⟩
theorem T5{f:Str}(ho:QE X o to)(hb:attributeBase o f X.env (eval o X.env)=eval o X.env:=by rfl)(hK:X.K=K:=by rfl):QE X (.Attribute o f pos) (tFld K to f):=by subst hK;exact ⟨aoV ho.out hb⟩
theorem l8(hu:X.A.units+1<cLine)(ho:QE X o to)(hi:QE X i ti)(hv:QE X value tv)(hs:swapsWith value (some (.Subscript o i pos')) pos.line X.env=pure false:=by rfl):QS X (.Assign [.Subscript o i pos'] value pos) (sDPut to ti tv):=⟨anl hu ho.out hi.out hv.out hs⟩
theorem ajJ{op:Operator}{rd:V->V->Hp->VK->Prop}(hu:X.A.units+1<cLine)(ho:QE X o to)(hi:QE X i ti)(hv:QE X value tv)(yH:QIn X op rd)(ha:∀ ov iv new,augStore i ov iv new=(do holding [new,ov,iv] (setItem ov iv new);release [new,ov,iv] [];pure .next):=by exact fun _ _ _=>rfl) :
  QS X (.AugAssign (.Subscript o i tpos) op value pos) (sDAug to ti tv rd):=⟨anm hu ho.out hi.out hv.out yH.out ha⟩
theorem amu(he:QE X e te)(hg:QG X tg g)(hs:swapsWithSole [tg] e pos.line X.env=pure false:=by rfl)(hw:swappedStores [tg] e X.env=pure none:=by rfl)(h1:(assignEach [tg] X.env).map (·.2)=[assign tg X.env]:=by rfl):QS X (.Assign [tg] e pos) (tAsg te g):=⟨aoK he.out hg.out hs hw h1⟩
theorem amv{op:Operator}{tip:dZ}(hN:X.N.Nodup)(hi:X.N[n]?=some x)(hx:k9 X.env.scope x)(he:QE X e te)(ho:QIp X op tip)(hf:X.fn x=true:=by rfl):QS X (.AugAssign (.Name x pos') op e pos) (tAug n te tip):=⟨aoM hN hi hx he.out ho.out (.inl hf)⟩
theorem L9(he:QE X e te)(hs:swapsWith e none pos.line X.env=pure false:=by rfl):QS X (.Expr e pos) (tDrop te):=⟨amX he.out hs⟩
theorem qs_if{sa sb:List Stmt}(hc:QT X c tA)(ha:QSs X sa t)(hb:QSs X sb u):QS X (.If c sa sb pos) (tIfS tA t u):=⟨ps_if hc.out ha.out hb.out⟩
theorem uB{body:List Stmt}(hp:PassesOwn (model X.prog X.w) X.A X.env X.xe)(hc:QT X c tA)(hb:QSs X body t):QS X (.While c body [] pos) (oP tA t):=⟨akV hp hc.out hb.out⟩
theorem N2{body:List Stmt}{wi:TI}(hp:PassesOwn (model X.prog X.w) X.A X.env X.xe)(hi:QI X tg iter wi)(hg:QG X tg g)(hb:QSs X body t)(hc:X.calm=true:=by rfl)(hs:∀ x,foldedSetIterable iter X.env x=pure x:=by intro _;rfl):QS X (.For tg iter body [] pos) (tFor wi g t):=⟨aoP hp hc hi.out hg.out hb.out hs⟩
theorem D5(hN:X.N.Nodup)(hi:X.N[n]?=some x)(hx:k9 X.env.scope x)(hf:X.fn x=true\/X.env.scope.names.lookup x=some .local:=by first | exact .inl rfl | exact .inr rfl | assumption):QG X (.Name x pos) (gName n):=⟨amY hN hi hx hf⟩
theorem cG:QGs X [] gNil:=⟨amZ⟩
theorem T6{gs:i7}(h1:QG X e g)(h2:QGs X es gs)(hs:(assignEach (e::es) X.env).map (·.2)=assign e X.env::(assignEach es X.env).map (·.2):=by rfl):QGs X (e::es) (gCons g gs):=⟨akU h1.out h2.out hs⟩
theorem cH{gs:i7}(h:QGs X es gs)(hc:X.calm=true:=by rfl)(hn:(assignEach es X.env).length=n:=by rfl)(X2:(assignEach es X.env).findIdx? (·.1)=none:=by rfl)(hK:X.K=K:=by rfl):QG X (.Tuple es k pos) (gTup K n gs):=by subst hK;exact ⟨aoI hc h.out hn X2⟩
variable {tg:Expr}
theorem O7(h:QE X e te)(hK:X.K=K:=by rfl):QI X tg e (iList K te):=by subst hK;exact ⟨am0 h.out⟩
theorem cI(h:QE X e te)(hK:X.K=K:=by rfl):QI X tg e (iTup K te):=by subst hK;exact ⟨aoO h.out⟩
theorem amw(h:QE X e te):QI X tg e (iStr te):=⟨aqj h.out⟩
theorem qi_r1(hm:X.mg "range"=none)(ha:QA X [a] tl)(hg:Gl X "range":=by rfl)(h1:L1 a=false:=by rfl):QI X tg (.Call (.Name "range" p) [a] [] pos) (iRng1 tl):=⟨pi_r1 hg hm ha.out h1⟩
theorem l9:QIfs X [] tYes:=⟨alh⟩
theorem eJ(h:QT X c tA):QIfs X [c] tA:=⟨ali h.out⟩
variable {sc:Scope} {N':List Str} {k:Nat} {ixs:List Nat} {ifs:List Expr} {wi:TI} {g:TG} {elt:Expr}
theorem Y0(C:CompOk X.N X.env.scope.names sc N' k ixs)(hi:QI X tg e wi)(hg:∀ C zw zt fp pins,QG (L8 X sc N' C zw zt fp pins) tg g)(hc:∀ C zw zt fp pins,QIfs (L8 X sc N' C zw zt fp pins) ifs tA)(he:∀ C zw zt fp pins,QE (L8 X sc N' C zw zt fp pins) elt te)(K0:X.calm=true:=by rfl)(hs:∀ x,foldedSetIterable e X.env x=pure x:=by intro _;rfl):QE X (.ListComp elt [⟨tg,e,ifs,0⟩] sc pos) (tComp wi k ixs g tA te):=
 ⟨ano C K0 hi.out (fun _ _ _ _ _=>(hg _ _ _ _ _).out) (fun _ _ _ _ _=>(hc _ _ _ _ _).out) (fun _ _ _ _ _=>(he _ _ _ _ _).out) hs⟩
theorem uC(hN:X.N.Nodup)(hiN:X.N[n]?=some x)(hx:k9 X.env.scope x)(C:CompOk X.N X.env.scope.names sc N' k ixs)(hi:QI X tg e wi)(hg:∀ C zw zt fp pins,QG (L8 X sc N' C zw zt fp pins) tg g)(hc:∀ C zw zt fp pins,QIfs (L8 X sc N' C zw zt fp pins) ifs tA)(he:∀ C zw zt fp pins,QE (L8 X sc N' C zw zt fp pins) elt te)(yI:swapsWith (.ListComp elt [⟨tg,e,ifs,0⟩] sc pos) (some (.Name x pos')) spos.line X.env=pure true:=by rfl)(K0:X.calm=true:=by rfl)(hf:X.fn x=true:=by rfl)(hs:∀ x,foldedSetIterable e X.env x=pure x:=by intro _;rfl) :
  QS X (.Assign [.Name x pos'] (.ListComp elt [⟨tg,e,ifs,0⟩] sc pos) spos) (tAsg (tComp wi k ixs g tA te) (gName n)):=
 ⟨aiA hN hiN hx C K0 hi.out (fun _ _ _ _ _=>(hg _ _ _ _ _).out) (fun _ _ _ _ _=>(hc _ _ _ _ _).out) (fun _ _ _ _ _=>(he _ _ _ _ _).out) yI (.inl hf) hs⟩
theorem q_add(hK:X.K=K:=by rfl):QOp X (binaryOp .Add) (rAddU K):=by subst hK;exact ⟨p_add⟩
theorem q_mul:QOp X (binaryOp .Mult) rMulU:=⟨p_mul⟩
theorem b8:QOp X (binaryOp .FloorDiv) (rI CDiv fun i j=>.int (i / j)):=⟨aqe⟩
theorem q_mod:QOp X (binaryOp .Mod) (rI (fun _ j=>0<j) fun i j=>.int (i % j)):=⟨p_mod⟩
theorem q_eq(hu:X.A.units+64<cLine)(hK:X.K=K:=by rfl):QOp X (compareOp .Eq) (rEqU K):=by subst hK;exact ⟨p_eq hu⟩
theorem q_ne(hu:X.A.units+64<cLine)(hK:X.K=K:=by rfl):QOp X (compareOp .NotEq) (rNeU K):=by subst hK;exact ⟨p_ne hu⟩
theorem q_lt:QOp X (compareOp .Lt) rLtU:=⟨p_lt⟩
theorem q_le:QOp X (compareOp .LtE) rLeU:=⟨p_le⟩
theorem q_in(hu:X.A.units+64<cLine)(hK:X.K=K:=by rfl):QOp X (compareOp .In) (rInU K false):=by subst hK;exact ⟨p_in hu⟩
theorem pP(hu:X.A.units+64<cLine)(hK:X.K=K:=by rfl):QOp X (compareOp .NotIn) (rInU K true):=by subst hK;exact ⟨anp hu⟩
theorem q_neg:QUn X (unaryOp .USub) (rU fun i=>.int (-i)):=⟨aoT⟩
theorem q_len(hK:X.K=K:=by rfl):QCall X (.builtin "len") (rLenU K):=by subst hK;exact ⟨p_len⟩
theorem q_isi:QCall X (.builtin "isinstance") rIsi:=⟨alj⟩
theorem q_ord:QCall X (.builtin "ord") rOrd:=⟨p_ord⟩
theorem pQ(hK:X.K=K:=by rfl)(mN:X.calm=calm:=by rfl):QCall X (.type "list") (tV K calm):=by subst hK;subst mN;exact ⟨aqh⟩
theorem T7:QMt X "list.append" oU:=⟨fun pins s O H x xs v us Q I rx rv h=>agd pins s O H x xs v us Q I rx rv h⟩
theorem pR:QMt X "list.extend" tM:=⟨fun pins s O H x xs v us Q I rx rv h=>ajt pins s O H x xs v us Q I rx rv h⟩
theorem amx:QIp X .Add (sV fun i j=>i+j):=⟨aoN⟩
theorem aqE:QIn X .Add rAdd:=⟨aoX⟩
theorem aqF:QIn X .Sub rSub:=⟨aoY⟩
end
end L2
set_option maxRecDepth 100000
namespace L2
open PySem PySem.Spec PyProof.Rows
noncomputable def ModD (P:Program) (w:World) (K:PySem.W.Frag) (a:Addr) (kvs:List (C1×V)):Prop:=(a==sysModules)=false/\∀ h:Heap,K.In h->∃ vs,KV kvs vs/\h.DictOf (M7 P w) a vs
noncomputable abbrev ModE (w:World):List DictEntry->List (C1×V)->Prop:=Paired fun e kv=>keyIs kv.1 e.key=true/\e.hash=keyH w kv.1/\RelV kv.2 e.val
theorem ModE.pairs{P:Program}{w:World} : ∀ {es:List DictEntry} {kvs:List (C1×V)},ModE w es kvs->∃ vs:List (C1×Value),KV kvs vs/\Pairs (M7 P w) es vs/\(∀ e∈es,∃ k,(M7 P w).is k e.key=true/\e.hash=(M7 P w).hash k)/\vs.map (·.1)=kvs.map (·.1)
 | _,_,.nil=>⟨[],.nil,.nil,fun e h=>(nomatch h),rfl⟩
 | e::es,kv::kvs,.cons ⟨h1,h2,h3⟩ t=>by
  obtain ⟨vs,a1,a2,a3,a4⟩:=ModE.pairs (P:=P) t;refine ⟨(kv.1,e.val)::vs,.cons ⟨rfl,h3⟩ a1,.cons h1 rfl a2,fun e' he=>?_,by rw [K5,K5,a4]⟩
  rcases E4.mp he with z | z
  .rw [z];exact ⟨kv.1,h1,h2⟩
  .exact a3 e' z
theorem anX{P:Program}{w:World}{es:Array DictEntry}{ep:Nat}(l:K.lookup a=some { cls:=.type "dict",dict:=none,data:=.dict es ep,slots:=#[] })(hs:(a==sysModules)=false)(he:ModE w es.toList kvs)(hn:(kvs.map (·.1)).Nodup):ModD P w K a kvs:=by
 refine ⟨hs,fun h X=>?_⟩;obtain ⟨vs,a1,a2,a3,a4⟩:=he.pairs (P:=P);exact ⟨vs,a1,_,es,ep,X a _ l,⟨rfl,rfl,rfl⟩,rfl,fun e h=>a3 e (Array.mem_toList_iff.mpr h),a2,by rw [a4];exact hn⟩
noncomputable def rInM (neg:Bool) (a:Addr) (kvs:List (C1×V)):R2:=fun x y H Q=>y=.ref a/\∃ k,x=kV k/\Q (.bl (neg.xor (valV kvs k).isSome)) H
noncomputable def amy (a:Addr) (kvs:List (C1×V)) (to ti:TE):TE:=fun O H Q=>to O H fun x H1=>ti O H1 fun y H2=>x=.ref a/\∃ k v,y=kV k/\valV kvs k=some v/\Q v H2
section
variable {X:Cx} {a:Addr} {kvs:List (C1×V)} {o i:Expr} {to ti:TE} {pos:Pos}
theorem q_inM(M:ModD X.prog X.w X.K a kvs):QOp X (compareOp .In) (rInM false a kvs):=⟨by
 intro pins s O H x y v u Q I rx ry h;obtain ⟨rfl,k,rfl,q⟩:=h;obtain rfl:u=Value.ref a:=ry;obtain ⟨hd,M⟩:=M;obtain ⟨vs,rel,dd⟩:=M s.heap I.kIn;refine wpAny_in_of (kV_is rx) hd dd.mapOf ?_;rw [<- (rel.val k).isSome_eq];exact ⟨.bl _,H,I.tok _,rfl,by simpa using q⟩⟩
theorem ahX(M:ModD X.prog X.w X.K a kvs)(ho:QE X o to)(hi:QE X i ti)(hs:NoSl i:=by exact fun _ _=>rfl):QE X (.Subscript o i pos) (amy a kvs to ti):=⟨by
 intro pins s O H Q I h;refine ajw PySem.F.slot_dict_getitem.lookup hs (B1 (ho.out pins s O H _ I h) fun u s1 ⟨x,H1,I1,rx,q1⟩=>B1 (hi.out pins s1 O H1 _ I1 q1) fun iv s2 ⟨y,H2,I2,ry,ex,k,v,ey,l,q2⟩=>?_);subst ex ey;obtain rfl:u=Value.ref a:=rx;obtain ⟨hd,M⟩:=M;obtain ⟨vs,rel,dd⟩:=M s2.heap I2.kIn;obtain ⟨w',hw,rw'⟩:=kW (v:=v) (o:=valueAt vs k) (by rw [<- l];exact rel.val k);exact ⟨dd.typeIs,wpAny_getItem_of (kV_is ry) dd.mapOf hw ⟨v,H2,I2.tok _,rw',q2⟩⟩⟩
end
theorem amz{k:C1} : (V.str z=kV k)=(k=Sum.inr z):=by
 cases k with
 | inl i=>exact propext ⟨fun h=>(by cases h),fun h=>(by cases h)⟩
 | inr x=>exact propext ⟨fun h=>(by cases h;rfl),fun h=>(by cases h;rfl)⟩
theorem aqG : rInM neg a kvs (.str z) (.ref b) H Q=(V.ref b=V.ref a/\Q (.bl (neg.xor (valV kvs (Sum.inr z)).isSome)) H):=by
 unfold rInM;simp only [amz,exists_eq_left]
theorem alC : amy a kvs to ti O H Q=to O H fun x H1=>ti O H1 fun y H2=>x=.ref a/\∃ k v,y=kV k/\valV kvs k=some v/\Q v H2:=rfl
noncomputable def ajK (c:TT) (tb:TS) (D:Ends) (O:St) (H:Hp):Prop:=oP c tb D O H
theorem alD : oP c tb D O H=ajK c tb D O H:=rfl
theorem uD(Pv:Nat->St->Hp->Prop)(m:Nat)(h0:Pv m O H)(hs:∀ m O H,Pv m O H->c O H fun b H1=>if b=true then ∃ N:St->Hp->Prop,(∀ σ' H',N σ' H'->∃ m',m'<m/\Pv m' σ' H')/\tb { D with nx:=N,ct:=N,bk:=D.nx } O H1 else D.nx O H1):ajK c tb D O H:=⟨Pv,⟨m,h0⟩,hs⟩
noncomputable def rTupR (K:PySem.W.Frag) (p:Addr) (H:Hp) (Q:VK):Prop:=∃ ys,(C7 K H p ys/\∀ l,H l=none->Q (.ref l) (A0 H l (.tup ys)))\/(C6 K H p ys/\Q (.ref p) H)
theorem rTupR.l(h1:C7 K H p ys)(h:∀ l,H l=none->Q (.ref l) (A0 H l (.tup ys))):rTupR K p H Q:=⟨ys,.inl ⟨h1,h⟩⟩
noncomputable def rTupU (K:PySem.W.Frag):List V->Hp->VK->Prop
 | [.ref p],H,Q=>rTupR K p H Q
 | _,_,_=>False
theorem tup_r : rTupU K [.ref p] H Q=rTupR K p H Q:=rfl
theorem uE(hK:X.K=K:=by rfl):QCall X (.type "tuple") (rTupU K):=by
 subst hK;refine ⟨fun pins s O H xs us Q I r h=>?_⟩
 match xs,h with
 | [.ref p],⟨ys,h⟩=>exact afo pins s O H _ us Q I r ⟨p,ys,rfl,h⟩
noncomputable def rMin:List V->Hp->VK->Prop:=fun xs H Q=>∃ i j,xs=[.int i,.int j]/\Q (.int (if j<i then j else i)) H
noncomputable def rMax:List V->Hp->VK->Prop:=fun xs H Q=>∃ i j,xs=[.int i,.int j]/\Q (.int (if j > i then j else i)) H
theorem aqH{i j:Int} : rMin [.int i,.int j] H Q=Q (.int (if j<i then j else i)) H:=propext ⟨fun ⟨_,_,e,q⟩=>(by cases e;exact q),fun q=>⟨_,_,rfl,q⟩⟩
theorem aqI{i j:Int} : rMax [.int i,.int j] H Q=Q (.int (if j > i then j else i)) H:=propext ⟨fun ⟨_,_,e,q⟩=>(by cases e;exact q),fun q=>⟨_,_,rfl,q⟩⟩
noncomputable def rCalm (calm:Bool) (r:List V->Hp->VK->Prop):List V->Hp->VK->Prop:=fun xs H Q=>calm=true/\r xs H Q
theorem anY{r:List V->Hp->VK->Prop} : rCalm true r xs H Q=r xs H Q:=propext ⟨fun h=>h.2,fun h=>⟨rfl,h⟩⟩
end L2
set_option maxRecDepth 100000
namespace L2
open PySem PySem.Spec PyProof.Rows
open PySem.Builtin PySem.Builtin.Str PySem.StrLaws
noncomputable def tSeqM (t u:TS):TS:=fun D O H=>∃ M:St->Hp->Prop,t { D with nx:=M } O H/\∀ σ' H',M σ' H'->u D σ' H'
theorem iJ{rest:List Stmt}{t u:TS}(h1:QS X st t)(h2:QSs X rest u):QSs X (st::rest) (tSeqM t u):=⟨by
 intro pins s O H D I h;obtain ⟨M,h,hm⟩:=h;refine wpAny_execs_cons (B1 (h1.out pins s O H { D with nx:=M } I h) fun f s1 q=>?_)
 cases f with
 | next=>
  obtain ⟨σ',H',I',q⟩:=q;exact h2.out pins s1 σ' H' D I' (hm _ _ q)
 | ret v=>exact q
 | brk=>exact q
 | cont=>exact q⟩
theorem eK{t u:TS}(M:St->Hp->Prop)(h:t { D with nx:=M } O H)(h2:∀ σ' H',M σ' H'->u D σ' H'):tSeqM t u D O H:=⟨M,h,h2⟩
theorem uF(h:H p=some (.lst xs)):TruV K (.ref p) H (!xs.isEmpty):=.inl ⟨xs,.of h,rfl⟩
theorem eN(xs:List V)(k:Nat):cutV xs (some (k:Int)) none=xs.drop k:=by
 unfold cutV;have e1:HT.sIx xs.length 0 (some (k:Int))=min k xs.length:=by unfold HT.sIx;simp;lia
 have e2:HT.sIx xs.length xs.length none=xs.length:=rfl;rw [e1,e2,p9 (by rw [q9];exact B5 _)]
 by_cases h:k<=xs.length
 .rw [gS h]
 .rw [Nat.min_eq_right (by lia),kH (B5 _),kH (by lia)]
theorem iK(xs:List V)(k:Nat):cutV xs none (some (k:Int))=xs.take k:=by
 unfold cutV;have e1:HT.sIx xs.length xs.length (some (k:Int))=min k xs.length:=by unfold HT.sIx;simp;lia
 have e2:HT.sIx xs.length 0 none=0:=rfl;rw [e1,e2,List.drop_zero,Nat.sub_zero]
 by_cases h:k<=xs.length
 .rw [gS h]
 .rw [Nat.min_eq_right (by lia),p9 (B5 _),p9 (by lia)]
theorem agm(x:V)(xs:List V):cutV (x::xs) (some 1) none=xs:=eN (x::xs) 1
theorem V4{α:Type}(x:α)(xs:List α):K7 (x::xs) 0=some x:=by
 have e:W9 (x::xs).length 0=some 0:=by unfold W9;rw [if_pos (bW 0),if_pos (by rw [G6];lia)];rfl
 unfold K7;rw [e];rfl
theorem alE{o f:Expr}(hu:X.A.units+1<cLine)(ho:QE X o td)(he:QE X e ty)(hf:QE X f tx)(h1:L1 e=false:=by rfl)(h2:L1 f=false:=by rfl)(E2:attributeBase o "get" X.env (eval o X.env)=eval o X.env:=by rfl)(E3:(apos.endLine==cpos.line)=true:=by rfl):QE X (.Call (.Attribute o "get" apos) [e,f] [] cpos) (tR td ty tx):=
 ⟨alf hu ho.out he.out hf.out ⟨E2,by rw [N0 h1,N0 h2];rfl,E3,by rw [N0 h1,N0 h2];rfl⟩⟩
theorem anZ{trs:List (TE×TE)} : tDisp trs O H Q=∀ p,H p=none->iE trs O (A0 H p (.dK [])) fun ps H2=>H2 p=some (.dK [])/\∃ kvs:List (C1×V),ps=kvs.map (fun kv=>(kV kv.1,kv.2))/\kvs.length<=15/\Q (.ref p) (A0 H2 p (.dK (W5 [] kvs))):=rfl
theorem an0{Q:List (V×V)->Hp->Prop} : iE [] O H Q=Q [] H:=rfl
theorem alF{tk tv:TE}{r:List (TE×TE)}{Q:List (V×V)->Hp->Prop} : iE ((tk,tv)::r) O H Q=tk O H fun x H1=>tv O H1 fun y H2=>iE r O H2 fun ps H3=>Q ((x,y)::ps) H3:=rfl
theorem alG : tR td ty tx O H Q=td O H fun x H1=>∃ a,x=.ref a/\aL H1 a/\ty O H1 fun y H2=>tx O H2 fun z H3=>∃ o,DGet H3 a y o/\Q (o.getD z) H3:=rfl
theorem pS:∀ {zs:List Str} {us:List Value},Vals (zs.map V.str) us->StrsAre us zs
 | [],_,.nil=>.nil
 | z::zs,_::_,.cons ⟨t,h⟩ r=>by subst h;exact .cons _ _ (pS r)
noncomputable def rJoin (K:PySem.W.Frag):V->List V->Hp->VK->Prop:=fun x vs H Q=>∃ (z:Str) (b:Addr) (zs:List Str),x=.str z/\vs=[.ref b]/\(C7 K H b (zs.map V.str)\/C6 K H b (zs.map V.str))/\z.length<=16/\(zs.map (·.length)).sum+zs.length<=1048576/\Q (.str (Str.join z zs)) H
theorem amA(hK:X.K=K:=by rfl):QMt X "str.join" (rJoin K):=⟨by
 subst hK;intro pins s O H x vs v us Q I rx rv h;obtain ⟨z,b,zs,rfl,rfl,hb,h1,h2,q⟩:=h;obtain ⟨t,rfl⟩:=rx;obtain ⟨u,rfl,ru⟩:=vals1 rv
 cases ru
 have e:Txt.join z zs=Str.join z zs:=glued_eq_join z zs
 rcases hb with hb | hb
 .obtain ⟨its,r',pl,hz⟩:=I.list hb;exact join_listW pl.isList (by simpa using pS r') h1 h2 fun t' k=>⟨.str (Str.join z zs),H,I.tok k,⟨t',by rw [e]⟩,q⟩
 .obtain ⟨its,r',pl,hz⟩:=I.tuple hb;exact join_tupleW pl (by simpa using pS r') h1 h2 fun t' k=>⟨.str (Str.join z zs),H,I.tok k,⟨t',by rw [e]⟩,q⟩⟩
end L2
set_option maxRecDepth 100000
namespace L2
open PySem PySem.Spec PyProof.Rows
theorem acM:entryFor table "dict.update.loop"=some Builtin.«dict.update.loop»:=entryFor_of_tree (by kernel_rfl)
theorem pT:plainId "dict.update.loop"=true:=by decide +kernel
section
variable {prog:Program} {w:World} {A:Around} {R:Result->Shared->Prop} {I:Addr} {fp wr:List Addr} {G:Array GenState->Array GenState->Prop} {n:Nat} {P:Nat->Value->Prop} {St:Nat->Shared->Prop}
variable {K:Type} [DecidableEq K] {knd:KeyKind prog w K}
noncomputable def m3 (ks:Nat->K) (vl:Nat->Value):Nat->List (K×Value)
 | 0=>[]
 | i+1=>stored (m3 ks vl i) (ks i) (vl i)
theorem aej(ks:Nat->K)(vl:Nat->Value):∀ i,(m3 ks vl i).length<=i
 | 0=>B5 _
 | i+1=>by
  have h1:=aej ks vl i;have h2:(stored (m3 ks vl i) (ks i) (vl i)).length<=(m3 ks vl i).length+1:=by
   unfold stored
   split
   .rw [A4];lia
   .rw [C8];exact B5 _
  show (stored (m3 ks vl i) (ks i) (vl i)).length<=i+1;lia
theorem ajM(W:WalksS prog w A.in1 I fp wr G n P St)(d:Addr)(y0:d∉fp)(tp:Nat->Addr)(ky vl:Nat->Value)(ks:Nat->K)(hP:∀ i v,P i v->v=.ref (tp i))(hk:∀ i,i<n->knd.is (ks i) (ky i)=true)(ht:∀ i,i<n->tp i≠d/\tp i∉wr)(hn:n<=sizeLine) :
  ∀ (k i:Nat) (s:Shared) (j:Int) (t:Tok),n-i=k->i<=n->St i s->(∀ i,i<n->IsTup s.heap (tp i) #[ky i,vl i])->s.heap.DictOf knd d (m3 ks vl i)->
   (∀ s',Moved (d::wr) G s s'->s'.heap.DictOf knd d (m3 ks vl n)->R (.ok (.ret .none)) s')->
   codeAny (model prog w) A (.builtin "dict.update.loop" ⟨[.ref d,.ref I,.int j t,.none],[]⟩) R s:=by
 have hdw:d∉wr:=fun h=>y0 (W.sub _ h)
 have mO:∀ b∈wr,b∈d::wr:=fun b hb=>M3 _ hb
 intro k
 induction k with
 | zero=>
  intro i s j t fF hi X2 hT hD hR;have L4:i=n:=by lia
  subst L4;refine codeAny_builtin acM ?_;rw [Around.under_plainId pT _];show wpAny _ A.in1 (pyNext (.ref I) >>= _) _ _ s;refine wpAny_bind (W.done s _ _ X2 fun s' hm=>?_);have e0:Builtin.Dict.addKeywords d []=pure ():=rfl;show wpAny _ A.in1 (Builtin.Dict.addKeywords d [] >>= fun _=>ret Value.none) _ _ s';rw [e0];refine wpAny_bind (wpAny_pure (wpAny_pure (hR s' (hm.mono mO) ?_)));obtain ⟨o,es,ep,ho,rest⟩:=hD;exact ⟨o,es,ep,hm.heap d _ hdw ho,rest⟩
 | succ k ih=>
  intro i s j t fF hi X2 hT hD hR;have C4:i<n:=by lia
  refine codeAny_builtin acM ?_;rw [Around.under_plainId pT _];show wpAny _ A.in1 (pyNext (.ref I) >>= _) _ _ s;refine wpAny_bind (W.item i s _ _ C4 X2 fun v s' hv yK hm=>?_);obtain rfl:=hP i v hv;have hD':s'.heap.DictOf knd d (m3 ks vl i):=by
   obtain ⟨o,es,ep,ho,rest⟩:=hD;exact ⟨o,es,ep,hm.heap d _ hdw ho,rest⟩
  have hT':∀ i,i<n->IsTup s'.heap (tp i) #[ky i,vl i]:=fun i hi=>by
   obtain ⟨o,ho,rest⟩:=hT i hi;exact ⟨o,hm.heap _ _ (ht i hi).2 ho,rest⟩
  have hTi:=hT' i C4;obtain ⟨o,ho,yA,n0,rP⟩:=id hTi;refine wpAny_bind (wpAny_holding (wpAny_bind (wpAny_tryCatch ?_)));unfold Builtin.Dict.pairItems;refine wpAny_bind (wpAny_typeOf hTi.typeIs ?_);rw [if_pos (by decide)];refine wpAny_bind (wpAny_seqItems ho rP ?_);refine wpAny_pure ?_;show wpAny _ _ (holding [ky i,vl i] (dictSet d (ky i) (vl i))) _ _ s';have hl:=aej ks vl i;refine wpAny_holding (wpAny_dictSet_pairs (hk i C4) hD' (fun h' hD2 jO=>?_) (by lia));refine wpAny_pure ⟨plainId_quiet pT _,ih (i+1) _ (j+1) 0 (by lia) C4 (W.frame _ s' _ _ yK (Nat.le_succ _) fun b hb o e=>?_) (fun i hi=>?_) hD2 fun s'' hm'' hD''=>?_⟩
  .rw [jO.2 b (fun h:b=d=>y0 (by rw [<- h];exact hb))];exact e
  .obtain ⟨o,ho,rest⟩:=hT' i hi;exact ⟨o,(jO.2 _ (ht i hi).1).trans ho,rest⟩
  .refine hR s'' (Moved.trans W.gtrans ((hm.mono mO).then_heap (Nat.le_succ _) fun b o hb e=>?_) hm'') hD'';rw [jO.2 b (fun h:b=d=>hb (by rw [h];exact L5))];exact e
end
theorem aiB:typeLookup (.type "list") "__getattribute__"=pure (some (.builtin "list.__getattribute__")):=by rw [typeLookup_type,builtinLookup_eq_fast];kernel_rfl
theorem agn:typeLookup (.type "list") "keys"=pure none:=by rw [typeLookup_type,builtinLookup_eq_fast];kernel_rfl
theorem ago:typeLookup (.type "list") "__getattr__"=pure none:=by rw [typeLookup_type,builtinLookup_eq_fast];kernel_rfl
theorem agp{w:World}{l:Addr}{o:Obj}{xs:Array Value}{Q:Option Value->Shared->Prop}(hx:s.heap.get? l=some o)(hc:o.cls=.type "list")(mP:o.data=.seq xs k)(hd:o.dict=none)(hA:A.handled=none)(h:∀ h' tk,(∀ b o,s.heap.get? b=some o->h'.get? b=some o)->Q none { s with heap:=h',toks:=tk }):wpAny (model prog w) A (getAttr? (.ref l) "keys") Q E s:=by
 obtain ⟨c,dct,dat,sl⟩:=o;simp only at hc mP hd;subst hc mP hd;obtain ⟨hp,g,d,tk,os⟩:=s;have hT:∀ tk',(⟨hp,g,d,tk',os⟩:Shared).TypeIs (.ref l) "list":=fun _=>⟨_,hx,rfl⟩
 have f4:=F.slot_list_getattribute.bind (.ref l);unfold getAttr? getAttrBy? getAttrBy;refine wpAny_bind (wpAny_mkText (wpAny_bind (wpAny_attempt (wpAny_holding (wpAny_bind (wpAny_typeOf (hT _) ?_))))));rw [aiB];refine wpAny_bind (wpAny_pure ?_);show wpAny _ _ (getAttrByItsOwn _ _ _ _ _ _) _ _ _;unfold getAttrByItsOwn;refine wpAny_bind (wpAny_pure ?_);refine wpAny_bind (wpAny_attempt (wpAny_holding ?_));show wpAny _ _ (boundAndCalled _ _ _) _ _ _;unfold boundAndCalled;rw [f4];refine wpAny_bind (wpAny_pure ?_);refine call_meets F.slot_list_getattribute (hT _) am_entry_list_getattribute (F.args_list_getattribute_2 _ _) (meets_getattribute_miss_list l xs k sl "keys" _ agn (by decide +kernel) (by decide +kernel)) ⟨hx,hA,fun h' tk' e new=>?_⟩;obtain ⟨t',u',he⟩:=new.there;have hTe:∀ tk',(⟨h',g,d,tk',os⟩:Shared).TypeIs (.ref e) "AttributeError":=fun _=>⟨_,he,rfl⟩
 show wpAny _ _ (getattributeRaised _ _ _ _ _ _ _) _ _ _;unfold getattributeRaised;refine wpAny_bind (wpAny_isInstance (hTe _) sub_AttributeError ?_);rw [if_pos rfl];show wpAny _ _ (hookBehind _ _ >>= _) _ _ _;unfold hookBehind;rw [if_neg (by decide),ago];refine wpAny_bind (wpAny_pure ?_);unfold hookOrError attributeErrorLeaves;show wpAny _ _ (if (!false)=true then _ else _) _ _ _;rw [if_pos (by decide)];refine wpAny_bind (wpAny_throw ?_);show wpAny _ _ (isInstance _ _ >>= _) _ _ _;refine wpAny_bind (wpAny_isInstance (hTe _) sub_AttributeError ?_);rw [if_pos rfl];exact wpAny_pure (h h' tk' new.keeps)
section
variable {prog:Program} {w:World} {A:Around} {E:Value->Shared->Prop} {s:Shared} {K:Type} [DecidableEq K] {knd:KeyKind prog w K}
theorem aek{l:Addr}{Q:Value->Shared->Prop}(hl:PlainL s.heap l items)(hA:A.handled=none)(tp:Nat->Addr)(ky vl:Nat->Value)(ks:Nat->K)(hP:∀ (i:Nat) (v:Value),items[i]?=some v->v=Value.ref (tp i))(hk:∀ i,i<items.size->knd.is (ks i) (ky i)=true)(hT:∀ i,i<items.size->IsTup s.heap (tp i) #[ky i,vl i])(hn:items.size<=sizeLine)(h:∀ h' tk,(∀ b o,s.heap.get? b=some o->h'.get? b=some o)->h'.DictOf knd s.heap.objs.size (m3 ks vl items.size)->Q (.ref s.heap.objs.size) { s with heap:=h',toks:=tk }) :
  wpAny (model prog w) A (call (.type "dict") [.ref l]) Q E s:=by
 refine callType_codes (Q₁:=fun obj zu=>obj=.ref s.heap.objs.size/\zu={ s with heap:=s.heap.push { cls:=.type "dict",data:=.dict #[] } }) F.kt_called_dict (F.kt_typeCall_dict_1 _) F.entry_dict_init (kt_code_dict_new _ ⟨rfl,rfl⟩) ?_;rintro obj zu ⟨rfl,rfl⟩;have O9:(s.heap.push { cls:=.type "dict",data:=.dict #[] }).DictOf knd s.heap.objs.size []:=Heap.DictOf.new s.heap;obtain ⟨ol,nl,hol,yL,yM,dD⟩:=hl;have fG:(s.heap.push { cls:=.type "dict",data:=.dict #[] }).get? l=some ol:=Heap.get?_push_of_some _ hol;have C4:l<s.heap.objs.size:=Heap.lt_size hol;refine ⟨O9.typeIs,F.args_dict_init_2 _ _,?_⟩;unfold Builtin.«dict.__init__»;refine wpAny_bind ?_;unfold Builtin.Dict.selfAndRest;refine wpAny_bind (wpAny_notOrdered_dict O9.typeIs ?_);show wpAny _ _ (pure (s.heap.objs.size,[Value.ref l])) _ _ _;refine wpAny_pure ?_;show wpAny _ _ (Builtin.Dict.updateFrom "dict.__init__" s.heap.objs.size (.ref l) [] .none) _ _ _;unfold Builtin.Dict.updateFrom;refine wpAny_bind (wpAny_typeOf (T:="list") ⟨_,fG,yL⟩ ?_);rw [if_pos (by decide)];refine wpAny_bind (agp fG yL dD yM (by simp [hA]) fun h2 tk2 keep2=>?_);rw [if_pos (show (none:Option Value).isNone=true from rfl)];refine wpAny_bind (wpAny_rule ?_);have X4:h2.IsList l items:=⟨ol,keep2 _ _ fG,yL,nl,dD⟩
 refine wpAny_bind (wpAny_pyIter_list X4 ?_);obtain ⟨od,es,ep,rP,restd⟩:=O9;have aZ:s.heap.objs.size<h2.objs.size:=Heap.lt_size (keep2 _ _ rP);have N4:l≠h2.objs.size:=I0 (Nat.lt_trans C4 aZ);have hh:A.in1.in1.handled=none:=by simp [hA]
 have y0:s.heap.objs.size∉[h2.objs.size,l]:=by
  simp only [E4,Z6,or_false,not_or];exact ⟨I0 aZ,i3 C4⟩
 have mQ:∀ i,i<items.size->tp i<s.heap.objs.size:=fun i hi=>by
  obtain ⟨o,ho,_⟩:=hT i hi;exact Heap.lt_size ho
 refine wpAny_pure ⟨plainId_quiet pT _,ajM ((Walks.list hh _ l N4 items).toS) s.heap.objs.size y0 tp ky vl ks hP hk (fun i hi=>⟨I0 (mQ i hi),?_⟩) hn (items.size-0) 0 _ 0 0 (by lia) (F7 _) ⟨⟨_,Heap.get?_push_size _ rfl,rfl,rfl⟩,X4.push _⟩ (fun i hi=>?_) ?_ fun s' hm hD'=>?_⟩
 .simp only [E4,Z6,or_false];exact I0 (Nat.lt_trans (mQ i hi) aZ)
 .obtain ⟨o,ho,rest⟩:=hT i hi;exact ⟨o,Heap.get?_push_of_some _ (keep2 _ _ (Heap.get?_push_of_some _ ho)),rest⟩
 .exact ⟨od,es,ep,Heap.get?_push_of_some _ (keep2 _ _ rP),restd⟩
 .obtain ⟨h',g',d',tk',os'⟩:=s';have eg:g'=s.gens:=hm.gens;have ed:d'=s.drawn:=hm.drawn;have eo:os'=s.os:=hm.os;subst eg ed eo;refine ⟨rfl,h h' tk' (fun b o hb=>hm.heap b o ?_ (Heap.get?_push_of_some _ (keep2 _ _ (Heap.get?_push_of_some _ hb)))) hD'⟩;have mR:b<s.heap.objs.size:=Heap.lt_size hb;simp only [E4,Z6,or_false,not_or];exact ⟨I0 mR,I0 (Nat.lt_trans mR aZ)⟩
end
noncomputable def aqJ (K:PySem.W.Frag) (calm:Bool):List V->Hp->VK->Prop:=fun xs H Q=>calm=true/\∃ (p:Addr) (ts:List Addr) (kxs:List (C1×V)),xs=[.ref p]/\C7 K H p (ts.map V.ref)/\Paired (fun t kx=>C6 K H t [kV kx.1,kx.2]) ts kxs/\∀ d,H d=none->Q (.ref d) (A0 H d (.dK (W5 [] kxs)))
theorem ahY(I:Inv X pins O H s):∀ {ts:List Addr} {kxs:List (C1×V)},Paired (fun t kx=>C6 X.K H t [kV kx.1,kx.2]) ts kxs->
  ∃ ws:List (Value×Value),Paired (fun t w=>IsTup s.heap t #[w.1,w.2]) ts ws/\Paired (fun (kx:C1×V) (w:Value×Value)=>keyIs kx.1 w.1=true/\RelV kx.2 w.2) kxs ws
 | _,_,.nil=>⟨[],.nil,.nil⟩
 | _,_,.cons h t=>by
  obtain ⟨ws,h1,h2⟩:=ahY I t;obtain ⟨its,r,ht,_⟩:=I.tuple h;obtain ⟨u1,u2,rfl,r1,r2⟩:=vals2 r;exact ⟨(u1,u2)::ws,.cons ht h1,.cons ⟨kV_is (P:=X.prog) (w:=X.w) r1,r2⟩ h2⟩
theorem ajN:∀ {ts:List Addr} {us:List Value},Vals (ts.map V.ref) us->us=ts.map Value.ref
 | [],_,.nil=>rfl
 | t::ts,_::_,.cons h r=>by
  rw [K5,<- ajN r];cases h;rfl
theorem ajO(hK:X.K=K:=by rfl)(hc:X.calm=calm:=by rfl):QCall X (.type "dict") (aqJ K calm):=⟨by
 subst hK;intro pins s O H xs us Q I r h;obtain ⟨mN,p,ts,kxs,rfl,hp,hP,q⟩:=h;obtain ⟨u,rfl,rx⟩:=vals1 r
 cases rx
 obtain ⟨its,r',pl,hz⟩:=I.list hp;have mS:=ajN r';obtain ⟨ws,h1,h2⟩:=ahY I hP;have Y6:ts.length=ws.length:=Paired.length h1;have X4:kxs.length=ws.length:=Paired.length h2;rw [A4] at hz;have hsz:its.toArray.size=ts.length:=by rw [E7,mS,A4]
 have yN:∀ i,i<=ts.length->KV (W5 [] (kxs.take i)) (m3 (fun i=>(kxs.getD i (Sum.inl 0,.non)).1) (fun i=>(ws.getD i (.none,.none)).2) i):=by
  intro i
  induction i with
  | zero=>intro _;exact .nil
  | succ i ih=>
   intro hi;have bA:i<kxs.length:=by lia
   obtain ⟨w',hw,hr⟩:=Paired.at h2 (G0 bA);have e1:W5 [] (kxs.take (i+1))=putK (W5 [] (kxs.take i)) kxs[i].1 kxs[i].2:=by
    unfold W5;rw [g6,G0 bA,Option.toList_some,aB];rfl
   rw [e1];show KV _ (stored _ (kxs.getD i (Sum.inl 0,.non)).1 (ws.getD i (.none,.none)).2);have e2:(kxs.getD i (Sum.inl 0,.non))=kxs[i]:=by rw [V1,G0 bA];rfl
   have e3:(ws.getD i (.none,.none))=w':=by rw [V1,hw];rfl
   rw [e2,e3];exact (ih (by lia)).put _ hr.2
 refine aek (knd:=M7 X.prog X.w) pl (I.ok.hd (hc.trans mN)) (fun i=>ts.getD i 0) (fun i=>(ws.getD i (.none,.none)).1) (fun i=>(ws.getD i (.none,.none)).2) (fun i=>(kxs.getD i (Sum.inl 0,.non)).1) (fun i v hv=>?_) (fun i hi=>?_) (fun i hi=>?_) (by lia) fun h' tk keep hD=>?_
 .rw [<- oM,mS,O1] at hv;rw [V1];cases e:ts[i]? with
  | none=>rw [e] at hv;cases hv
  | some t=>rw [e] at hv;cases hv;rfl
 .obtain ⟨w',hw,hr⟩:=Paired.at h2 (G0 (show i<kxs.length by lia));have e2:(kxs.getD i (Sum.inl 0,.non))=kxs[i]'(by lia):=by rw [V1,G0 (show i<kxs.length by lia)];rfl
  have e3:(ws.getD i (.none,.none))=w':=by rw [V1,hw];rfl
  rw [e2,e3];exact hr.1
 .have hi':i<ts.length:=by lia
  obtain ⟨w',hw,hr⟩:=Paired.at h1 (G0 hi');have e3:(ws.getD i (.none,.none))=w':=by rw [V1,hw];rfl
  have e4:ts.getD i 0=ts[i]:=by rw [V1,G0 hi'];rfl
  rw [e3,e4];exact hr
 .have hD2:KV (W5 [] kxs) (m3 (fun i=>(kxs.getD i (Sum.inl 0,.non)).1) (fun i=>(ws.getD i (.none,.none)).2) its.toArray.size):=by
   have:=yN ts.length (B5 _)
   rw [p9 (by lia)] at this;rw [hsz];exact this
  have A9:=adk kxs [];rw [k4] at A9;exact ⟨.ref s.heap.objs.size,_,I.laid (t':=tk) keep (B5 _) (oX (by lia) (beq_eq_false_iff_ne.mpr (Ne.symm (I0 I.big))) hD2 hD),rfl,q _ (I.hok.fresh (B5 _))⟩⟩
end L2
set_option maxRecDepth 100000
namespace L2
open PySem PySem.Spec PyProof.Rows
section
variable {X:Cx} {pins:List (Addr×Obj)} {O:St} {H:Hp} {s:Shared} {h':Heap}
theorem Inv.turnNew{ch:List Addr}{T:Addr}{o:HO}(I:Inv X pins O H s)(hf:∀ b∈ch,FpOk X pins H b)(k:∀ b u,b∉ch->s.heap.get? b=some u->h'.get? b=some u)(hT:s.heap.objs.size<=T)(new:ObjOk X.prog X.w (A0 H T o) h' T o):Inv X pins O (A0 H T o) { s with heap:=h',toks:=t' }:=by
 have hn:H T=none:=I.hok.fresh hT;have nch:∀ b u,H b=some u->b∉ch:=fun b u e z=>by rw [(hf b z).1] at e;cases e
 have neT:∀ b u,s.heap.get? b=some u->b≠T:=fun b u e=>I0 (O2 (Heap.lt_size e) hT)
 refine I.step (g':=s.gens) (d':=s.drawn) (ch:=ch) (fun b hb=>?_) (fun b u _ _ hc e _=>k b u hc e) (fun b u _ _ hc e _=>⟨u.slots,k b u hc e⟩) (fun b u _ e n=>by rw [A3 (neT b u e)];exact n)
  (fun b u hc e=>⟨u,k b u hc e⟩) (fun b xs e=>C9 e hn) (fun b ob u e=>C9 e hn) (fun b ps e=>⟨#[],by rw [C9 e hn];simp⟩) (fun m hm=>?_) (fun b u e=>?_) I.bare
 .obtain ⟨f0,f1,f2,f3,f4,f5⟩:=hf b hb;exact ⟨f3,f1,f4,f5⟩
 .obtain ⟨ob,es,ep,ho,r⟩:=hm;exact ⟨ob,es,ep,k _ ob (fun z=>(hf _ z).2.1 rfl) ho,r⟩
 .by_cases hb:b=T
  .subst hb;rw [A2] at e;cases e;exact new
  .rw [A3 hb] at e;refine (I.hok b u e).stay (fun c v hc q=>k c v ?_ q) (fun c q=>C9 q hn) fun c xs q=>C9 q hn
   rcases hc with z | z
   .rw [z];exact nch b u e
   .exact nch c _ z
end
theorem j0{a b:Nat}(h:a<b\/b<a):(show Addr from a)≠(show Addr from b):=fun e=>by
 have e:a=b:=e;lia
noncomputable def pU (l1 l2 : Addr) : It :=
  ⟨fun i H => ∃ xs ys x y, H l1 = some (.lst xs) /\ H l2 = some (.lst ys) /\ xs[i]? = some x /\ ys[i]? = some y,
   fun i H v H' => ∃ t xs ys x y, H l1 = some (.lst xs) /\ H l2 = some (.lst ys) /\ xs[i]? = some x /\ ys[i]? = some y /\ H t = none /\ v = .ref t /\ H' = A0 H t (.tup [x, y]),
   fun i H => ∃ xs ys, H l1 = some (.lst xs) /\ H l2 = some (.lst ys) /\ (xs.length <= i \/ ys.length <= i)⟩
theorem alH{P:Program}{w:World}{pos:Pos}(z TI TO i1 i2 l1 l2:Addr)(a1:TI≠z)(a2:TO≠z)(a3:i1≠z)(a4:i2≠z)(a5:TI≠TO)(a6:TI≠i1)(a7:TI≠i2)(a8:TO≠i1)(a9:TO≠i2)(a10:i1≠i2) :
  Turn P w K (.Tuple elts x1 pos) (pU l1 l2) [z,TO,i1,i2,TI] z (fun i h=>IsZip h z TI TO .none/\IsPair h TI (.ref i1) (.ref i2)/\(∃ a b,IsPair h TO a b)/\h.IsListIter i1 l1 i/\h.IsListIter i2 l2 i) where
 mem:=by simp
 obj:=fun i h ⟨hz,hTI,⟨a,b,hTO⟩,h1,h2⟩ c hc=>by
  have e:c=z\/c=TO\/c=i1\/c=i2\/c=TI:=by simpa using hc
  rcases e with rfl | rfl | rfl | rfl | rfl
  .exact ⟨_,hz,fun v q=>by cases q⟩
  .exact ⟨_,hTO,fun v q=>by cases q⟩
  .obtain ⟨o,e,c,d⟩:=h1;exact ⟨o,e,fun v z=>by rw [d] at z;cases z⟩
  .obtain ⟨o,e,c,d⟩:=h2;exact ⟨o,e,fun v z=>by rw [d] at z;cases z⟩
  .exact ⟨_,hTI,fun v q=>by cases q⟩
 keep:=fun i h h' ⟨hz,hTI,⟨a,b,hTO⟩,h1,h2⟩ k=>⟨k z (by simp) _ hz,k TI (by simp) _ hTI,⟨a,b,k TO (by simp) _ hTO⟩,h1.at fun o e=>k i1 (by simp) o e,h2.at fun o e=>k i2 (by simp) o e⟩
 item:=by
  intro X hP hw hK hc i pins s O H E I hf ⟨hz,hTI,⟨a,b,hTO⟩,h1,h2⟩ hg;subst hP hw hK;obtain ⟨xs,ys,x,y,e1,e2,hx,hy⟩:=hg;obtain ⟨its1,Y7,p1,_⟩:=I.list (C7.of (K:=X.K) e1);obtain ⟨its2,rQ,p2,_⟩:=I.list (C7.of (K:=X.K) e2);obtain ⟨u1,C5,r1⟩:=Y7.get hx;obtain ⟨u2,y4,r2⟩:=rQ.get hy;have nl:∀ c∈[z,TO,i1,i2,TI],l1≠c/\l2≠c:=fun c hc=>⟨fun q=>(by rw [q,(hf c hc).1] at e1;cases e1),fun q=>(by rw [q,(hf c hc).1] at e2;cases e2)⟩
  have D:ZipApart z TI TO i1 i2 l1 l2:=⟨a1,a2,a3,a4,a5,a6,a7,a8,a9,a10,(nl z (by simp)).1,(nl TO (by simp)).1,(nl i1 (by simp)).1,(nl i2 (by simp)).1,(nl z (by simp)).2,(nl TO (by simp)).2,(nl i1 (by simp)).2,(nl i2 (by simp)).2⟩
  refine wpAny_pyNext_zip_item D hz hTI hTO h1 h2 p1.isList p2.isList (x:=u1) (y:=u2) (by simpa using C5) (by simpa using y4) fun h' b1 b2 b3 b4 b5 b6 b7=>⟨_,rfl,wpAny_letOwnedTupleGo_zip b1 fun h2' c1 c2=>?_⟩
  have R1:z<s.heap.objs.size:=Heap.lt_size hz;have up:∀ c o,c≠z->h'.get? c=some o->h2'.get? c=some o:=fun c o hc e=>(c2.2 c hc).trans e
  have nT:∀ c∈[z,TO,i1,i2,TI],c≠s.heap.objs.size:=fun c hc=>by
   have e:c=z\/c=TO\/c=i1\/c=i2\/c=TI:=by simpa using hc
   refine I0 ?_
   rcases e with rfl | rfl | rfl | rfl | rfl
   .exact Heap.lt_size hz
   .exact Heap.lt_size hTO
   .obtain ⟨o,e,_⟩:=h1;exact Heap.lt_size e
   .obtain ⟨o,e,_⟩:=h2;exact Heap.lt_size e
   .exact Heap.lt_size hTI
  have hT:=up _ _ (i3 R1) b5;refine ⟨.ref s.heap.objs.size,A0 H s.heap.objs.size (.tup [x,y]),I.turnNew (t':=s.toks) (ch:=[z,TO,i1,i2,TI]) hf (fun c u hc e=>?_) (B5 _) ⟨by show 2<=sizeLine;decide,[u1,u2],.cons r1 (.cons r2 .nil),?_⟩,rfl,⟨_,xs,ys,x,y,e1,e2,hx,hy,I.fresh,rfl,rfl⟩,
   ⟨c1,up _ _ a1 (b7 _ _ a1 a5 a6 a7 hTI),⟨_,_,up _ _ a2 b2⟩,b3.at fun o e=>up _ o a3 e,b4.at fun o e=>up _ o a4 e⟩,fun c hc=>by rw [A3 (nT c hc)];exact (hf c hc).1⟩
  .have q:c≠z/\c≠TO/\c≠i1/\c≠i2:=by
    refine ⟨fun q=>hc (by simp [q]),fun q=>hc (by simp [q]),fun q=>hc (by simp [q]),fun q=>hc (by simp [q])⟩
   exact up c u q.1 (b7 c u q.1 q.2.1 q.2.2.1 q.2.2.2 e)
  .exact ⟨_,hT,rfl,_,rfl⟩
 done:=by
  intro X hP hw hK hc i pins s O H E I hf ⟨hz,hTI,⟨a,b,hTO⟩,h1,h2⟩ hg;subst hP hw hK;obtain ⟨xs,ys,e1,e2,fH⟩:=hg;obtain ⟨its1,Y7,p1,_⟩:=I.list (C7.of (K:=X.K) e1);obtain ⟨its2,rQ,p2,_⟩:=I.list (C7.of (K:=X.K) e2);have q1:=Y7.length;have q2:=rQ.length;have nl:∀ c∈[z,TO,i1,i2,TI],l1≠c/\l2≠c:=fun c hc=>⟨fun q=>(by rw [q,(hf c hc).1] at e1;cases e1),fun q=>(by rw [q,(hf c hc).1] at e2;cases e2)⟩
  have D:ZipApart z TI TO i1 i2 l1 l2:=⟨a1,a2,a3,a4,a5,a6,a7,a8,a9,a10,(nl z (by simp)).1,(nl TO (by simp)).1,(nl i1 (by simp)).1,(nl i2 (by simp)).1,(nl z (by simp)).2,(nl TO (by simp)).2,(nl i1 (by simp)).2,(nl i2 (by simp)).2⟩
  refine wpAny_pyNext_zip_end (I.ok.hd hc) D hz hTI hTO h1 h2 p1.isList p2.isList (by rcases fH with q | q <;> simp <;> lia) fun h' k=>⟨rfl,?_⟩
  refine I.step (h':=h') (t':=s.toks) (g':=s.gens) (d':=s.drawn) (ch:=[z,TO,i1,i2,TI]) (fun b hb=>?_) (fun b u _ _ hc e _=>?_) (fun b u _ _ hc e _=>⟨u.slots,?_⟩) (fun b u _ e n=>n)
   (fun b u hc e=>⟨u,?_⟩) (fun b xs e=>e) (fun b ob u e=>e) (fun b ps e=>⟨#[],by rw [e];simp⟩) (fun m hm=>?_) (fun b u e=>?_) I.bare
  .obtain ⟨f0,f1,f2,f3,f4,f5⟩:=hf b hb;exact ⟨f3,f1,f4,f5⟩
  .exact k b u (fun q=>hc (by simp [q])) (fun q=>hc (by simp [q])) (fun q=>hc (by simp [q])) (fun q=>hc (by simp [q])) e
  .exact k b u (fun q=>hc (by simp [q])) (fun q=>hc (by simp [q])) (fun q=>hc (by simp [q])) (fun q=>hc (by simp [q])) e
  .exact k b u (fun q=>hc (by simp [q])) (fun q=>hc (by simp [q])) (fun q=>hc (by simp [q])) (fun q=>hc (by simp [q])) e
  .obtain ⟨ob,es,ep,ho,r⟩:=hm;have nL:∀ c∈[z,TO,i1,i2,TI],X.env.locals≠c:=fun c hc q=>(hf c hc).2.1 q.symm
   exact ⟨ob,es,ep,k _ ob (nL z (by simp)) (nL TO (by simp)) (nL i1 (by simp)) (nL i2 (by simp)) ho,r⟩
  .have nch:∀ b u,H b=some u->∀ c∈[z,TO,i1,i2,TI],b≠c:=fun b u e c hc q=>by rw [q,(hf c hc).1] at e;cases e
   refine (I.hok b u e).stay (fun c v hc q=>?_) (fun c q=>q) fun c xs q=>q
   have:∀ d∈[z,TO,i1,i2,TI],c≠d:=by
    rcases hc with z | z
    .rw [z];exact nch b u e
    .exact nch c _ z
   exact k c v (this z (by simp)) (this TO (by simp)) (this i1 (by simp)) (this i2 (by simp)) q
 self:=fun _ _ _ _ _ st h=>wpAny_pyIter_zip st.1 h
section
variable {X:Cx}
noncomputable def iZip (ta:TA):TI:=fun O H R=>ta O H fun vs H1=>∃ (l1 l2:Addr) (xs ys:List V),vs=[.ref l1,.ref l2]/\H1 l1=some (.lst xs)/\H1 l2=some (.lst ys)/\R (pU l1 l2) H1
theorem aqK{a b:Expr}{p pos:Pos}(hg:Gl X "zip")(hm:X.mg "zip"=none)(ha:PA X [a,b] ta)(h1:L1 a=false:=by rfl)(h2:L1 b=false:=by rfl) :
  PI X (.Tuple elts x1 tpos) (.Call (.Name "zip" p) [a,b] [] pos) (iZip ta):=by
 intro pins s O H R I h;refine Call_ (bX I hg hm boot_zip (PyProof.Rows.callWith_type1 (B1 (ha pos pins s O H _ I h) fun us s1 ⟨vs,H1,I1,r1,q1⟩=>?_) (N0 h1) (by rw [N0 h2];rfl)));obtain ⟨l1,l2,xs,ys,rfl,e1,e2,q⟩:=q1;obtain ⟨u1,u2,rfl,fI,yO⟩:=vals2 r1
 cases fI
 cases yO
 obtain ⟨its1,Y7,p1,_⟩:=I1.list (C7.of (K:=X.K) e1);obtain ⟨its2,rQ,p2,_⟩:=I1.list (C7.of (K:=X.K) e2);refine call_zip_2 p1.isList p2.isList fun h' z1 z2 z3 z4 z5 z6 z7=>wpAny_pyIter_zip z1 ?_
 refine ⟨s1.heap.objs.size+4,[s1.heap.objs.size+4,s1.heap.objs.size+3,s1.heap.objs.size,s1.heap.objs.size+1,s1.heap.objs.size+2],_,_,H1,rfl,I1.kept (t':=s1.toks) z7,
  alH _ (s1.heap.objs.size+2) (s1.heap.objs.size+3) s1.heap.objs.size (s1.heap.objs.size+1) l1 l2 (j0 (by lia)) (j0 (by lia)) (j0 (by lia)) (j0 (by lia)) (j0 (by lia)) (j0 (by lia)) (j0 (by lia)) (j0 (by lia)) (j0 (by lia)) (j0 (by lia)),⟨z1,z2,⟨_,_,z3⟩,z4,z5⟩,fun b hb=>?_,q⟩
 have X5:s1.heap.objs.size<=b:=by
  have e:b=s1.heap.objs.size+4\/b=s1.heap.objs.size+3\/b=s1.heap.objs.size\/b=s1.heap.objs.size+1\/b=s1.heap.objs.size+2:=by simpa using hb
  rcases e with rfl | rfl | rfl | rfl | rfl
  .exact bU _ _
  .exact bU _ _
  .exact B5 _
  .exact bU _ _
  .exact bU _ _
 exact I1.fpOk X5 (I1.hok.fresh X5)
theorem aqL{a b:Expr}{p pos:Pos}(hm:X.mg "zip"=none)(ha:QA X [a,b] ta)(hg:Gl X "zip":=by rfl)(h1:L1 a=false:=by rfl)(h2:L1 b=false:=by rfl) :
  QI X (.Tuple elts x1 tpos) (.Call (.Name "zip" p) [a,b] [] pos) (iZip ta):=⟨aqK hg hm ha.out h1 h2⟩
end
theorem an1{R:It->Hp->Prop} : iZip ta O H R=ta O H fun vs H1=>∃ (l1 l2:Addr) (xs ys:List V),vs=[.ref l1,.ref l2]/\H1 l1=some (.lst xs)/\H1 l2=some (.lst ys)/\R (pU l1 l2) H1:=rfl
theorem forZ{l1 l2:Addr}(Pv:Nat->St->Hp->Prop)(h0:Pv 0 O H)(hl:∀ i O H,Pv i O H->H l1=some (.lst xs)/\H l2=some (.lst ys))(hs:∀ i x y t O H,xs[i]?=some x->ys[i]?=some y->Pv i O H->H t=none->g (.ref t) O (A0 H t (.tup [x,y])) fun σ2 H2=>tb { D with nx:=Pv (i+1),ct:=Pv (i+1),bk:=D.nx } σ2 H2)(hd:∀ O H,Pv (min xs.length ys.length) O H->D.nx O H):ForIt (pU l1 l2) g tb D O H:=by
 refine ⟨fun i m O H=>m=min xs.length ys.length-i/\i<=min xs.length ys.length/\Pv i O H,⟨min xs.length ys.length,by simp,F7 _,h0⟩,?_⟩;rintro i m O H ⟨rfl,hi,p⟩;obtain ⟨e1,e2⟩:=hl i O H p
 by_cases C4:i<min xs.length ys.length
 .refine .inr ⟨⟨xs,ys,xs[i]'(by lia),ys[i]'(by lia),e1,e2,by simp,by simp⟩,Pv (i+1),fun σ' H' p'=>⟨_,by lia,rfl,C4,p'⟩,fun v H' y=>?_⟩;obtain ⟨t,xs',ys',x,y',f1,f2,hx,hy,ht,rfl,rfl⟩:=y;rw [e1] at f1;cases f1;rw [e2] at f2;cases f2;exact hs i x y' t O H hx hy p ht
 .have e:i=min xs.length ys.length:=by lia
  subst e;exact .inl ⟨⟨xs,ys,e1,e2,by lia⟩,hd O H p⟩
noncomputable def Itr3 (lo st:Int) (n:Nat):It:=⟨fun i _=>i<n,fun i H x H'=>H'=H/\x=.int (lo+i*st),fun i _=>n<=i⟩
noncomputable def ajP:V->List V->Hp->VK->Prop:=fun x vs H Q=>∃ (l:Addr) (zs:List Str) (z:Str),x=.ref l/\vs=[.str z]/\H l=some (.lst (zs.map V.str))/\z∈zs/\Q .non (A0 H l (.lst ((zs.erase z).map V.str)))
theorem ae1:∀ {vs:List Value} {zs:List Str},StrsAre vs zs->∀ {j:Nat} {z:Str},zs[j]?=some z->∃ t,vs[j]?=some (.str z t)
 | _,_,.nil,_,_,h=>by simp at h
 | _,_,.cons _ _ _,0,_,h=>by simp at h;subst h;exact ⟨_,rfl⟩
 | _,_,.cons _ _ r,j+1,z,h=>by
  obtain ⟨t,q⟩:=ae1 r (j:=j) (z:=z) (by simpa using h);exact ⟨t,by simpa using q⟩
theorem uG{α β:Type}(f:α->β):∀ (l:List α) (i:Nat),(l.eraseIdx i).map f=(l.map f).eraseIdx i
 | [],_=>rfl
 | _::_,0=>rfl
 | x::l,i+1=>by
  show f x::(l.eraseIdx i).map f=f x::(l.map f).eraseIdx i;rw [uG f l i]
theorem ajQ : iD X "list.remove" ajP:=by
 intro pins s O H x vs v us Q I rx rv h;obtain ⟨l,zs,zz,rfl,rfl,hH,hm,q⟩:=h
 cases rx
 obtain ⟨u,rfl,ru⟩:=rv.one;obtain ⟨t,rfl⟩:=ru;obtain ⟨z,its,n,r,hl,e⟩:=I.lstM hH;have sa:=pS r;have hj:zs.idxOf zz<zs.length:=dR.mpr hm;rw [A4] at hl;have K3:∀ (j:Nat) (hj:j<its.toArray.size),∃ y t',zs[j]?=some y/\its.toArray[j]=.str y t':=fun j yP=>by
  have rR:j<zs.length:=by rw [hl];simpa using yP
  obtain ⟨t',ht⟩:=ae1 sa (j:=j) (z:=zs[j]) (by simp);refine ⟨zs[j],t',by simp,?_⟩
  have:=(F6.mp ht).2
  simpa using this
 have hsz:zs.idxOf zz<its.toArray.size:=by rw [E7,<- hl];exact hj
 refine call_meets F.slot_list_remove ⟨_,e,rfl⟩ F.entry_list_remove (F.args_list_remove_2 _ _)
  (MeetsSeq.list_remove l its.toArray n (.str zz t) (isStrOf zz) (fun y hy=>eq_isStrOf zz t sa y (by simpa using hy)) (zs.idxOf zz) hsz ?_ (fun m bB C4=>?_) (by rw [E7,<- hl];rw [A4] at z;exact z)) ⟨e,?_⟩
 .obtain ⟨y,t',h1,h2⟩:=K3 _ hsz;rw [h2]
  have:y=zz:=by
   have:=gM hj
   rw [G0 hj,this] at h1;exact (Option.some.inj h1).symm
  subst this;simp [isStrOf]
 .obtain ⟨y,t',h1,h2⟩:=K3 _ bB;rw [h2]
  have:y≠zz:=fun q=>by
   obtain ⟨h3,h4⟩:=F6.mp h1
   have:=List.not_of_lt_findIdx (show m<zs.findIdx (· == zz) from C4)
   rw [h4] at this;simp [q] at this
  simp [isStrOf,this]
 .refine ⟨.non,_,I.lset (its':=its.eraseIdx (zs.idxOf zz)) hH e ?_ ?_ ?_,rfl,q⟩
  .show its.toArray.eraseIdxIfInBounds (zs.idxOf zz)=_;rw [List.eraseIdxIfInBounds_toArray]
  .rw [List.erase_eq_eraseIdx_of_idxOf (l:=zs) (a:=zz) (w:=rfl),uG];exact r.eraseIdx _
  .rw [A4,oF hm];rw [A4] at z;lia
theorem alI : QMt X "list.remove" ajP:=⟨fun pins s O H x xs v us Q I rx rv h=>ajQ pins s O H x xs v us Q I rx rv h⟩
noncomputable def uH (td ty tx:TE):TE:=fun O H Q=>td O H fun x H1=>∃ a,x=.ref a/\aL H1 a/\ty O H1 fun y H2=>tx O H2 fun z H3=>∃ kvs k,H3 a=some (.dK kvs)/\kvs.length<sizeLine/\y=kV k/\
 (∀ v,valV kvs k=some v->Q v H3)/\(valV kvs k=none->Q z (A0 H3 a (.dK (putK kvs k z))))
section
variable {X:Cx} {o e f:Expr} {apos cpos:Pos} {td ty tx:TE} {pins:List (Addr×Obj)} {O:St} {H:Hp} {s:Shared} {a:Addr} {A:Around} {E:Value->Shared->Prop}
theorem aqM{k:C1}{z:V}{r:Value}{Q:Value->Shared->Prop}(I:Inv X pins O H s)(e:H a=some (.dK kvs))(hl:kvs.length<sizeLine)(ry:RelV (kV k) u)(rz:RelV z r)(h1:∀ v w' s',valV kvs k=some v->Inv X pins O H s'->RelV v w'->Q w' s')(h2:∀ s',valV kvs k=none->Inv X pins O (A0 H a (.dK (putK kvs k z))) s'->Q r s') :
  wpAny (model X.prog X.w) A (call (.builtin "dict.setdefault") [.ref a,u,r]) Q E s:=by
 obtain ⟨hz,hd,vs,rel,dd⟩:=dk_of I.hok e;have A9:=rel.length;refine call_meetsIn PySem.F.slot_dict_setdefault dd.typeIs PySem.F.entry_dict_setdefault (PySem.F.args_dict_setdefault_3 _ _ _) (kt_meets_setdefault (M7 X.prog X.w) a (kV_is ry) hd r) ⟨vs,dd,by lia,fun v hv=>?_,fun hn h' hm hs=>?_⟩
 .have:=rel.val k
  rw [hv] at this;cases fJ:valV kvs k with
  | none=>rw [fJ] at this;exact this.elim
  | some x=>rw [fJ] at this;exact h1 x v _ fJ (I.tok _) this
 .have:=rel.val k
  rw [hn] at this;cases fJ:valV kvs k with
  | some x=>rw [fJ] at this;exact this.elim
  | none=>
   have O0:(putK kvs k z).length<=sizeLine:=by rw [ala z fJ,C8,R3];lia
   obtain ⟨ob,_,_,ho,_⟩:=id hm;exact h2 _ fJ (oW (t':=s.toks+1) I (by rw [e];exact trivial) hs ⟨ob,ho⟩ (oX O0 hd (rel.put k rz) hm))
theorem alJ(ho:PE X o td)(he:PE X e ty)(hf:PE X f tx)(m:M2 X o "setdefault" apos e f cpos):PE X (.Call (.Attribute o "setdefault" apos) [e,f] [] cpos) (uH td ty tx):=by
 intro pins s O H Q I h;refine wpAny_Call_method m.base m.few m.line gT PySem.F.slot_dict_setdefault PySem.F.type_dict_setdefault (B1 (ho pins s O H _ I h) fun u s1 ⟨x,H1,I1,rx,a,ex,d,q1⟩=>?_);subst ex;obtain rfl:u=Value.ref a:=rx;obtain ⟨t1,t2,_⟩:=oY I1 d;refine ⟨t1,t2,?_⟩;rw [m.trees];refine Calls.callWith_builtin rfl (Calls.evalArgs_plain (Calls.spliced_cons (B1 (he pins s1 O H1 _ I1 q1) fun iv s2 ⟨y,H2,I2,ry,q2⟩=>
  Calls.spliced_cons (B1 (hf pins s2 O H2 _ I2 q2) fun fv s3 ⟨z,H3,I3,rz,kvs,k,e3,hl,ey,q3,q4⟩=>Calls.spliced_nil ?_))))
 subst ey;exact aqM I3 e3 hl ry rz (fun v w' s4 hv I4 rw'=>⟨v,H3,I4,rw',q3 v hv⟩) fun s4 hn I4=>⟨z,_,I4,rz,q4 hn⟩
theorem alK(ho:QE X o td)(he:QE X e ty)(hf:QE X f tx)(h1:L1 e=false:=by rfl)(h2:L1 f=false:=by rfl)(E2:attributeBase o "setdefault" X.env (eval o X.env)=eval o X.env:=by rfl)(E3:(apos.endLine==cpos.line)=true:=by rfl):QE X (.Call (.Attribute o "setdefault" apos) [e,f] [] cpos) (uH td ty tx):=
 ⟨alJ ho.out he.out hf.out ⟨E2,by rw [N0 h1,N0 h2];rfl,E3,by rw [N0 h1,N0 h2];rfl⟩⟩
theorem alL:uH td ty tx O H Q=td O H fun x H1=>∃ a,x=.ref a/\aL H1 a/\ty O H1 fun y H2=>tx O H2 fun z H3=>∃ kvs k,H3 a=some (.dK kvs)/\kvs.length<sizeLine/\y=kV k/\
 (∀ v,valV kvs k=some v->Q v H3)/\(valV kvs k=none->Q z (A0 H3 a (.dK (putK kvs k z)))):=rfl
end
section
variable {X:Cx} {tg:Expr}
noncomputable def rsz (i j k:Int):Nat:=(if i<j then (j-i-1) / k+1 else 0).toNat
noncomputable def iRng3 (ta:TA):TI:=fun O H R=>ta O H fun vs H1=>∃ i j k:Int,vs=[.int i,.int j,.int k]/\(-(2 ^ 60)<=i/\i<2 ^ 60/\-(2 ^ 60)<=j/\j<2 ^ 60/\0<k/\k<1000000)/\R (Itr3 i k (rsz i j k)) H1
end
theorem alM{R:It->Hp->Prop} : iRng3 ta O H R=ta O H fun vs H1=>∃ i j k:Int,vs=[.int i,.int j,.int k]/\(-(2 ^ 60)<=i/\i<2 ^ 60/\-(2 ^ 60)<=j/\j<2 ^ 60/\0<k/\k<1000000)/\R (Itr3 i k (rsz i j k)) H1:=rfl
section
variable {X:Cx} {pins:List (Addr×Obj)} {O:St} {H:Hp} {s:Shared} {a:Addr}
theorem Inv.swap{u u':HO}(I:Inv X pins O H s)(e:H a=some u)(n1:∀ xs,u≠.tup xs)(n2:∀ x,u≠.own x)(n3:∀ ps,u≠.tbl ps)(n4:∀ o v,X.H₀ a≠some (.frz o v))(new:ObjOk X.prog X.w H s.heap a u'):Inv X pins O (A0 H a u') s:=by
 have ne:∀ b,H b=none->b≠a:=fun b h q=>by rw [q,e] at h;cases h
 have own:∀ c x,H c=some (.own x)->A0 H a u' c=some (.own x):=fun c x q=>by
  rw [A3 (fun z=>by rw [z,e] at q;exact n2 x (Option.some.inj q))];exact q
 have tup:∀ c xs,H c=some (.tup xs)->A0 H a u' c=some (.tup xs):=fun c x q=>by
  rw [A3 (fun z=>by rw [z,e] at q;exact n1 x (Option.some.inj q))];exact q
 refine ⟨I.ok,I.os,I.bare,⟨I.base.keep,I.base.slot,fun b o h1 h2 h3=>?_,I.base.there,fun b xs h=>tup b xs (I.base.tups b xs h),fun b o v h=>?_,fun b ps h=>?_⟩,I.loc,I.cell,?_,fun x c h=>?_,fun p hp=>?_,fun b v h=>?_,I.len⟩
 .have:=I.base.free b o h1 h2 h3
  rw [A3 (ne b this)];exact this
 .rw [A3 (fun z=>n4 o v (by rw [<- z];exact h))];exact I.base.frzs b o v h
 .obtain ⟨m,q⟩:=I.base.tbls b ps h;exact ⟨m,by rw [A3 (fun z=>by rw [z,e] at q;exact n3 _ (Option.some.inj q))];exact q⟩
 .rw [A3 (ne _ I.free)];exact I.free
 .rw [A3 (ne _ (I.freeC x c h))];exact I.freeC x c h
 .obtain ⟨h1,h2,h3⟩:=I.pin p hp;exact ⟨h1,by rw [A3 (ne _ h2)];exact h2,h3⟩
 .by_cases hb:b=a
  .subst hb;rw [A2] at h;cases h;exact new.stay (fun _ _ _ q=>q) (fun c q=>own c _ q) fun c xs q=>tup c xs q
  .rw [A3 hb] at h;exact (I.hok b v h).stay (fun _ _ _ q=>q) (fun c q=>own c _ q) fun c xs q=>tup c xs q
end
noncomputable def eO (a:Addr) (o:Obj) (kvs:List (C1×V)):It:=
 ⟨fun i H=>H a=some (.frz o (.dK kvs))/\i<kvs.length,fun i H x H'=>H'=H/\∃ k v,kvs[i]?=some (k,v)/\x=kV k,fun i H=>H a=some (.frz o (.dK kvs))/\kvs.length<=i⟩
theorem ajS{P:Program}{w:World}(a it:Addr)(o:Obj)(kvs:List (C1×V))(vs:List (C1×Value))(ep:Nat)(K3:∀ h:Heap,h.get? a=some o->h.DictAt (M7 P w) a vs ep)(rel:KV kvs vs):Turn P w K tg (eO a o kvs) [it] it (fun i h=>h.IsKeyIter it a i vs.length ep) where
 mem:=by simp
 obj:=fun i h st b hb=>by
  have e:b=it:=by simpa using hb
  subst e;obtain ⟨o,e,c,d⟩:=st;exact ⟨o,e,fun v z=>by rw [d] at z;cases z⟩
 keep:=fun i h h' st k=>st.at fun o e=>k it (by simp) o e
 item:=by
  intro X hP hw hK hc i pins s O H E I hf st hg;subst hP hw hK;obtain ⟨f0,f1,f2,f3,f4,f5⟩:=hf it (by simp);obtain ⟨fK,n9⟩:=hg;have hd:=K3 s.heap (I.hok a _ fK).1;have yQ:i<vs.length:=by rw [<- rel.length];exact n9
  refine wpAny_pyNext_dict_item st hd (k:=vs[i].1) (v:=vs[i].2) (by rw [G0 yQ]) fun key h' Q8 o0 dE=>?_
  have I1:Inv X pins O H { s with heap:=h' }:=I.turned (t':=s.toks) (fun b o hb e=>(dE.2 b hb).trans e) f0 f1 f3 f4 f5;obtain ⟨oi,e,c,d⟩:=id o0;have hk:kvs[i].1=vs[i].1:=by
   have:=congrArg (·[i]?) rel.keys
   simpa [n9,yQ] using this
  have rk:RelV (kV kvs[i].1) key:=by
   rw [hk];have Q8:keyIs vs[i].1 key=true:=Q8;generalize vs[i].1=kk at Q8
   rcases i6 Q8 with ⟨j,t,rfl,rfl⟩ | ⟨x,t,rfl,rfl⟩
   .exact ⟨t,rfl⟩
   .exact ⟨t,rfl⟩
  exact ⟨key,rfl,go_of (s:={ s with heap:=h' }) e c d (by decide) ⟨kV kvs[i].1,H,I1,rk,⟨rfl,kvs[i].1,kvs[i].2,by rw [G0 n9],rfl⟩,o0,fun b hb=>(hf b hb).1⟩⟩
 done:=by
  intro X hP hw hK hc i pins s O H E I hf st hg;subst hP hw hK;obtain ⟨f0,f1,f2,f3,f4,f5⟩:=hf it (by simp);obtain ⟨fK,n9⟩:=hg;have hd:=K3 s.heap (I.hok a _ fK).1;exact wpAny_pyNext_dict_end (I.ok.hd hc) st hd (by rw [oC,<- rel.length];exact n9) fun h' eb=>⟨rfl,I.turned (t':=s.toks) (fun b o hb e=>eb b o hb e) f0 f1 f3 f4 f5⟩
 self:=fun _ _ _ _ _ st h=>wpAny_pyIter_keyiter st h
noncomputable def Ends.thaw (D:Ends) (a:Addr) (kvs:List (C1×V)):Ends where
 nx:=fun O H=>(∃ o,H a=some (.frz o (.dK kvs)))/\D.nx O (A0 H a (.dK kvs))
 rt:=fun v H=>(∃ o,H a=some (.frz o (.dK kvs)))/\D.rt v (A0 H a (.dK kvs))
noncomputable def tForD (tl:TE) (g:TG) (tb:TS):TS:=fun D O H=>tl O H fun x H1=>∃ a kvs,x=.ref a/\H1 a=some (.dK kvs)/\∀ o,ForIt (eO a o kvs) g tb (D.thaw a kvs) O (A0 H1 a (.frz o (.dK kvs)))
theorem an2{l:Expr}{body:List Stmt}{pos:Pos}(hp:PassesOwn (model X.prog X.w) X.A X.env X.xe)(hc:X.calm=true)(hl:PE X l tl)(hg:PG X tg g)(hb:W2 X body tb)(hs:∀ x,foldedSetIterable l X.env x=pure x):PS X (.For tg l body [] pos) (tForD tl g tb):=by
 intro pins s O H D I h;refine wpAny_For (B1 (hl pins s O H _ I h) fun v s1 ⟨x,H1,I1,r1,q1⟩=>?_) hs;obtain ⟨a,kvs,rfl,e,q⟩:=q1
 cases r1
 obtain ⟨z,hd,vs,rel,dd⟩:=dk_of I1.hok e;obtain ⟨ep,K3⟩:=dd.dictAt;obtain ⟨o,es,ho,R7⟩:=id K3;refine wpAny_pyIter_dict hd K3 ?_;have NF:∀ o' v',X.H₀ a≠some (.frz o' v'):=fun o' v' z=>by
  have:=I1.base.frzs _ _ _ z
  rw [e] at this;cases this
 have I1':Inv X pins O H1 { s1 with heap:=s1.heap.push { cls:=.type "dict_keyiterator",data:=.fields #[.ref a,.int 0 0,.int vs.length 0,.int ep 0] } }:=I1.kept (t':=s1.toks) fun b u e=>Heap.get?_push_of_some _ e
 have I2:=I1'.swap (u':=.frz o (.dK kvs)) e (fun _ q=>by cases q) (fun _ q=>by cases q) (fun _ q=>by cases q) NF ⟨Heap.get?_push_of_some _ ho,I1'.hok a _ e⟩;have thaw:∀ {σ':St} {H':Hp} {s':Shared},Inv X pins σ' H' s'->(∃ o,H' a=some (.frz o (.dK kvs)))->Inv X pins σ' (A0 H' a (.dK kvs)) s':=fun {σ' H' s'} I' ⟨o',e'⟩=>
  I'.swap e' (fun _ q=>by cases q) (fun _ q=>by cases q) (fun _ q=>by cases q) NF (I'.hok a _ e').2
 have T:Turn X.prog X.w X.K tg (eO a o kvs) [s1.heap.objs.size] s1.heap.objs.size (fun i h=>h.IsKeyIter s1.heap.objs.size a i vs.length ep):=ajS a _ o kvs vs ep (fun h e=>⟨o,es,e,R7⟩) rel;have U3:A0 H1 a (.frz o (.dK kvs)) s1.heap.objs.size=none:=by rw [A3 (fun q=>by rw [<- q,I1.fresh] at e;cases e)];exact I1.fresh
 have f2:∀ b∈[s1.heap.objs.size],FpOk X pins (A0 H1 a (.frz o (.dK kvs))) b:=fun b hb=>by
  have e:b=s1.heap.objs.size:=by simpa using hb
  subst e;exact I1.fpOk (B5 _) U3
 obtain ⟨W,⟨m0,w0⟩,turn⟩:=q o;have stat:∀ {H':Hp},(∀ b∈[s1.heap.objs.size],H' b=none)->∀ b∈[s1.heap.objs.size],FpOk X pins H' b:=fun hn b hb=>⟨hn b hb,(f2 b hb).2⟩
 refine codeAny_forLoop_any (fun n s'=>∃ i σ' H',Inv X pins σ' H' s'/\s'.heap.IsKeyIter s1.heap.objs.size a i vs.length ep/\(∀ b∈[s1.heap.objs.size],H' b=none)/\W i n σ' H') ?_ m0 ⟨0,O,_,I2,⟨_,Heap.get?_push_size _ rfl,rfl,rfl⟩,fun b hb=>(f2 b hb).1,w0⟩;rintro n s3 ⟨i,σ3,H3,I3,dC,mI,w3⟩
 rcases turn i n σ3 H3 w3 with ⟨stop,qn⟩ | ⟨go,N,hN,step⟩
 .refine wpAny_passesOwn hp (B1 (T.done X rfl rfl rfl hc i pins s3 σ3 H3 X.xe I3 (stat mI) dC stop) fun r s4 ⟨hr,I4⟩=>?_);subst hr;exact wpAny_execs_nil ⟨σ3,_,thaw I4 qn.1,qn.2⟩
 .refine wpAny_passesOwn hp (B1 (T.item X rfl rfl rfl hc i pins s3 σ3 H3 X.xe I3 (stat mI) dC go) fun r s4 ⟨u,hr,h4⟩=>?_);subst hr;refine wpAny_passesOwn hp (B1 h4 fun _ s5 ⟨x,H5,I5,r5,y5,eZ,yC⟩=>?_);have I5':=I5.pinned (stat yC) (T.obj _ _ eZ);refine wpAny_passesOwn hp (B1 (hg _ s5 σ3 H5 x u _ I5' r5 (step x H5 y5)) fun _ s6 ⟨σ6,H6,I6,q6⟩=>?_);refine wpAny_passesOwn hp (B1 (hb _ s6 σ6 H6 _ I6 q6) fun f s7 q7=>?_);have again:∀ {σ7:St} {H7:Hp},Inv X (pins++hJ [s1.heap.objs.size] s5.heap) σ7 H7 s7->N σ7 H7->∃ m,m<n/\∃ i σ' H',Inv X pins σ' H' s7/\s7.heap.IsKeyIter s1.heap.objs.size a i vs.length ep/\(∀ b∈[s1.heap.objs.size],H' b=none)/\W i m σ' H':=fun {σ7 H7} I7 n7=>by
   obtain ⟨m',hm,w7⟩:=hN σ7 H7 n7;refine ⟨m',hm,i+1,σ7,H7,I7.unpinned,T.keep _ _ _ eZ fun b hb o e=>(I7.pin (b,o) (M0 _ (M0 _ (hW hb e)))).1,fun b hb=>?_,w7⟩;obtain ⟨o,e,d⟩:=T.obj _ _ eZ b hb;exact (I7.pin (b,o) (M0 _ (M0 _ (hW hb e)))).2.1
  cases f with
  | next=>obtain ⟨σ7,H7,I7,n7⟩:=q7;exact again I7 n7
  | cont=>obtain ⟨σ7,H7,I7,n7⟩:=q7;exact again I7 n7
  | brk=>obtain ⟨σ7,H7,I7,q7⟩:=q7;exact ⟨σ7,_,thaw I7.unpinned q7.1,q7.2⟩
  | ret v=>obtain ⟨x7,σ7,H7,I7,r7,q7⟩:=q7;exact ⟨x7,σ7,_,thaw I7.unpinned q7.1,r7,q7.2⟩
theorem uI{l:Expr}{body:List Stmt}{pos:Pos}(hp:PassesOwn (model X.prog X.w) X.A X.env X.xe)(hl:QE X l tl)(hg:QG X tg g)(hb:QSs X body tb)(hc:X.calm=true:=by rfl)(hs:∀ x,foldedSetIterable l X.env x=pure x:=by intro _;rfl):QS X (.For tg l body [] pos) (tForD tl g tb):=⟨an2 hp hc hl.out hg.out hb.out hs⟩
theorem an3 : tForD tl g tb D O H=tl O H fun x H1=>∃ a kvs,x=.ref a/\H1 a=some (.dK kvs)/\∀ o,ForIt (eO a o kvs) g tb (D.thaw a kvs) O (A0 H1 a (.frz o (.dK kvs))):=rfl
theorem forD{o:Obj}(Pv:Nat->St->Hp->Prop)(h0:Pv 0 O H)(hl:∀ i O H,Pv i O H->H a=some (.frz o (.dK kvs)))(hs:∀ i k v O H,kvs[i]?=some (k,v)->Pv i O H->g (kV k) O H fun σ2 H2=>tb { D.thaw a kvs with nx:=Pv (i+1),ct:=Pv (i+1),bk:=(D.thaw a kvs).nx } σ2 H2)(hd:∀ O H,Pv kvs.length O H->D.nx O (A0 H a (.dK kvs))):ForIt (eO a o kvs) g tb (D.thaw a kvs) O H:=by
 refine ⟨fun i m O H=>m=kvs.length-i/\i<=kvs.length/\Pv i O H,⟨kvs.length,by simp,F7 _,h0⟩,?_⟩;rintro i m O H ⟨rfl,hi,p⟩;have e:=hl i O H p
 by_cases C4:i<kvs.length
 .refine .inr ⟨⟨e,C4⟩,Pv (i+1),fun σ' H' p'=>⟨_,by lia,rfl,C4,p'⟩,fun v H' y=>?_⟩;obtain ⟨rfl,k,v',hk,rfl⟩:=y;exact hs i k v' O _ hk p
 .have e2:i=kvs.length:=by lia
  subst e2;exact .inl ⟨⟨e,B5 _⟩,⟨o,e⟩,hd O H p⟩
end L2
set_option maxRecDepth 100000
namespace L2
open PySem PySem.Spec PyProof.Rows
noncomputable def U4 (row:List Str):List (Str×Str):=row.zip row.tail
noncomputable def edges (rows:List (List Str)):List (Str×Str):=rows.flatMap U4
noncomputable def E9 (E:List (Str×Str)) (p:Str):List Str:=(E.filter fun e=>decide (e.1=p)).map (·.2)
noncomputable def G1 (E:List (Str×Str)) (line:List Str) (q:Str):Nat:=E.countP fun e=>decide (e.2=q) && !decide (e.1∈line)
noncomputable def cntIn (E:List (Str×Str)) (S:List Str) (q:Str):Nat:=E.countP fun e=>decide (e.2=q)&&decide (e.1∈S)
theorem alN(E:List (Str×Str))(a b p:Str):E9 (E++[(a,b)]) p=if a=p then E9 E p++[b] else E9 E p:=by
 unfold E9;rw [q0,D6]
 by_cases h:a=p
 .rw [if_pos h,bQ (by simpa using h)];rfl
 .rw [if_neg h,aA (by simpa using h)];simp
theorem agq(E:List (Str×Str))(p q:Str):(E9 E p).count q=E.countP fun e=>decide (e.2=q)&&decide (e.1=p):=by
 induction E with
 | nil=>rfl
 | cons e E ih=>
  unfold E9 at ih ⊢
  by_cases h:e.1=p
  .rw [bQ (by simpa using h),K5,List.count_cons,ih,bR]
   by_cases h2:e.2=q
   .simp [h,h2]
   .simp [h,h2]
  .rw [aA (by simpa using h),ih,bR];simp [h]
theorem aiC{E:List (Str×Str)}{p:Str}(h:p∉S):cntIn E (S++[p]) q=cntIn E S q+(E9 E p).count q:=by
 rw [agq];unfold cntIn
 induction E with
 | nil=>rfl
 | cons e E ih=>
  rw [bR,bR,bR,ih]
  by_cases h2:e.2=q
  .by_cases h1:e.1=p
   .have:e.1∉S:=by rw [h1];exact h
    simp [h2,h1,h];lia
   .by_cases h3:e.1∈S
    .simp [h2,h1,h3];lia
    .simp [h2,h1,h3]
  .simp [h2]
theorem ahZ{E:List (Str×Str)}{p:Str}(h:p∉line):G1 E line q=G1 E (line++[p]) q+(E9 E p).count q:=by
 rw [agq];unfold G1
 induction E with
 | nil=>rfl
 | cons e E ih=>
  rw [bR,bR,bR,ih]
  by_cases h2:e.2=q
  .by_cases h1:e.1=p
   .simp [h2,h1,h];lia
   .by_cases h3:e.1∈line
    .simp [h2,h1,h3]
    .simp [h2,h1,h3];lia
  .simp [h2]
theorem ajT{E:List (Str×Str)}(h:∀ e∈E,e.1∈S)(q:Str):cntIn E S q=G1 E [] q:=by
 unfold cntIn G1;refine List.countP_congr fun e he=>?_
 simp [h e he]
theorem ajU(E:List (Str×Str))(q:Str):cntIn E [] q=0:=by
 unfold cntIn
 simp
theorem cnt_zero{E:List (Str×Str)} : G1 E line q=0↔∀ e∈E,e.2=q->e.1∈line:=by
 unfold G1;rw [List.countP_eq_zero]
 constructor
 .intro h e he h2
  have:=h e he
  simpa [h2] using this
 .intro h e he
  by_cases h2:e.2=q
  .simp [h2,h e he h2]
  .simp [h2]
noncomputable def nextP (E:List (Str×Str)) (ts pre:List Str):Option Str:=(ts.filter fun p=>!decide (p∈pre)).find? fun p=>decide (G1 E pre p=0)
noncomputable def T8 (E:List (Str×Str)) (ts line:List Str):Prop:=∀ pre q post,line=pre++q::post->nextP E ts pre=some q
theorem T8.nil(E:List (Str×Str))(ts:List Str):T8 E ts []:=fun pre q post h=>by
 have:=congrArg i0 h
 simp at this
theorem T8.snoc{E:List (Str×Str)}{p:Str}(r:T8 E ts line)(h:nextP E ts line=some p):T8 E ts (line++[p]):=fun pre q post e=>by
 rcases List.append_eq_append_iff.mp e with ⟨m,h1,h2⟩ | ⟨m,h1,h2⟩
 .cases m with
  | nil=>
   rw [N3] at h1;rw [bS] at h2
   cases (X8.inj h2).1
   rw [h1];exact h
  | cons a m=>
   have:=congrArg i0 h2
   simp at this
 .cases m with
  | nil=>
   rw [N3] at h1;rw [bS] at h2
   cases (X8.inj h2).1
   rw [<- h1];exact h
  | cons a m=>
   rw [dU] at h2;have h3:=(X8.inj h2).1;exact r pre q m (by rw [h1,h3])
theorem iL{E:List (Str×Str)}{pre:List Str}(h:nextP E ts pre=some q):q∈ts/\q∉pre/\G1 E pre q=0:=by
 have h1:=List.mem_of_find?_eq_some h;have h2:=List.find?_some h;rw [W0] at h1;exact ⟨h1.1,by simpa using h1.2,by simpa using h2⟩
theorem T8.nodup{E:List (Str×Str)} : ∀ {line:List Str},T8 E ts line->line.Nodup:=by
 intro line r;rw [p8,bO];intro i j hi hj P0 e;have e1:line=line.take j++line[j]::line.drop (j+1):=by rw [<- gG hj,j9]
 have:=(iL (r _ _ _ e1)).2.1
 exact this (X7.mpr ⟨i,by rw [L0];lia,by rw [List.getElem_take];exact e⟩)
theorem T8.sub{E:List (Str×Str)}(r:T8 E ts line)(h:q∈line):q∈ts:=by
 obtain ⟨pre,post,e⟩:=List.append_of_mem h;exact (iL (r pre q post e)).1
theorem alO{E:List (Str×Str)}{rank:Str->Nat}(hr:∀ e∈E,rank e.1<rank e.2)(hE:∀ e∈E,e.1∈ts)(hw:∃ p∈ts,p∉line):∃ q,nextP E ts line=some q:=by
 have key:∀ n p,rank p<=n->p∈ts->p∉line->∃ q∈ts,q∉line/\G1 E line q=0:=by
  intro n
  induction n with
  | zero=>
   intro p hp ht hl;refine ⟨p,ht,hl,cnt_zero.mpr fun e he h2=>?_⟩
   have:=hr e he
   rw [h2] at this;lia
  | succ n ih=>
   intro p hp ht hl
   by_cases hc:G1 E line p=0
   .exact ⟨p,ht,hl,hc⟩
   .have:∃ e∈E,e.2=p/\e.1∉line:=by
     refine Classical.byContradiction fun hn=>hc (cnt_zero.mpr fun e he h2=>Classical.byContradiction fun h3=>hn ⟨e,he,h2,h3⟩)
    obtain ⟨e,he,h2,h3⟩:=this;have h4:=hr e he;rw [h2] at h4;exact ih e.1 (by lia) (hE e he) h3
 obtain ⟨p,hp,hl⟩:=hw;obtain ⟨q,h1,h2,h3⟩:=key (rank p) p (B5 _) hp hl;cases h:nextP E ts line with
 | some q=>exact ⟨q,rfl⟩
 | none=>
  have:=List.find?_eq_none.mp h q (W0.mpr ⟨h1,by simpa using h2⟩)
  simp [h3] at this
theorem pV{E:List (Str×Str)}(nd:ts.Nodup)(r:T8 E ts line)(h:∀ p∈ts,p∈line):line.length=ts.length:=
 ((List.perm_ext_iff_of_nodup r.nodup nd).mpr fun a=>⟨r.sub,h a⟩).length_eq
theorem ae2(E:List (Str×Str))(pre:List Str):∀ ts:List Str,nextP E ts pre=ts.find? fun p=>!decide (p∈pre)&&decide (∀ e∈E,e.2=p->e.1∈pre)
 | []=>rfl
 | t::ts=>by
  have ih:=ae2 E pre ts;unfold nextP at ih ⊢
  by_cases h:t∈pre
  .rw [aA (by simpa using h),r8,ih];simp [h]
  .rw [bQ (by simpa using h),r8,r8,ih]
   by_cases h2:G1 E pre t=0
   .have:=cnt_zero.mp h2
    rw [decide_eq_true h2,decide_eq_true this];simp [h]
   .have:¬ ∀ e∈E,e.2=t->e.1∈pre:=fun z=>h2 (cnt_zero.mpr z)
    rw [decide_eq_false h2,decide_eq_false this];simp [h]
theorem aiD{row:List Str}{e:Str×Str}(h:e∈U4 row):e.1∈row/\e.2∈row:=by
 unfold U4 at h;exact ⟨(List.of_mem_zip h).1,List.mem_of_mem_tail (List.of_mem_zip h).2⟩
theorem agr{rows:List (List Str)}{e:Str×Str}(h:e∈edges rows):e.1∈rows.flatten/\e.2∈rows.flatten:=by
 unfold edges at h;obtain ⟨row,h1,h2⟩:=g8.mp h
 have:=aiD h2
 exact ⟨List.mem_flatten.mpr ⟨row,h1,this.1⟩,List.mem_flatten.mpr ⟨row,h1,this.2⟩⟩
noncomputable def A8 (ts:List Str) (f:Str->V):List (C1×V):=ts.map fun t=>(Sum.inr t,f t)
theorem uJ(f:Str->V)(z:Str):∀ ts:List Str,((A8 ts f).any fun kv=>decide (kv.1=(Sum.inr z:C1)))=decide (z∈ts)
 | []=>by simp [A8]
 | y::ts=>by
  have ih:=uJ f z ts;unfold A8 at ih ⊢
  rw [K5,t7,ih]
  by_cases e:y=z
  .subst e
   simp
  .have e1:decide ((Sum.inr y:C1)=Sum.inr z)=false:=decide_eq_false fun q=>e (Sum.inr.inj q)
   rw [e1,Bool.false_or]
   by_cases h:z∈ts
   .rw [decide_eq_true h,decide_eq_true (M3 _ h)]
   .rw [decide_eq_false h,decide_eq_false];intro q
    rcases E4.mp q with q | q
    .exact e q.symm
    .exact h q
theorem N8(f:Str->V)(z:Str):∀ ts:List Str,valV (A8 ts f) (Sum.inr z)=if z∈ts then some (f z) else none
 | []=>rfl
 | y::ts=>by
  have ih:=N8 f z ts;unfold A8 at ih ⊢
  rw [K5]
  by_cases e:y=z
  .subst e;rw [oV rfl,if_pos L5]
  .rw [aK (fun q=>e (Sum.inr.inj q)),ih]
   by_cases h:z∈ts
   .rw [if_pos h,if_pos (M3 _ h)]
   .rw [if_neg h,if_neg];intro q
    rcases E4.mp q with q | q
    .exact e q.symm
    .exact h q
theorem pW{f:Str->V}(v:V)(h:z∈ts):putK (A8 ts f) (Sum.inr z:C1) v=A8 ts fun t=>if t=z then v else f t:=by
 unfold putK;rw [uJ,decide_eq_true h,if_pos rfl];unfold A8;rw [g9];refine gJ fun y _=>?_
 show (if (Sum.inr y:C1)=Sum.inr z then ((Sum.inr y:C1),v) else (Sum.inr y,f y))=((Sum.inr y:C1),if y=z then v else f y)
 by_cases e:y=z
 .rw [if_pos (by rw [e]),if_pos e]
 .rw [if_neg (fun q=>e (Sum.inr.inj q)),if_neg e]
theorem cJ{f:Str->V}(v:V)(h:z∉ts):putK (A8 ts f) (Sum.inr z:C1) v=A8 (ts++[z]) fun t=>if t=z then v else f t:=by
 unfold putK;rw [uJ,decide_eq_false h,if_neg L3];unfold A8;rw [D6]
 congr 1
 .refine gJ fun y hy=>?_
  show _=((Sum.inr y:C1),if y=z then v else f y);rw [if_neg (fun e:y=z=>h (by rw [<- e];exact hy))]
 .simp
theorem U5{f g:Str->V}(h:∀ t∈ts,f t=g t):A8 ts f=A8 ts g:=by
 unfold A8;exact gJ fun t ht=>by rw [h t ht]
theorem Q7(f:Str->V)(ts:List Str):(A8 ts f).length=ts.length:=by unfold A8;rw [A4]
theorem pX{f:Str->V}{k:C1}{v:V}(h:(A8 ts f)[i]?=some (k,v)):∃ t,ts[i]?=some t/\k=Sum.inr t/\v=f t:=by
 unfold A8 at h;obtain ⟨t,h1,h2⟩:=G9 h;cases h2;exact ⟨t,h1,rfl,rfl⟩
theorem ah1(f:Str->V)(ts:List Str):((A8 ts f).map fun kv=>kV kv.1)=ts.map V.str:=by
 unfold A8;rw [g9];rfl
structure DL(H0 H:Hp)(ts:List Str)(ad:Str->Addr)(F:Str->List Str):Prop where
 row:∀ t∈ts,H (ad t)=some (.lst ((F t).map V.str))
 inj:∀ t∈ts,∀ u∈ts,ad t=ad u->t=u
 new:∀ t∈ts,H0 (ad t)=none
theorem DL.same{ad:Str->Addr}{F:Str->List Str}(x:DL H0 H ts ad F)(s:Same H H'):DL H0 H' ts ad F:=⟨fun t h=>s _ _ (x.row t h),x.inj,x.new⟩
theorem DL.app{ad:Str->Addr}{F:Str->List Str}(x:DL H0 H ts ad F)(hz:z∈ts)(ys:List Str):DL H0 (A0 H (ad z) (.lst (ys.map V.str))) ts ad fun t=>if t=z then ys else F t:=by
 refine ⟨fun t ht=>?_,x.inj,x.new⟩;show _=some (HO.lst ((if t=z then ys else F t).map V.str))
 by_cases e:t=z
 .subst e;rw [A2,if_pos rfl]
 .rw [A3 (fun q=>e (x.inj t ht z hz q)),if_neg e];exact x.row t ht
theorem DL.more{ad:Str->Addr}{F:Str->List Str}(x:DL H0 H ts ad F)(hz:z∉ts)(np:H p=none)(n0:H0 p=none):DL H0 (A0 H p (.lst [])) (ts++[z]) (fun t=>if t=z then p else ad t) fun t=>if t=z then [] else F t:=by
 have ne:∀ t∈ts,t≠z:=fun t ht e=>hz (by rw [<- e];exact ht)
 have nad:∀ t∈ts,ad t≠p:=fun t ht e=>by have:=x.row t ht;rw [e,np] at this;cases this
 have cases':∀ t,t∈ts++[z]->(t∈ts/\t≠z)\/t=z:=fun t ht=>by
  rcases D4.mp ht with h | h
  .exact .inl ⟨h,ne t h⟩
  .exact .inr (D1.mp h)
 refine ⟨fun t ht=>?_,fun t ht u hu e=>?_,fun t ht=>?_⟩
 .show A0 H p (.lst []) (if t=z then p else ad t)=some (.lst ((if t=z then [] else F t).map V.str))
  rcases cases' t ht with ⟨h1,h2⟩ | rfl
  .rw [if_neg h2,if_neg h2,A3 (nad t h1)];exact x.row t h1
  .rw [if_pos rfl,if_pos rfl,A2];rfl
 .have e:(if t=z then p else ad t)=(if u=z then p else ad u):=e
  rcases cases' t ht with ⟨h1,h2⟩ | rfl <;> rcases cases' u hu with ⟨h3,h4⟩ | rfl
  .rw [if_neg h2,if_neg h4] at e;exact x.inj t h1 u h3 e
  .rw [if_neg h2,if_pos rfl] at e;exact absurd e (nad t h1)
  .rw [if_pos rfl,if_neg h4] at e;exact absurd e.symm (nad u h3)
  .rfl
 .show H0 (if t=z then p else ad t)=none
  rcases cases' t ht with ⟨h1,h2⟩ | rfl
  .rw [if_neg h2];exact x.new t h1
  .rw [if_pos rfl];exact n0
theorem alP(h:acc.Nodup)(z:Str):(dd acc z).Nodup:=by
 unfold dd
 split
 .exact h
 .rename_i hz
  rw [Z5];refine ⟨h,by simp,fun a ha b hb e=>hz ?_⟩;rw [<- D1.mp hb,<- e];exact ha
theorem uK:∀ {zs acc:List Str},acc.Nodup->(G8 acc zs).Nodup
 | [],_,h=>h
 | z::zs,acc,h=>uK (zs:=zs) (alP h z)
theorem iM(zss:List (List Str)):(toldL zss).Nodup:=by
 unfold toldL;rw [pJ];exact uK (by simp)
theorem v7(x:Str):∀ (zs acc:List Str),x∈G8 acc zs↔x∈acc\/x∈zs
 | [],acc=>by simp [G8]
 | z::zs,acc=>by
  show x∈G8 (dd acc z) zs↔_;rw [v7 x zs];unfold dd
  by_cases h:z∈acc
  .rw [if_pos h,E4]
   constructor
   .rintro (h1 | h1)
    .exact .inl h1
    .exact .inr (.inr h1)
   .rintro (h1 | rfl | h1)
    .exact .inl h1
    .exact .inl h
    .exact .inr h1
  .rw [if_neg h,D4,D1,E4,or_assoc]
theorem uL(x:Str)(zss:List (List Str)):x∈toldL zss↔x∈zss.flatten:=by
 unfold toldL;rw [pJ,v7]
 simp
theorem aiE{zss:List (List Str)}{e:Str×Str}(h:e∈edges zss):e.1∈toldL zss/\e.2∈toldL zss:=⟨(uL _ _).mpr (agr h).1,(uL _ _).mpr (agr h).2⟩
theorem aiF{zss:List (List Str)}(h:zss[i]?=some zs):edges (zss.take (i+1))=edges (zss.take i)++U4 zs:=by
 rw [g6,h];unfold edges;rw [Z4]
 simp
theorem uM(zs:List Str):(U4 zs).length=min zs.length zs.tail.length:=by unfold U4;rw [List.length_zip]
theorem ags(h1:zs[j]?=some x)(h2:zs.tail[j]?=some y):(U4 zs)[j]?=some (x,y):=by
 unfold U4;rw [List.getElem?_zip_eq_some];exact ⟨h1,h2⟩
theorem agt(zss:List (List Str)):(edges zss).length<=zss.flatten.length:=by
 induction zss with
 | nil=>exact B5 _
 | cons zs zss ih=>
  unfold edges at ih ⊢
  rw [g7,C8,gO,C8,uM];lia
theorem DL.put{ad:Str->Addr}{F:Str->List Str}(x:DL H0 H ts ad F){o u:HO}(hb:H0 b=some u):DL H0 (A0 H b o) ts ad F:=
 ⟨fun t ht=>by rw [A3 (fun e=>by have:=x.new t ht;rw [e,hb] at this;cases this)];exact x.row t ht,x.inj,x.new⟩
theorem DL.congr{ad:Str->Addr}{F G:Str->List Str}(x:DL H0 H ts ad F)(h:∀ t∈ts,F t=G t):DL H0 H ts ad G:=⟨fun t ht=>by rw [<- h t ht];exact x.row t ht,x.inj,x.new⟩
theorem DL.old{H00:Hp}{ad:Str->Addr}{F:Str->List Str}(x:DL H0 H ts ad F)(s:Same H00 H0):DL H00 H ts ad F:=⟨x.row,x.inj,fun t ht=>s.free (x.new t ht)⟩
theorem uN(nd:ts.Nodup)(h:ts[i]?=some z):z∉ts.take i:=fun hm=>by
 obtain ⟨hi,e⟩:=F6.mp h;obtain ⟨j,hj,e2⟩:=X7.mp hm;rw [L0] at hj;rw [List.getElem_take] at e2
 have:=(p8.mp nd)
 rw [bO] at this;exact this j i (by lia) hi (by lia) (e2.trans e.symm)
theorem J7{α:Type}{ts:List α}{z:α}(h:ts[i]?=some z):ts.take (i+1)=ts.take i++[z]:=by rw [g6,h];rfl
noncomputable def SameBut (d:Addr) (H H':Hp):Prop:=∀ b o,b≠d->H b=some o->H' b=some o
theorem SameBut.put{d q:Addr}{u:HO}(s:SameBut d H0 H)(n:H0 q=none):SameBut d H0 (A0 H q u):=fun b o hb h=>by rw [A3 (aH h n)];exact s b o hb h
theorem SameBut.thaw{d:Addr}{u:HO}(s:SameBut d H0 H)(h:H0 d=some u):Same H0 (A0 H d u):=fun b o hb=>by
 by_cases e:b=d
 .subst e;rw [A2,<- hb,h]
 .rw [A3 e];exact s b o e hb
theorem RowsAt.grow{q:Addr}{zss:List (List Str)}(R:RowsAt H0 H a rs zss)(S:Same H H')(hq:H q=none)(aW:H' q=some (.lst (zs.map V.str))):RowsAt H0 (A0 H' a (.lst (rs.map V.ref++[V.ref q]))) a (rs++[q]) (zss++[zs]):=by
 have nq:∀ r∈a::rs,r≠q:=fun r hr z=>by
  obtain ⟨o,e⟩:=R.live hr;rw [z,hq] at e;cases e
 obtain ⟨na,_⟩:=V2.mp R.nd;refine ⟨⟨by rw [A2,D6];rfl,?_⟩,?_,?_,?_⟩
 .refine Paired.snoc (eG R.rows.row fun r hr zs h=>?_) ?_
  .rw [A3 (fun z:r=a=>na (by rw [<- z];exact hr))];exact S _ _ h
  .rw [A3 (nq a L5).symm];exact aW
 .show (a::(rs++[q])).Nodup;exact iF R.nd fun h=>nq q h rfl
 .intro r hr
  rcases E4.mp hr with h | h
  .exact R.new r (by rw [h];exact L5)
  .rcases D4.mp h with h | h
   .exact R.new r (M3 _ h)
   .rw [D1.mp h];exact R.same.free hq
 .exact (R.same.trans S).put (R.new a L5)
noncomputable def spFol:Sp:=fun vs H Q _=>∃ (a:Addr) (rs:List Addr) (zss:List (List Str)),vs=[.ref a]/\IsRows H a rs zss/\zss.flatten.length<=100000/\
 ∀ (d:Addr) (ad:Str->Addr) (H':Hp),H d=none->Same H H'->H' d=some (.dK (A8 (toldL zss) fun t=>.ref (ad t)))->DL H H' (toldL zss) ad (E9 (edges zss))->Q (.ref d) H'
noncomputable def ajV:Sp:=fun vs H Q _=>∃ (d:Addr) (ts:List Str) (ad:Str->Addr) (E:List (Str×Str)),vs=[.ref d]/\H d=some (.dK (A8 ts fun t=>.ref (ad t)))/\ts.Nodup/\ts.length<=100000/\E.length<=100000/\
 (∀ t∈ts,H (ad t)=some (.lst ((E9 E t).map V.str)))/\(∀ e∈E,e.1∈ts/\e.2∈ts)/\∀ c H',H c=none->Same H H'->H' c=some (.dK (A8 ts fun t=>.int (G1 E [] t:Nat)))->Q (.ref c) H'
theorem agu:∀ {l m:List Str},l.Nodup->(∀ x∈l,x∈m)->l.length<=m.length
 | [],_,_,_=>F7 _
 | x::l,m,nd,h=>by
  obtain ⟨n1,n2⟩:=V2.mp nd;have hx:=h x L5
  have:=agu (l:=l) (m:=m.erase x) n2 fun y hy=>(List.mem_erase_of_ne (fun e=>n1 (by rw [<- e];exact hy))).mpr (h y (M3 _ hy))
  rw [oF hx] at this;have fL:=List.length_pos_of_mem hx;rw [G6];lia
noncomputable def ajW:Sp:=fun vs H Q _=>∃ (a:Addr) (rs:List Addr) (zss:List (List Str)) (rank:Str->Nat),vs=[.ref a]/\IsRows H a rs zss/\zss.flatten.length<=100000/\(∀ e∈edges zss,rank e.1<rank e.2)/\
 ∀ (l:Addr) (line:List Str) (H':Hp),H l=none->Same H H'->H' l=some (.lst (line.map V.str))->T8 (edges zss) (toldL zss) line->(∀ p∈toldL zss,p∈line)->Q (.ref l) H'
theorem SameBut.free{d:Addr}(s:SameBut d H0 H)(n:H p=none)(h:p≠d):H0 p=none:=by
 cases e:H0 p with
 | none=>rfl
 | some o=>
  have:=s p o h e
  rw [n] at this;cases this
theorem SameBut.same{d:Addr}(s:SameBut d H1 H2)(S:Same H H1)(n:H d=none):Same H H2:=fun b o h=>s b o (aH h n) (S b o h)
theorem SameBut.refl(d:Addr)(H:Hp):SameBut d H H:=fun _ _ _ h=>h
theorem SameBut.at{d:Addr}{o:HO}(s:SameBut d H H'):SameBut d H (A0 H' d o):=fun b u hb h=>by rw [A3 hb];exact s b u hb h
noncomputable def one (c:Nat):Str:=⟨#[c]⟩
noncomputable def two (c d:Nat):Str:=⟨#[c,d]⟩
end L2
set_option maxRecDepth 100000
namespace L2
open PySem PySem.Spec PyProof.Rows
section
variable {X:Cx}
noncomputable def rAnyB (calm:Bool):List V->Hp->VK->Prop
 | [.ref p],H,Q=>∃ bs:List Bool,calm=true/\H p=some (.lst (bs.map V.bl))/\Q (.bl (bs.any id)) H
 | _,_,_=>False
theorem p_any:CallR X (.builtin "any") (rAnyB X.calm):=by
 intro pins s O H xs us Q I r h
 match xs,h with
 | [.ref p],⟨bs,hc,hp,q⟩=>
  obtain ⟨u,rfl,rx⟩:=vals1 r
  cases rx
  obtain ⟨z,its,n,rv,hl,e⟩:=I.lstM hp;have pl:s.heap.IsList p its.toArray:=⟨_,e,rfl,n,rfl⟩
  refine call_any_walk (wpAny_pyIter_list pl ?_);have N4:p≠s.heap.objs.size:=I0 (Heap.lt_size e);have hk:∀ b o,s.heap.get? b=some o->(s.heap.push { cls:=.type "list_iterator",data:=.fields #[.ref p,.int 0 0] }).get? b=some o:=fun b o q=>Heap.get?_push_of_some _ q
  refine ⟨_,_,_,_,_,_,fun i=>(bs[i]?).getD false,rfl,Walks.list (show X.A.in1.handled=none from I.ok.hd hc) s.heap.objs.size p N4 its.toArray,⟨⟨_,Heap.get?_push_size _ rfl,rfl,rfl⟩,pl.at fun o q=>hk p o q⟩,?_,?_⟩
  .intro i v s' Q' E' hv hq;have rL:its[i]?=some v:=by simpa using hv
   have hb:∃ b,bs[i]?=some b/\v=.bool b:=by
    cases eb:(bs.map V.bl)[i]? with
    | none=>
     have:=rv.none_of eb
     rw [rL] at this
     cases this
    | some y=>
     obtain ⟨u,h1,h2⟩:=rv.get eb;rw [rL] at h1;cases h1;rw [O1] at eb;cases e3:bs[i]? with
     | none=>rw [e3] at eb;cases eb
     | some b=>
      rw [e3] at eb;cases eb;exact ⟨b,rfl,h2⟩
   obtain ⟨b,e1,rfl⟩:=hb;have hq:Q' ((bs[i]?).getD false) s':=hq;rw [e1] at hq;exact wpAny_truthy_bool hq
  .intro h' tk mT;have e1:(P1 its.toArray.size).any (fun i=>(bs[i]?).getD false)=bs.any id:=by
    have A9:its.toArray.size=bs.length:=by
     rw [E7,<- hl,A4]
    rw [A9,Bool.eq_iff_iff,List.any_eq_true,List.any_eq_true]
    constructor
    .rintro ⟨i,hi,hb⟩;rw [s0] at hi;rw [G0 hi,Option.getD_some] at hb;exact ⟨bs[i],gP hi,hb⟩
    .rintro ⟨b,hb,ht⟩;obtain ⟨i,hi,rfl⟩:=X7.mp hb;exact ⟨i,s0.mpr hi,by rw [G0 hi];exact ht⟩
   rw [e1];have I1:Inv X pins O H { s with heap:=h',toks:=tk }:=I.kept fun b o q=>mT b o (by
    intro hm
    have:b=s.heap.objs.size:=by simpa using hm
    rw [this] at q;exact absurd (Heap.lt_size q) (k5 _)) (hk b o q)
   exact ⟨.bl _,H,I1,rfl,q⟩
theorem q_any(mN:X.calm=calm:=by rfl):QCall X (.builtin "any") (rAnyB calm):=by subst mN;exact ⟨p_any⟩
theorem any_r{cm:Bool} : rAnyB cm [.ref p] H Q=∃ bs:List Bool,cm=true/\H p=some (.lst (bs.map V.bl))/\Q (.bl (bs.any id)) H:=rfl
end
noncomputable def lE (l : Addr) : It :=
  ⟨fun i H => ∃ xs x, H l = some (.lst xs) /\ xs[i]? = some x,
   fun i H v H' => ∃ t xs x, H l = some (.lst xs) /\ xs[i]? = some x /\ H t = none /\ v = .ref t /\ H' = A0 H t (.tup [.int i, x]),
   fun i H => ∃ xs, H l = some (.lst xs) /\ xs.length <= i⟩
theorem ajX{P:Program}{w:World}{pos:Pos}(e it l:Addr)(N4:e≠it) :
  Turn P w K (.Tuple elts x1 pos) (lE l) [e,it] e (fun i h=>(∃ old,IsEnum h e it ((i:Nat):Int) old)/\h.IsListIter it l i) where
 mem:=by simp
 obj:=fun i h ⟨⟨old,he⟩,hi⟩ c hc=>by
  have q:c=e\/c=it:=by simpa using hc
  rcases q with rfl | rfl
  .exact ⟨_,he,fun v q=>by cases q⟩
  .obtain ⟨o,e,c,d⟩:=hi;exact ⟨o,e,fun v z=>by rw [d] at z;cases z⟩
 keep:=fun i h h' ⟨⟨old,he⟩,hi⟩ k=>⟨⟨old,k e (by simp) _ he⟩,hi.at fun o q=>k it (by simp) o q⟩
 item:=by
  intro X hP hw hK hc i pins s O H E I hf ⟨⟨old,he⟩,hi⟩ hg;subst hP hw hK;obtain ⟨xs,x,e1,hx⟩:=hg;obtain ⟨its1,Y7,p1,_⟩:=I.list (C7.of (K:=X.K) e1);obtain ⟨u1,C5,r1⟩:=Y7.get hx;refine wpAny_pyNext_enum_item he hi p1.isList (x:=u1) (by simpa using C5) N4 fun h' b1 b2 b3 b4 b5=>⟨_,rfl,wpAny_letOwnedTupleGo_enum b1 fun h2' c1 c2=>?_⟩
  have dF:e<s.heap.objs.size:=Heap.lt_size he;have up:∀ c o,c≠e->h'.get? c=some o->h2'.get? c=some o:=fun c o hc q=>(c2.2 c hc).trans q
  have hT:=up _ _ (i3 dF) b3;have nT:∀ c∈[e,it],c≠s.heap.objs.size:=fun c hc=>by
   have q:c=e\/c=it:=by simpa using hc
   refine I0 ?_
   rcases q with rfl | rfl
   .exact dF
   .obtain ⟨o,q,_⟩:=hi;exact Heap.lt_size q
  refine ⟨.ref s.heap.objs.size,A0 H s.heap.objs.size (.tup [.int i,x]),I.turnNew (t':=s.toks+1) (ch:=[e,it]) hf (fun c u hc q=>?_) (B5 _) ⟨by show 2<=sizeLine;decide,[.int i s.toks,u1],.cons ⟨_,rfl⟩ (.cons r1 .nil),?_⟩,rfl,⟨_,xs,x,e1,hx,I.fresh,rfl,rfl⟩,
   ⟨⟨_,c1⟩,b2.at fun o q=>up _ o N4.symm q⟩,fun c hc=>by rw [A3 (nT c hc)];exact (hf c hc).1⟩
  .have q1:c≠e/\c≠it:=⟨fun q=>hc (by simp [q]),fun q=>hc (by simp [q])⟩
   exact up c u q1.1 (b5 c u q1.1 q1.2 q)
  .exact ⟨_,hT,rfl,_,rfl⟩
 done:=by
  intro X hP hw hK hc i pins s O H E I hf ⟨⟨old,he⟩,hi⟩ hg;subst hP hw hK;obtain ⟨xs,e1,fH⟩:=hg;obtain ⟨its1,Y7,p1,_⟩:=I.list (C7.of (K:=X.K) e1);have q1:=Y7.length;obtain ⟨f0,f1,f2,f3,f4,f5⟩:=hf it (by simp);exact wpAny_pyNext_enum_end (I.ok.hd hc) he hi p1.isList (by simp;lia) fun h' eb=>⟨rfl,I.turned (t':=s.toks) (fun b o hb q=>eb b o hb q) f0 f1 f3 f4 f5⟩
 self:=fun _ _ _ _ _ st h=>by
  obtain ⟨⟨old,he⟩,_⟩:=st;exact wpAny_pyIter_enum he h
section
variable {X:Cx}
noncomputable def iEnum (ta:TA):TI:=fun O H R=>ta O H fun vs H1=>∃ (l:Addr) (xs:List V),vs=[.ref l]/\H1 l=some (.lst xs)/\R (lE l) H1
theorem an4{a:Expr}{p pos:Pos}(hg:Gl X "enumerate")(hm:X.mg "enumerate"=none)(ha:PA X [a] ta)(h1:L1 a=false:=by rfl) :
  PI X (.Tuple elts x1 tpos) (.Call (.Name "enumerate" p) [a] [] pos) (iEnum ta):=by
 intro pins s O H R I h;refine Call_ (bX I hg hm boot_enumerate (PyProof.Rows.callWith_type1 (B1 (ha pos pins s O H _ I h) fun us s1 ⟨vs,H1,I1,r1,q1⟩=>?_) (N0 h1) rfl));obtain ⟨l,xs,rfl,e1,q⟩:=q1;obtain ⟨u1,rfl,fI⟩:=vals1 r1
 cases fI
 obtain ⟨its1,Y7,p1,_⟩:=I1.list (C7.of (K:=X.K) e1);refine call_enumerate_list p1.isList fun h' z1 z2 z3 z4=>wpAny_pyIter_enum z1 ?_
 refine ⟨s1.heap.objs.size+1,[s1.heap.objs.size+1,s1.heap.objs.size],_,_,H1,rfl,I1.kept (t':=s1.toks) z4,ajX _ s1.heap.objs.size l (j0 (by lia)),⟨⟨_,z1⟩,z2⟩,fun b hb=>?_,q⟩;have X5:s1.heap.objs.size<=b:=by
  have e:b=s1.heap.objs.size+1\/b=s1.heap.objs.size:=by simpa using hb
  rcases e with rfl | rfl
  .exact bU _ _
  .exact B5 _
 exact I1.fpOk X5 (I1.hok.fresh X5)
theorem uO{a:Expr}{p pos:Pos}(hm:X.mg "enumerate"=none)(ha:QA X [a] ta)(hg:Gl X "enumerate":=by rfl)(h1:L1 a=false:=by rfl) :
  QI X (.Tuple elts x1 tpos) (.Call (.Name "enumerate" p) [a] [] pos) (iEnum ta):=⟨an4 hg hm ha.out h1⟩
end
theorem alQ{R:It->Hp->Prop} : iEnum ta O H R=ta O H fun vs H1=>∃ (l:Addr) (xs:List V),vs=[.ref l]/\H1 l=some (.lst xs)/\R (lE l) H1:=rfl
theorem forE{l:Addr}(Pv:Nat->St->Hp->Prop)(h0:Pv 0 O H)(hl:∀ i O H,Pv i O H->H l=some (.lst xs))(hs:∀ i x t O H,xs[i]?=some x->Pv i O H->H t=none->g (.ref t) O (A0 H t (.tup [.int i,x])) fun σ2 H2=>tb { D with nx:=Pv (i+1),ct:=Pv (i+1),bk:=D.nx } σ2 H2)(hd:∀ O H,Pv xs.length O H->D.nx O H):ForIt (lE l) g tb D O H:=by
 refine ⟨fun i m O H=>m=xs.length-i/\i<=xs.length/\Pv i O H,⟨xs.length,by simp,F7 _,h0⟩,?_⟩;rintro i m O H ⟨rfl,hi,p⟩;have e1:=hl i O H p
 by_cases C4:i<xs.length
 .refine .inr ⟨⟨xs,xs[i],e1,by simp⟩,Pv (i+1),fun σ' H' p'=>⟨_,by lia,rfl,C4,p'⟩,fun v H' y=>?_⟩;obtain ⟨t,xs',x,f1,hx,ht,rfl,rfl⟩:=y;rw [e1] at f1;cases f1;exact hs i x t O H hx p ht
 .have e:i=xs.length:=by lia
  subst e;exact .inl ⟨⟨xs,e1,by lia⟩,hd O H p⟩
noncomputable def MO (P:Program) (w:World) (K:PySem.W.Frag) (mg:Str->Option Value) (base:Heap) (k:Nat) (C:Addr) (m:Str) (ps:List Str) (sp:Sp):Prop:=
 ∃ f fd,FnOk P w K mg base D9 k f fd ps sp/\Cls K C/\Meth K C m f/\Binds K fd ps []
noncomputable def KO (P:Program) (w:World) (K:PySem.W.Frag) (mg:Str->Option Value) (base:Heap) (k:Nat) (C:Addr) (x:Str) (ps:List Str) (sp:Sp):Prop:=
 ∃ f fd,FnOk P w K mg base D9 k f fd ps sp/\Mk K C f/\mg x=some (.ref C)/\Binds K fd ps []
section
variable {X:Cx} {k:Nat} {C:Addr} {ps:List Str} {sp:Sp} {x m:Str} {p pos apos:Pos} {e o:Expr} {es:List Expr} {ta:TE} {t:TA}
theorem ajY(G:KO X.prog X.w X.K X.mg X.base k C x ps sp)(hr:Room (k+1) X.A)(ha:QA X (e::es) t)(hg:Gl X x:=by rfl)(h1:L1 e=false:=by rfl)(h2:W6 es=true:=by rfl)(Q9:(x==("__debug__" : Str))=false:=by decide) :
  QE X (.Call (.Name x p) (e::es) [] pos) (tMake C sp [] E0 t):=by
 obtain ⟨f,fd,F,M,hm,hb⟩:=G;exact ⟨anb M F hr hg hm hb .nil pass0 ha.out Q9 (N0 h1) (eF h2)⟩
theorem lF(ho:QE X o ta)(G:MO X.prog X.w X.K X.mg X.base k C m ps sp)(hr:Room k X.A)(ha:QA X (e::es) t)(h1:L1 e=false:=by rfl)(h2:W6 es=true:=by rfl){pl:Sem Bool}(ht:eval (.Call (.Attribute o m apos) (e::es) [] pos) X.env=(do
   let ov <- eval o X.env
   standAt apos.atName
   let (f,first) <- holding [ov] (getMethod ov m pl)
   callWith pos f first (backTo pos (starEach (e::es) X.env)) (backToKw pos (keywordEach [] X.env))):=by rfl) :
  QE X (.Call (.Attribute o m apos) (e::es) [] pos) (tMeth C m sp [] E0 ta t):=by
 obtain ⟨f,fd,F,c,hm,hb⟩:=G;exact ⟨ana ho.out c hm F hr hb .nil pass0 ha.out (N0 h1) (eF h2) ht⟩
theorem uP(ho:QE X o ta)(G:MO X.prog X.w X.K X.mg X.base k C m ps sp)(hr:Room k X.A){pl:Sem Bool}(ht:eval (.Call (.Attribute o m apos) [] [] pos) X.env=(do
   let ov <- eval o X.env
   standAt apos.atName
   let (f,first) <- holding [ov] (getMethod ov m pl)
   callWith pos f first (backTo pos (starEach [] X.env)) (backToKw pos (keywordEach [] X.env))):=by rfl) :
  QE X (.Call (.Attribute o m apos) [] [] pos) (tMeth C m sp [] E0 ta tNil):=by
 obtain ⟨f,fd,F,c,hm,hb⟩:=G;exact ⟨ak3 ho.out c hm F hr hb .nil pass0 ht⟩
end
section
variable {C:Addr} {m f:Str} {sp:Sp} {K:PySem.W.Frag} {ta tv:TE} {t:TA} {O:St} {H:Hp} {Q:VK} {D:Ends}
theorem an5:tMake C sp [] E0 t O H Q=t O H fun vs H1=>∀ x dx,H1 x=none->H1 dx=none->dx≠x->sp (.ref x::(vs++[])) (A0 (A0 H1 dx (.own x)) x (.ins C dx [])) (fun v H2=>v=.non/\Q (.ref x) H2) E0:=rfl
theorem an6:tMeth C m sp [] E0 ta t O H Q=ta O H fun x H1=>∃ a dx fs,x=.ref a/\H1 a=some (.ins C dx fs)/\fs.lookup m=none/\t O H1 fun vs H2=>sp (x::(vs++[])) H2 Q E0:=rfl
theorem aqN:tFld K ta f O H Q=ta O H fun x H1=>∃ a C dx fs v,x=.ref a/\H1 a=some (.ins C dx fs)/\Cls K C/\NoAttr K C f/\fs.lookup f=some v/\Q v H1:=rfl
theorem an7:sFld K ta tv f D O H=tv O H fun y H1=>ta O H1 fun x H2=>∃ a C dx fs,x=.ref a/\H2 a=some (.ins C dx fs)/\Cls K C/\NoAttr K C f/\fs.length<1000/\D.nx O (A0 H2 a (.ins C dx (putF f y fs))):=rfl
end
section
variable {X:Cx} {o e:Expr} {apos cpos:Pos} {td ty:TE}
theorem uQ(hu:X.A.units+1<cLine)(ho:QE X o td)(he:QE X e ty)(h1:L1 e=false:=by rfl)(E2:attributeBase o "get" X.env (eval o X.env)=eval o X.env:=by rfl)(E3:(apos.endLine==cpos.line)=true:=by rfl):QE X (.Call (.Attribute o "get" apos) [e] [] cpos) (tQ td ty):=
 ⟨ale hu ho.out he.out ⟨E2,by rw [N0 h1];rfl,E3,by rw [N0 h1];rfl⟩⟩
theorem alR : tQ td ty O H Q=td O H fun x H1=>∃ a,x=.ref a/\aL H1 a/\ty O H1 fun y H2=>∃ o,DGet H2 a y o/\Q (o.getD .non) H2:=rfl
end
end L2
set_option maxRecDepth 100000
namespace L2
open PySem PySem.Spec PyProof.Rows
noncomputable abbrev Rl:=Str×List Str
noncomputable def tupR (z:Rl):HO:=.tup ((z.1::z.2).map V.str)
structure IsRules(H:Hp)(a:Addr)(rs:List Addr)(R:List Rl):Prop where
 top:H a=some (.lst (rs.map V.ref))
 row:Paired (fun r z=>H r=some (tupR z)) rs R
theorem IsRules.same{R:List Rl}(h:IsRules H a rs R)(s:Same H H'):IsRules H' a rs R:=⟨s _ _ h.top,T3 h.row fun _ _ e=>s _ _ e⟩
theorem IsRules.len{R:List Rl}(h:IsRules H a rs R):rs.length=R.length:=Paired.length h.row
noncomputable def N9 (z:Rl):List Str:=if z.1=("great" : Str) then z.2.drop 1 else if z.1=("as" : Str) then z.2.take 1 else if z.1=("row" : Str)\/z.1=("marks" : Str)\/z.1=("over" : Str) then z.2 else []
noncomputable def jobD (w:Str):Str:=if w=("row" : Str) then "letter" else if w=("marks" : Str) then "mark" else w
noncomputable def D0 (R:List Rl):List (Str×Str):=R.flatMap fun z=>(N9 z).map fun p=>(p,jobD z.1)
noncomputable def hasW (R:List Rl) (w:Str):Bool:=R.any fun z=>decide (z.1=w)
noncomputable def figO (c:Nat):Bool:=decide (48<=c)&&decide (c<=57)
noncomputable def lG:List Str:=["letter", "mark", "over"]
noncomputable def NC (figs:Bool) (g:Str->Str) (PL:List (Str×Str)):Prop:=∀ i p j,PL[i]?=some (p,j)->j=g p/\(p∈(PL.take i).map (·.1)->j∈lG)/\(figs=true->∀ c∈p.cps.toList,figO c=false)/\p.length<=1000
noncomputable def keysP (PL:List (Str×Str)):List Str:=G8 [] (PL.map (·.1))
theorem ae3{R:List Rl}{z:Rl}(h:R[i]?=some z):D0 (R.take (i+1))=D0 (R.take i)++(N9 z).map fun p=>(p,jobD z.1):=by
 rw [g6,h];unfold D0;rw [Z4]
 simp
theorem agw(R:List Rl)(i:Nat):∃ more,D0 R=D0 (R.take i)++more:=⟨D0 (R.drop i),by
 unfold D0;rw [<- Z4,j9]⟩
theorem aiG(PL:List (Str×Str))(p j:Str):keysP (PL++[(p,j)])=dd (keysP PL) p:=by
 unfold keysP G8;rw [D6,aB];rfl
theorem lH(x:Str)(PL:List (Str×Str)):x∈keysP PL↔x∈PL.map (·.1):=by
 unfold keysP;rw [v7]
 simp
theorem uR(PL:List (Str×Str)):(keysP PL).length<=PL.length:=by
 have:=lB (PL.map (·.1)) []
 rw [A4] at this
 simpa [keysP] using this
noncomputable def rowsW (R:List Rl) (w:Str):List (List Str):=(R.filter fun z=>decide (z.1=w)).map (·.2)
theorem ae4{R:List Rl}{z:Rl}{w:Str}(h:R[i]?=some z):rowsW (R.take (i+1)) w=if z.1=w then rowsW (R.take i) w++[z.2] else rowsW (R.take i) w:=by
 rw [g6,h];unfold rowsW;rw [q0,D6]
 by_cases e:z.1=w
 .rw [if_pos e,Option.toList_some,bQ (by simpa using e)];rfl
 .rw [if_neg e,Option.toList_some,aA (by simpa using e)];simp
theorem v8{hi:Option Int}(hk:1<=k)(hn:1<=n):¬ (HT.sIx n 0 (some (k:Int))=0/\HT.sIx n n hi=n):=fun h=>by
 have:=h.1
 rw [HT.sIx_nat] at this;lia
noncomputable abbrev jobsL:List (C1×V):=[((Sum.inr ("row" : Str):C1),V.str "letter"),(Sum.inr ("marks" : Str),V.str "mark"),(Sum.inr ("great" : Str),V.str "great"),(Sum.inr ("as" : Str),V.str "as"),(Sum.inr ("over" : Str),V.str "over")]
noncomputable def eP (w:Str):Prop:=w=("row" : Str)\/w=("marks" : Str)\/w=("great" : Str)\/w=("as" : Str)\/w=("over" : Str)
theorem uS{w:Str}(h:eP w):valV jobsL (Sum.inr w)=some (.str (jobD w)):=by
 rcases h with rfl | rfl | rfl | rfl | rfl <;> decide +kernel
theorem alS{w:Str}(h:¬ eP w):valV jobsL (Sum.inr w)=none:=by
 unfold eP at h;have n:∀ u:Str,w≠u->¬ ((Sum.inr u:C1)=Sum.inr w):=fun u hu e=>hu (Sum.inr.inj e).symm
 rw [aK (n _ (fun e=>h (.inl e))),aK (n _ (fun e=>h (.inr (.inl e)))),aK (n _ (fun e=>h (.inr (.inr (.inl e))))),aK (n _ (fun e=>h (.inr (.inr (.inr (.inl e)))))),aK (n _ (fun e=>h (.inr (.inr (.inr (.inr e))))))];rfl
theorem lI{z:Rl}{p:Str}(h:p∈N9 z):eP z.1:=by
 unfold N9 at h;unfold eP
 split at h
 .rename_i e;exact .inr (.inr (.inl e))
 .split at h
  .rename_i e;exact .inr (.inr (.inr (.inl e)))
  .split at h
   .rename_i e
    rcases e with e | e | e
    .exact .inl e
    .exact .inr (.inl e)
    .exact .inr (.inr (.inr (.inr e)))
   .cases h
theorem aqO{R:List Rl}{z:Rl}{p:Str}(hz:R[i]?=some z)(hp:(N9 z)[j]?=some p) :
  (D0 R)[(D0 (R.take i)).length+j]?=some (p,jobD z.1)/\(D0 R).take ((D0 (R.take i)).length+j)=D0 (R.take i)++((N9 z).take j).map fun p=>(p,jobD z.1):=by
 obtain ⟨more,e⟩:=agw R (i+1);rw [ae3 hz,W8] at e;have hj:j<(N9 z).length:=(F6.mp hp).1;rw [e]
 constructor
 .rw [kG (bU _ _),Nat.add_sub_cancel_left,oE (by rw [A4];exact hj),O1,hp];rfl
 .rw [List.take_append,p9 (bU _ _),Nat.add_sub_cancel_left,List.take_append_of_le_length (by rw [A4];lia),aD]
theorem aqP{c d:Nat} : (([c]:List Nat)<[d])↔c<d:=by
 constructor
 .intro h;cases h with
  | rel h=>exact h
  | cons h=>cases h
 .intro h;exact List.Lex.rel h
theorem C6.same(e:Same H H')(h:C6 K H a xs):C6 K H' a xs:=by
 rcases h with (h | ⟨o,h⟩) | h
 .exact .inl (.inl (e _ _ h))
 .exact .inl (.inr ⟨o,e _ _ h⟩)
 .exact .inr h
theorem C6.dput{d:Addr}{o:HO}(hd:H d=some (.dK kvs))(h:C6 K H a xs):C6 K (A0 H d o) a xs:=by
 rcases h with (h | ⟨o,h⟩) | h
 .exact .inl (.inl (by rw [A3 (fun e=>by rw [e,hd] at h;cases h)];exact h))
 .exact .inl (.inr ⟨o,by rw [A3 (fun e=>by rw [e,hd] at h;cases h)];exact h⟩)
 .exact .inr h
noncomputable def spHas (K:PySem.W.Frag):Sp:=fun vs H Q _=>∃ (a:Addr) (ts:List Addr) (R:List Rl) (w:Str),vs=[.ref a,.str w]/\IsRules H a ts R/\R.length<=1000/\∀ H',Same H H'->Q (.bl (hasW R w)) H'
noncomputable def ajZ (K:PySem.W.Frag):Sp:=fun vs H Q _=>∃ (t:Addr) (z:Rl),vs=[.ref t]/\H t=some (tupR z)/\∀ p H',Same H H'->C6 K H' p ((N9 z).map V.str)->Q (.ref p) H'
noncomputable def aj0:Sp:=fun vs H Q _=>∃ (d:Addr) (p j:Str) (fg:Bool) (ks:List Str) (g:Str->Str),vs=[.ref d,.str p,.str j,.bl fg]/\H d=some (.dK (A8 ks fun t=>.str (g t)))/\p.length<=1000/\(p∈ks->g p=j/\j∈lG)/\(fg=true->∀ c∈p.cps.toList,figO c=false)/\
 ∀ H',Same H H'->Q (.bl false) H'
noncomputable def Y1 (R:List Rl):List Str:=if hasW R "blanks"=true then [" "] else []
noncomputable def jobG (g:Str->Str):Str->V:=fun t=>if t=(" " : Str) then .str "over" else .str (g t)
noncomputable def amB (K:PySem.W.Frag):Sp:=fun vs H Q _=>∃ (a:Addr) (ts:List Addr) (R:List Rl) (g:Str->Str),vs=[.ref a]/\IsRules H a ts R/\R.length<=1000/\(D0 R).length<=10000/\NC (hasW R "figures") g (D0 R)/\(" " : Str)∉(D0 R).map (·.1)/\
 ∀ d H',H d=none->Same H H'->H' d=some (.dK (A8 (keysP (D0 R)++Y1 R) (jobG g)))->Q (.ref d) H'
noncomputable def ordF (f b:Bool) (j ll ml md:Addr):List (Str×V):=putF "made" (.ref md) (putF "mark_line" (.ref ml) (putF "letter_line" (.ref ll) (putF "jobs" (.ref j) (putF "behind" (.bl b) (putF "figures" (.bl f) [])))))
theorem adQ(f b:Bool)(j ll ml md:Addr):(ordF f b j ll ml md).lookup ("figures" : Str)=some (V.bl f):=by
 unfold ordF;rw [L7,if_neg (by decide +kernel),L7,if_neg (by decide +kernel),L7,if_neg (by decide +kernel),L7,if_neg (by decide +kernel),L7,if_neg (by decide +kernel),L7,if_pos rfl]
theorem aha(f b:Bool)(j ll ml md:Addr):(ordF f b j ll ml md).lookup ("behind" : Str)=some (V.bl b):=by
 unfold ordF;rw [L7,if_neg (by decide +kernel),L7,if_neg (by decide +kernel),L7,if_neg (by decide +kernel),L7,if_neg (by decide +kernel),L7,if_pos rfl]
theorem aj1(f b:Bool)(j ll ml md:Addr):(ordF f b j ll ml md).lookup ("jobs" : Str)=some (V.ref j):=by
 unfold ordF;rw [L7,if_neg (by decide +kernel),L7,if_neg (by decide +kernel),L7,if_neg (by decide +kernel),L7,if_pos rfl]
theorem aj2(f b:Bool)(j ll ml md:Addr){m:Str}(h:m∉(["made", "mark_line", "letter_line", "jobs", "behind", "figures"]:List Str)):(ordF f b j ll ml md).lookup m=none:=by
 unfold ordF;have n:∀ u∈(["made", "mark_line", "letter_line", "jobs", "behind", "figures"]:List Str),¬ m=u:=fun u hu e=>h (by rw [e];exact hu)
 rw [L7,if_neg (n _ (by simp)),L7,if_neg (n _ (by simp)),L7,if_neg (n _ (by simp)),L7,if_neg (n _ (by simp)),L7,if_neg (n _ (by simp)),L7,if_neg (n _ (by simp))];rfl
theorem IsRules.but{x:Addr}{R:List Rl}(h:IsRules H a rs R)(s:SameBut x H H'){dx:Addr}{fs:List (Str×V)}(hx:H x=some (.ins C dx fs)):IsRules H' a rs R:=
 ⟨s _ _ (fun e=>by have:=h.top;rw [e,hx] at this;cases this) h.top,T3 h.row fun t z e=>s _ _ (fun q=>by rw [q,hx] at e;cases e) e⟩
theorem SameBut.trans{x:Addr}(a:SameBut x H H1)(b:SameBut x H1 H2):SameBut x H H2:=fun c o hc h=>b c o hc (a c o hc h)
theorem Same.but{x:Addr}(a:Same H H1):SameBut x H H1:=fun c o _ h=>a c o h
noncomputable def Y2 (R:List Rl) (w:Str) (L:List Str):Prop:=T8 (edges (rowsW R w)) (toldL (rowsW R w)) L/\∀ p∈toldL (rowsW R w),p∈L
structure IsOrder(C:Addr)(H:Hp)(x:Addr)(g:Str->Str)(R:List Rl)(L M:List Str):Prop where
 ob:∃ dx j ll ml md,H x=some (.ins C dx (ordF (hasW R "figures") (hasW R "behind") j ll ml md))/\H j=some (.dK (A8 (keysP (D0 R)++Y1 R) (jobG g)))/\H ll=some (.lst (L.map V.str))/\H ml=some (.lst (M.map V.str))
 l1:Y2 R "row" L
 l2:Y2 R "marks" M
noncomputable def amC (K:PySem.W.Frag):Sp:=fun vs H Q _=>∃ (a:Addr) (ts:List Addr) (R:List Rl) (w:Str) (rank:Str->Nat),vs=[.ref a,.str w]/\IsRules H a ts R/\R.length<=1000/\(rowsW R w).flatten.length<=100000/\(∀ e∈edges (rowsW R w),rank e.1<rank e.2)/\
 ∀ (l:Addr) (line:List Str) (H':Hp),H l=none->Same H H'->H' l=some (.lst (line.map V.str))->T8 (edges (rowsW R w)) (toldL (rowsW R w)) line->(∀ p∈toldL (rowsW R w),p∈line)->Q (.ref l) H'
noncomputable def cellF (ns:List Int) (k:Int):Int:=if k<(ns.length:Int) then ns.getD k.toNat 0 else 0
noncomputable def SA:Str:=Str.ofString "!\"#$&'()*+,-./:;<=>?@ABCDEFGHIJKLMNOPQRSTUVWXYZ[\\]^_`abcdefghijklmnopqrstuvwxyz{|}~"
noncomputable def LA:List Nat:=SG.filter fun c=>!figO c
noncomputable def LB:List Nat:=LA++[48,49,50,51,52,53,54,55,56,57]
theorem SA_eq:SA.cps.toList=LA:=by decide +kernel
theorem SB_eq:(SA++Str.ofString "0123456789").cps.toList=LB:=by decide +kernel
theorem aqQ:LA.length=83:=by decide +kernel
theorem aqR:LB.length=93:=by decide +kernel
theorem LA_nd:LA.Nodup:=by decide +kernel
theorem LB_nd:LB.Nodup:=by decide +kernel
theorem LA_ok:∀ c∈LA,signB c=true/\figO c=false:=by decide +kernel
theorem LB_ok:∀ c∈LB,signB c=true:=by decide +kernel
noncomputable def listF (d:Bool):List Nat:=if d=true then LB else LA
noncomputable def lenF (d:Bool):Int:=if d=true then 93 else 83
theorem uT(d:Bool):((listF d).length:Int)=lenF d:=by
 cases d
 .show ((LA.length:Nat):Int)=83;rw [aqQ];rfl
 .show ((LB.length:Nat):Int)=93;rw [aqR];rfl
noncomputable def uU (ns:List Int):Bool:=decide (cellF ns 1 / 12 % 2=0)
noncomputable def stepO:List Int:=[1,2,4,5,7,8,10,11,13,23,44,80]
noncomputable def stO (ns:List Int):Int:=(K7 stepO (cellF ns 1 % 12)).getD 0
noncomputable def iN (ns:List Int) (k:Int):Nat:=(K7 (listF (uU ns)) ((cellF ns 0+k*stO ns) % lenF (uU ns))).getD 33
theorem uV(d:Bool):0<lenF d/\lenF d<=93:=by cases d <;> decide
theorem aqS{l:List Nat}(nd:l.Nodup){i j:Int}(h0:0<=i)(h1:i<l.length)(h2:0<=j)(h3:j<l.length)(h:(K7 l i).getD 33=(K7 l j).getD 33):i=j:=by
 have li:i.toNat<l.length:=by lia
 have lj:j.toNat<l.length:=by lia
 have a1:K7 l i=some l[i.toNat]:=by
  have:=G7 (xs:=l) (j:=i.toNat) (v:=l[i.toNat]) (G0 li)
  rw [show ((i.toNat:Nat):Int)=i by lia] at this;exact this
 have a2:K7 l j=some l[j.toNat]:=by
  have:=G7 (xs:=l) (j:=j.toNat) (v:=l[j.toNat]) (G0 lj)
  rw [show ((j.toNat:Nat):Int)=j by lia] at this;exact this
 rw [a1,a2] at h
 have:=(p8.mp nd)
 rw [bO] at this
 rcases gR i.toNat j.toNat with z | z | z
 .exact absurd h (this _ _ li lj z)
 .lia
 .exact absurd h.symm (this _ _ lj li z)
theorem aiH{m s t b k l:Int}(ht:s*t % m=1)(e:(b+k*s) % m=(b+l*s) % m)(h0:0<=k)(h1:k<m)(h2:0<=l)(h3:l<m):k=l:=by
 have d1:m ∣ (k-l)*s:=by
  have:=Int.dvd_of_emod_eq_zero (Int.emod_eq_emod_iff_emod_sub_eq_zero.mp e)
  rwa [show (b+k*s)-(b+l*s)=(k-l)*s by rw [Int.sub_mul];lia] at this
 have d3:m ∣ (k-l)*(s*t):=by rw [<- Int.mul_assoc];exact Int.dvd_mul_of_dvd_left d1
 have d4:m ∣ s*t-1:=⟨s*t / m,by have:=Int.emod_add_mul_ediv (s*t) m;lia⟩
 have d5:m ∣ (k-l)*(s*t-1):=Int.dvd_mul_of_dvd_right d4;have d6:=Int.dvd_sub d3 d5;rw [show (k-l)*(s*t)-(k-l)*(s*t-1)=k-l by rw [Int.mul_sub,Int.mul_one];lia] at d6;have d7:=Int.emod_eq_emod_iff_emod_sub_eq_zero.mpr (Int.emod_eq_zero_of_dvd d6)
 rwa [Int.emod_eq_of_lt h0 h1,Int.emod_eq_of_lt h2 h3] at d7
end L2
set_option maxRecDepth 100000
namespace L2
open PySem PySem.Spec PyProof.Rows
open AutoSeq1 (wpAny_loadPart' idx_int)
noncomputable abbrev bareL (ys:Array Value) (k:Nat):Obj:=⟨.type "list",none,.seq ys k,#[]⟩
noncomputable abbrev anyT (dd:Option Addr) (ys:Array Value) (k:Nat) (ss:Array (Option Value)):Obj:=⟨.type "tuple",dd,.seq ys k,ss⟩
theorem aeq{l:Addr}{ys zs:Array Value}{k2:Nat}{dd:Option Addr}(short:¬ (!ys.isEmpty&&Builtin.List.listTooLong (ys.size+zs.size))=true)(h1:ys.size<=sizeLine)(h2:ys.size+zs.size<=sizeLine+1) :
  Meets (Builtin.«list.extend» ⟨[.ref l,.ref b],[]⟩) (fun _ R s=>s.heap.get? l=some (bareL ys k)/\s.heap.get? b=some (anyT dd zs k2 ss)/\R (.ok (.ret .none)) { s with heap:=s.heap.update l (Obj.mapSeq (·++zs)),toks:=s.toks }):=by
 refine .of_wp fun _ _ _ R s ⟨gl,gb,fin⟩=>?_
 rcases s with ⟨hp,gens,dr,tk,sys⟩
 have c1:=idx_int;have c2:=AutoSeq1.sub_tuple_tuple;have c3:=AutoSeq1.sub_list_list;have c4:=AutoSeq1.sub_tuple_list;have c5:=AutoSeq1.sub_list_tuple;have room:(ys++zs).size<=sizeLine+1:=Array.size_append ▸ h2
 wp_walk using (wpAny_updateSeq gl rfl (hz:=h1) (_hz':=room)),wpAny_loadPart' gl,wpAny_loadPart' gb
 exact ⟨_,rfl,fin⟩
section
variable {X:Cx}
noncomputable def ah2 (K:PySem.W.Frag):V->List V->Hp->VK->Prop:=fun x vs H Q=>∃ l b xs zs,x=.ref l/\vs=[.ref b]/\H l=some (.lst xs)/\C6 K H b zs/\xs.length+zs.length<=sizeLine/\Q .non (A0 H l (.lst (xs++zs)))
theorem aiI:iD X "list.extend" (ah2 X.K):=by
 intro pins s O H x vs v us Q I rx rv h;obtain ⟨l,b,xs,zs,rfl,rfl,hH,hB,hz,q⟩:=h
 cases rx
 obtain ⟨u,rfl,ru⟩:=rv.one
 cases ru
 obtain ⟨z,its,n,r,hl,e⟩:=I.lstM hH;obtain ⟨its2,r2,⟨⟨c,dct,dt,sl⟩,e2,hc,n2,hd⟩,X4⟩:=I.tuple hB
 replace hc:c=.type "tuple":=hc
 replace hd:dt=.seq its2.toArray n2:=hd
 subst hc hd;have q1:=r2.length;have hsz:its.toArray.size+its2.toArray.size<=sizeLine:=by rw [E7,E7];lia
 have V7:¬ (!its.toArray.isEmpty&&Builtin.List.listTooLong (its.toArray.size+its2.toArray.size))=true:=by
  rw [tL hsz,Bool.and_false];exact L3
 refine call_meets F.slot_list_extend ⟨_,e,rfl⟩ F.entry_list_extend (F.args_list_extend_2 _ _)
  (aeq (k:=n) (k2:=n2) (dd:=dct) (ss:=sl) V7 (by rw [E7];lia) (by lia)) ⟨e,e2,?_⟩
 refine ⟨.non,_,I.lset (its':=its++its2) hH e (by simp) (r.append r2) ?_,rfl,q⟩;rw [C8];lia
theorem aj3(hK:X.K=K:=by rfl):QMt X "list.extend" (ah2 K):=by subst hK;exact ⟨fun pins s O H x xs v us Q I rx rv h=>aiI pins s O H x xs v us Q I rx rv h⟩
noncomputable def rMulS:V->V->Hp->VK->Prop:=fun x y H Q=>∃ z n,x=.str z/\y=.int n/\MulOk z n/\Q (.str (Txt.mul z n)) H
theorem aqT:K1 X (binaryOp .Mult) rMulS:=by
 intro pins s O H x y v u Q I rx ry h;obtain ⟨z,n,rfl,rfl,h1,q⟩:=h;obtain ⟨t,rfl⟩:=rx;obtain ⟨t2,rfl⟩:=ry;exact SB.mul h1 fun t' k=>⟨.str _,H,I.tok k,⟨_,rfl⟩,q⟩
theorem aqU:QOp X (binaryOp .Mult) rMulS:=⟨aqT⟩
end
noncomputable def Itv (l : Addr) (n : Nat) : It :=
  ⟨fun i H => ∃ xs x, H l = some (.lst xs) /\ i<n /\ xs[n-1-i]? = some x,
   fun i H v H' => H' = H /\ ∀ xs, H l = some (.lst xs) -> xs[n-1-i]? = some v,
   fun i H => ∃ xs, H l = some (.lst xs) /\ n <= i⟩
section
variable {X:Cx}
noncomputable def iRev (ta:TA):TI:=fun O H R=>ta O H fun vs H1=>∃ (l:Addr) (xs:List V),vs=[.ref l]/\H1 l=some (.lst xs)/\R (Itv l xs.length) H1
end
theorem an8{R:It->Hp->Prop} : iRev ta O H R=ta O H fun vs H1=>∃ (l:Addr) (xs:List V),vs=[.ref l]/\H1 l=some (.lst xs)/\R (Itv l xs.length) H1:=rfl
noncomputable abbrev cK (l:Addr):Obj:={ cls:=.type "list_iterator",data:=.fields #[.ref l,.int 0 0] }
noncomputable abbrev iO (it:Addr) (i:Int):Obj:={ cls:=.type "enumerate",data:=.fields #[.none,.bool false,.ref it,rawInt i,.none,.none] }
noncomputable abbrev anyL (dd:Option Addr) (ys:Array Value) (k:Nat) (ss:Array (Option Value)):Obj:=⟨.type "list",dd,.seq ys k,ss⟩
set_option maxHeartbeats 4000000 in
theorem aeG{l:Addr}{ys:Array Value}{dd:Option Addr}{i:Int}{t:Tok}(fits:Builtin.SmallTypes.fitsIndex i=true) :
  Meets (Builtin.«enumerate.__new__» ⟨[.type "enumerate",.ref l],[("start",.int i t)]⟩) (fun _ R s=>s.heap.get? l=some (anyL dd ys k ss)/\
   R (.ok (.ret (.ref (s.heap.push (cK l)).objs.size))) { s with heap:=(s.heap.push (cK l)).push (iO s.heap.objs.size i) }):=by
 refine .of_wp fun _ _ _ R s ⟨gl,fin⟩=>?_
 rcases s with ⟨hp,gens,dr,tk,sys⟩
 have c1:=sub_enumerate;have isl:Heap.IsList (Shared.heap ⟨hp,gens,dr,tk,sys⟩) l ys:=⟨_,gl,rfl,k,rfl⟩
 wp_walk using wpAny_loadPart' gl
 refine wpAny_stack_any fun _=>wpAny_pure ?_
 split
 case h_1 c _ _ _ _ _=>
  generalize (c==Value.type "enumerate")=truth
  cases truth <;> (wp_walk using wpAny_loadPart' gl,wpAny_pyIter_list isl;exact ⟨_,rfl,fin⟩)
 case h_2=>(wp_walk using wpAny_loadPart' gl,wpAny_pyIter_list isl;exact ⟨_,rfl,fin⟩)
theorem aiJ(a b:Value):checkTypeCall "enumerate" ⟨[a],[("start",b)]⟩=pure ():=by kernel_rfl
theorem aj4(a b:Value):checkBuiltinCall "enumerate.__new__" ⟨[.type "enumerate",a],[("start",b)]⟩=pure ():=by kernel_rfl
theorem aiK(a b c:Value):argsOk "object.__init__" ⟨[a,b],[("start",c)]⟩:=by
 unfold argsOk;rw [signature?_of (id:="object.__init__") (n:="__init__".toList.reverse) (o:="object".toList.reverse) (by kernel_rfl) F.owner_object]
 kernel_rfl
theorem aj5{self b c:Value} : Meets (Builtin.«object.__init__» ⟨[self,b],[("start",c)]⟩) (fun _ R s=>s.TypeIs self "enumerate"/\R (.ok (.ret .none)) s):=by
 have c1:=F.called_enumerate.init.lookup;have c2:=F.called_enumerate.made;refine .of_wp fun _ _ _ R s ⟨isT,fin⟩=>?_
 repeat (any_goals (first | assumption | wp_step))
 exact ⟨_,rfl,fin⟩
section
variable {prog:Program} {w:World} {A:Around} {E:Value->Shared->Prop} {s:Shared}
theorem aer{l:Addr}{ys:Array Value}{i:Int}{t:Tok}{Q:Value->Shared->Prop}(isl:s.heap.IsList l ys)(fits:Builtin.SmallTypes.fitsIndex i=true)(fin:∀ h',IsEnum h' (s.heap.objs.size+1) s.heap.objs.size i .none->h'.IsListIter s.heap.objs.size l 0->(∀ b o,s.heap.get? b=some o->h'.get? b=some o)->Q (.ref (s.heap.objs.size+1)) { s with heap:=h' }) :
  wpAny (model prog w) A (call (.type "enumerate") [.ref l] [("start",.int i t)]) Q E s:=by
 obtain ⟨⟨c,dd,dt,ss⟩,gl,hc,k,hd⟩:=isl;obtain rfl:c=.type "list":=hc;obtain rfl:dt=.seq ys k:=hd;obtain ⟨hd0,tl,c1⟩:=F.called_enumerate.mro;have c2:=F.called_enumerate.made;have c3:=F.called_enumerate.sub;have c4:=F.called_enumerate.notType;have c5:=F.called_enumerate.canCreate;have c6:=F.called_enumerate.init.lookup;have c7:=aiJ (.ref l) (.int i t);refine wpAny_call (codeAny_of_tree (show wpAny _ _ (callAny (.type "enumerate") _) _ _ _ from wpAny_pure ⟨Code.quiet_builtin _ (by decide +kernel),codeAny_builtin F.entry_type_call ?_⟩));rw [Around.under_plain (weight_type_call_type "enumerate" [.ref l] [("start",.int i t)]) (units_type_call_type "enumerate" [.ref l] [("start",.int i t)])]
 repeat (any_goals (first | assumption | wp_step))
 have z:(s.heap.push (cK l)).objs.size=s.heap.objs.size+1:=Heap.size_push ..;have made:IsEnum ((s.heap.push (cK l)).push (iO s.heap.objs.size i)) (s.heap.objs.size+1) s.heap.objs.size i .none:=by
  have g:=Heap.get?_push_size (s.heap.push (cK l)) (o:=iO s.heap.objs.size i) rfl;rw [z] at g;exact g
 have done:=fin _ made ⟨_,Heap.get?_push_of_some _ (Heap.get?_push_size _ rfl),rfl,rfl⟩ fun b o g=>Heap.get?_push_of_some _ (Heap.get?_push_of_some _ g)
 refine codeAny_mono (codeAny_call_builtin F.called_enumerate.plain F.entry_enumerate_new (wpAny_of_eq (aj4 _ _) (aeG (dd:=dd) (k:=k) (ss:=ss) fits prog w A.in1 (wants (fun v s2=>v=.ref (s.heap.objs.size+1)/\s2={ s with heap:=(s.heap.push (cK l)).push (iO s.heap.objs.size i) }) E) s ⟨gl,?_,?_⟩))) ?_
 .rw [z]
 .rfl
 .intro r s1 hr
  rcases r with e | fl
  .exact hr
  .cases fl with
   | ret v=>
    obtain ⟨rfl,rfl⟩:=hr;have isT:Shared.TypeIs { s with heap:=(s.heap.push (cK l)).push (iO s.heap.objs.size i) } (.ref (s.heap.objs.size+1)) "enumerate":=⟨_,made,rfl⟩
    have c8:=F.called_enumerate.init.bind (.ref (s.heap.objs.size+1))
    repeat (any_goals (first | assumption | wp_step))
    have ran:=aj5 (self:=.ref (s.heap.objs.size+1)) (b:=.ref l) (c:=.int i t) prog w A.in1 (wants (fun v s2=>v=.none/\s2={ s with heap:=(s.heap.push (cK l)).push (iO s.heap.objs.size i) }) E) _ ⟨isT,rfl,rfl⟩;refine codeAny_mono (codeAny_call_builtin F.called_enumerate.init.plain F.entry_object_init (F.called_enumerate.init.check _ _ _ _ _ _ _ _ isT (aiK _ _ _) ran)) fun r s2 hr=>?_
    rcases r with e | fl
    .exact hr
    .cases fl with
     | ret v=>
      obtain ⟨rfl,rfl⟩:=hr
      repeat (any_goals (first | assumption | wp_step))
     | next=>exact hr.elim
     | brk=>exact hr.elim
     | cont=>exact hr.elim
   | next=>exact hr.elim
   | brk=>exact hr.elim
   | cont=>exact hr.elim
end
theorem aqV{w:World}(calm:A.handled=none){l:Addr}(apart:l≠it)(ys:Array Value) :
  Draws prog w A it [it,l] (ys.size+1) (fun i v=>1<=i/\ys[i-1]?=some v) (fun i h=>1<=i/\h.IsListIter it l (i-1)/\h.IsList l ys):=by
 have D:=Draws.list (prog:=prog) (w:=w) calm it l apart ys;refine ⟨fun i h st=>D.live (i-1) h st.2,fun i h h' st same=>⟨st.1,D.frame (i-1) h h' st.2 same⟩,fun i s Q E hi st fin=>?_,fun s Q E st fin=>D.done s Q E st.2 fin⟩;refine D.item (i-1) s Q E (by have:=st.1;lia) st.2 fun x h' tk px st' sb=>fin x h' tk ⟨st.1,px⟩ ⟨by lia,?_⟩ sb
 rw [show i+1-1=i-1+1 by have:=st.1;lia];exact st'
theorem aqW{w : World}(calm : A.handled = none){l: Addr}{ys : Array Value}(none : ys[i]? = none) :
    Draws prog w A it [it, l] (i+1) (fun _ _ => True) (fun k h => k = i+1 /\ h.IsListIter it l i /\ h.IsList l ys) :=
  ⟨fun _ _ st => let ⟨o, ho, _⟩ := st.2.1; ⟨o, ho⟩, fun _ _ _ st same => ⟨st.1, st.2.1.at fun o g => same it (by simp) o g, st.2.2.at fun o g => same l (by simp) o g⟩,
   fun k s Q E hk st => absurd st.1 (by lia), fun s Q E st fin => wpAny_nextOf_list_end calm st.2.1 st.2.2 none fin⟩
noncomputable def Ite1 (l : Addr) : It :=
  ⟨fun i H => ∃ xs x, H l = some (.lst xs) /\ xs[i]? = some x,
   fun i H v H' => ∃ t xs x, H l = some (.lst xs) /\ xs[i]? = some x /\ H t = none /\ v = .ref t /\ H' = A0 H t (.tup [.int (i+1 : Nat), x]),
   fun i H => ∃ xs, H l = some (.lst xs) /\ xs.length <= i⟩
theorem aiL{P:Program}{w:World}{pos:Pos}(e it l:Addr)(N4:e≠it) :
  Turn P w K (.Tuple elts x1 pos) (Ite1 l) [e,it] e (fun i h=>(∃ old,IsEnum h e it ((i+1:Nat):Int) old)/\h.IsListIter it l i) where
 mem:=by simp
 obj:=fun i h ⟨⟨old,he⟩,hi⟩ c hc=>by
  have q:c=e\/c=it:=by simpa using hc
  rcases q with rfl | rfl
  .exact ⟨_,he,fun v q=>by cases q⟩
  .obtain ⟨o,e,c,d⟩:=hi;exact ⟨o,e,fun v z=>by rw [d] at z;cases z⟩
 keep:=fun i h h' ⟨⟨old,he⟩,hi⟩ k=>⟨⟨old,k e (by simp) _ he⟩,hi.at fun o q=>k it (by simp) o q⟩
 item:=by
  intro X hP hw hK hc i pins s O H E I hf ⟨⟨old,he⟩,hi⟩ hg;subst hP hw hK;obtain ⟨xs,x,e1,hx⟩:=hg;obtain ⟨its1,Y7,p1,_⟩:=I.list (C7.of (K:=X.K) e1);obtain ⟨u1,C5,r1⟩:=Y7.get hx;have C4:i<its1.length:=(F6.mp C5).1;obtain ⟨ol,gl,cl,_⟩:=p1.isList;have nli:l≠it:=fun q=>by
   obtain ⟨oi,gi,ci,_⟩:=hi;rw [q,gi] at gl
   cases gl
   rw [ci] at cl;exact absurd cl (by decide)
  have nle:e≠l:=fun q=>by
   rw [<- q,he] at gl
   cases gl
   exact absurd (show Value.type "enumerate"=Value.type "list" from cl) (by decide)
  refine wpAny_pyNext_enum_itemD (i:=i+1) (aqV (A:=X.A.in1) (show X.A.in1.handled=none from I.ok.hd hc) nli its1.toArray) he ⟨by lia,by simpa using hi,p1.isList⟩ (by simp;lia) N4 (by simp [N4,nle]) fun y h' tk py b1 b2 b3 b4 b5=>?_
  obtain rfl:u1=y:=by
   have:=py.2
   simp [C5] at this;exact this
  refine ⟨_,rfl,wpAny_letOwnedTupleGo_enum b1 fun h2' c1 c2=>?_⟩;have dF:e<s.heap.objs.size:=Heap.lt_size he;have up:∀ c o,c≠e->h'.get? c=some o->h2'.get? c=some o:=fun c o hc q=>(c2.2 c hc).trans q
  have hT:=up _ _ (i3 dF) b3;have nT:∀ c∈[e,it],c≠s.heap.objs.size:=fun c hc=>by
   have q:c=e\/c=it:=by simpa using hc
   refine I0 ?_
   rcases q with rfl | rfl
   .exact dF
   .obtain ⟨o,q,_⟩:=hi;exact Heap.lt_size q
  refine ⟨.ref s.heap.objs.size,A0 H s.heap.objs.size (.tup [.int (i+1:Nat),x]),I.turnNew (t':=tk+1) (ch:=[e,it]) hf (fun c u hc q=>?_) (B5 _) ⟨by show 2<=sizeLine;decide,[.int (i+1:Nat) tk,u1],.cons ⟨_,rfl⟩ (.cons r1 .nil),?_⟩,rfl,⟨_,xs,x,e1,hx,I.fresh,rfl,rfl⟩,
   ⟨⟨_,c1⟩,(show h'.IsListIter it l (i+1) by simpa using b2.2.1).at fun o q=>up _ o N4.symm q⟩,fun c hc=>by rw [A3 (nT c hc)];exact (hf c hc).1⟩
  .have q1:c≠e/\c≠it:=⟨fun q=>hc (by simp [q]),fun q=>hc (by simp [q])⟩
   exact up c u q1.1 (b5 c u q1.1 q1.2 q)
  .exact ⟨_,hT,rfl,_,rfl⟩
 done:=by
  intro X hP hw hK hc i pins s O H E I hf ⟨⟨old,he⟩,hi⟩ hg;subst hP hw hK;obtain ⟨xs,e1,fH⟩:=hg;obtain ⟨its1,Y7,p1,_⟩:=I.list (C7.of (K:=X.K) e1);have q1:=Y7.length;obtain ⟨f0,f1,f2,f3,f4,f5⟩:=hf it (by simp);exact wpAny_pyNext_enum_endD (aqW (A:=X.A.in1) (show X.A.in1.handled=none from I.ok.hd hc) (ys:=its1.toArray) (i:=i) (by simp;lia)) he ⟨rfl,hi,p1.isList⟩ fun h' eb=>⟨rfl,I.turned (t':=s.toks) (fun b o hb q=>eb b o hb q) f0 f1 f3 f4 f5⟩
 self:=fun _ _ _ _ _ st h=>by
  obtain ⟨⟨old,he⟩,_⟩:=st;exact wpAny_pyIter_enum he h
theorem aj6:bootBuiltins "enumerate"=some (.type "enumerate"):=by decide +kernel
section
variable {X:Cx}
noncomputable def uW (ta:TA):TI:=fun O H R=>ta O H fun vs H1=>∃ (l:Addr) (xs:List V),vs=[.ref l]/\H1 l=some (.lst xs)/\R (Ite1 l) H1
theorem alT{a:Expr}{p pos:Pos}(hg:Gl X "enumerate")(hm:X.mg "enumerate"=none)(ha:PA X [a] ta)(h1:L1 a=false:=by rfl) :
  PI X (.Tuple elts x1 tpos) (.Call (.Name "enumerate" p) [a] [⟨some "start",.Constant (.int 1) ck cpos,kpos⟩] pos) (uW ta):=by
 intro pins s O H R I h;refine wpAny_Call_Name_kw (bX I hg hm aj6 (PySem.W.callWith_of (P:=fun _=>True) ?_ (fun _ _=>⟨_,.inr (.inl rfl),PySem.W.Looks.of_pure rfl⟩) (PyProof.Rows.evalArgs_kw2 rfl (B1 (ha pos pins s O H _ I h) fun us s1 ⟨vs,H1,I1,r1,q1⟩=>?_) (N0 h1))))
 .rw [N0 h1];rfl
 have kw:PK X [⟨some "start",.Constant (.int 1) ck cpos,kpos⟩] (tCons (tC (.int 1)) tNil):=anc amn ao2;refine B1 (kw pos pins s1 O H1 (fun zs H2=>zs=[.int 1]/\H2=H1) I1 ⟨rfl,rfl⟩) fun ws s2 ⟨zs,H2,I2,rz,e1,e2⟩=>⟨trivial,?_⟩
 subst e1 e2;obtain ⟨l,xs,rfl,e1,q⟩:=q1;obtain ⟨u1,rfl,fI⟩:=vals1 r1
 cases fI
 obtain ⟨u2,rfl,yO⟩:=vals1 rz;obtain ⟨t,rfl⟩:=yO;obtain ⟨its1,Y7,p1,_⟩:=I2.list (C7.of (K:=X.K) e1);refine aer p1.isList (by decide) fun h' z1 z2 z4=>wpAny_pyIter_enum z1 ?_
 refine ⟨s2.heap.objs.size+1,[s2.heap.objs.size+1,s2.heap.objs.size],_,_,H2,rfl,I2.kept (t':=s2.toks) z4,aiL _ s2.heap.objs.size l (j0 (by lia)),⟨⟨_,z1⟩,z2⟩,fun b hb=>?_,q⟩;have X5:s2.heap.objs.size<=b:=by
  have e:b=s2.heap.objs.size+1\/b=s2.heap.objs.size:=by simpa using hb
  rcases e with rfl | rfl
  .exact bU _ _
  .exact B5 _
 exact I2.fpOk X5 (I2.hok.fresh X5)
theorem alU{a:Expr}{p pos:Pos}(hm:X.mg "enumerate"=none)(ha:QA X [a] ta)(hg:Gl X "enumerate":=by rfl)(h1:L1 a=false:=by rfl) :
  QI X (.Tuple elts x1 tpos) (.Call (.Name "enumerate" p) [a] [⟨some "start",.Constant (.int 1) ck cpos,kpos⟩] pos) (uW ta):=⟨alT hg hm ha.out h1⟩
end
theorem aj8{R:It->Hp->Prop} : uW ta O H R=ta O H fun vs H1=>∃ (l:Addr) (xs:List V),vs=[.ref l]/\H1 l=some (.lst xs)/\R (Ite1 l) H1:=rfl
theorem forE1{l:Addr}(Pv:Nat->St->Hp->Prop)(h0:Pv 0 O H)(hl:∀ i O H,Pv i O H->H l=some (.lst xs))(hs:∀ i x t O H,xs[i]?=some x->Pv i O H->H t=none->g (.ref t) O (A0 H t (.tup [.int (i+1:Nat),x])) fun σ2 H2=>tb { D with nx:=Pv (i+1),ct:=Pv (i+1),bk:=D.nx } σ2 H2)(hd:∀ O H,Pv xs.length O H->D.nx O H):ForIt (Ite1 l) g tb D O H:=by
 refine ⟨fun i m O H=>m=xs.length-i/\i<=xs.length/\Pv i O H,⟨xs.length,by simp,F7 _,h0⟩,?_⟩;rintro i m O H ⟨rfl,hi,p⟩;have e1:=hl i O H p
 by_cases C4:i<xs.length
 .refine .inr ⟨⟨xs,xs[i],e1,by simp⟩,Pv (i+1),fun σ' H' p'=>⟨_,by lia,rfl,C4,p'⟩,fun v H' y=>?_⟩;obtain ⟨t,xs',x,f1,hx,ht,rfl,rfl⟩:=y;rw [e1] at f1;cases f1;exact hs i x t O H hx p ht
 .have e:i=xs.length:=by lia
  subst e;exact .inl ⟨⟨xs,e1,by lia⟩,hd O H p⟩
end L2
set_option maxRecDepth 100000
namespace L2
open PySem PySem.Spec PyProof.Rows
noncomputable def uX:V->List V->Hp->VK->Prop:=fun x vs H Q=>∃ (l:Addr) (zs:List Int) (z:Int),x=.ref l/\vs=[.int z]/\H l=some (.lst (zs.map V.int))/\z∈zs/\Q .non (A0 H l (.lst ((zs.erase z).map V.int)))
theorem pY:∀ {vs:List Value} {zs:List Int},IntsAre vs zs->∀ {j:Nat} {z:Int},zs[j]?=some z->∃ t,vs[j]?=some (.int z t)
 | _,_,.nil,_,_,h=>by simp at h
 | _,_,.cons _ _ _,0,_,h=>by simp at h;subst h;exact ⟨_,rfl⟩
 | _,_,.cons _ _ r,j+1,z,h=>by
  obtain ⟨t,q⟩:=pY r (j:=j) (z:=z) (by simpa using h);exact ⟨t,by simpa using q⟩
theorem aiM : iD X "list.remove" uX:=by
 intro pins s O H x vs v us Q I rx rv h;obtain ⟨l,zs,zz,rfl,rfl,hH,hm,q⟩:=h
 cases rx
 obtain ⟨u,rfl,ru⟩:=rv.one;obtain ⟨t,rfl⟩:=ru;obtain ⟨z,its,n,r,hl,e⟩:=I.lstM hH;have sa:=oS r;have hj:zs.idxOf zz<zs.length:=dR.mpr hm;rw [A4] at hl;have K3:∀ (j:Nat) (hj:j<its.toArray.size),∃ y t',zs[j]?=some y/\its.toArray[j]=.int y t':=fun j yP=>by
  have rR:j<zs.length:=by rw [hl];simpa using yP
  obtain ⟨t',ht⟩:=pY sa (j:=j) (z:=zs[j]) (by simp);refine ⟨zs[j],t',by simp,?_⟩
  have:=(F6.mp ht).2
  simpa using this
 have hsz:zs.idxOf zz<its.toArray.size:=by rw [E7,<- hl];exact hj
 refine call_meets F.slot_list_remove ⟨_,e,rfl⟩ F.entry_list_remove (F.args_list_remove_2 _ _)
  (MeetsSeq.list_remove l its.toArray n (.int zz t) (isInt zz) (fun y hy=>eq_isInt zz t sa y (by simpa using hy)) (zs.idxOf zz) hsz ?_ (fun m bB C4=>?_) (by rw [E7,<- hl];rw [A4] at z;exact z)) ⟨e,?_⟩
 .obtain ⟨y,t',h1,h2⟩:=K3 _ hsz;rw [h2]
  have:y=zz:=by
   have:=gM hj
   rw [G0 hj,this] at h1;exact (Option.some.inj h1).symm
  subst this;simp [isInt]
 .obtain ⟨y,t',h1,h2⟩:=K3 _ bB;rw [h2]
  have:y≠zz:=fun q=>by
   obtain ⟨h3,h4⟩:=F6.mp h1
   have:=List.not_of_lt_findIdx (show m<zs.findIdx (· == zz) from C4)
   rw [h4] at this;simp [q] at this
  simp [isInt,this]
 .refine ⟨.non,_,I.lset (its':=its.eraseIdx (zs.idxOf zz)) hH e ?_ ?_ ?_,rfl,q⟩
  .show its.toArray.eraseIdxIfInBounds (zs.idxOf zz)=_;rw [List.eraseIdxIfInBounds_toArray]
  .rw [List.erase_eq_eraseIdx_of_idxOf (l:=zs) (a:=zz) (w:=rfl),uG];exact r.eraseIdx _
  .rw [A4,oF hm];rw [A4] at z;lia
theorem aj9 : QMt X "list.remove" uX:=⟨fun pins s O H x xs v us Q I rx rv h=>aiM pins s O H x xs v us Q I rx rv h⟩
theorem aqX{l:Addr}{zs:List Int}{z:Int}(h:H l=some (.lst (zs.map V.int)))(hm:z∈zs)(q:Q .non (A0 H l (.lst ((zs.erase z).map V.int)))):uX (.ref l) [.int z] H Q:=⟨l,zs,z,rfl,rfl,h,hm,q⟩
noncomputable def rMinL:List V->Hp->VK->Prop:=fun xs H Q=>∃ (p:Addr) (ns:List Int),xs=[.ref p]/\H p=some (.lst (ns.map V.int))/\ns≠[]/\∀ M:Int,M∈ns->(∀ a∈ns,M<=a)->Q (.int M) H
theorem aka(hc:X.calm=true):CallR X (.builtin "min") rMinL:=by
 intro pins s O H xs us Q I r h;obtain ⟨p,ns,rfl,hH,N4,q⟩:=h;obtain ⟨u,rfl,ru⟩:=vals1 r
 cases ru
 obtain ⟨z,its,n,rr,hl,e⟩:=I.lstM hH;have hi:=oS rr;have hL:s.heap.IsList p its.toArray:=⟨_,e,rfl,n,rfl⟩
 obtain ⟨ys,e2⟩:=hi.allInts.items;have n8:ns=ys.toList.map (·.1):=by rw [<- hi.numsOf,<- nums_intItems,<- e2]
 have hsz:0<ys.size:=by
  have h3:=List.length_pos_iff.mpr N4;rw [n8,A4,t8] at h3;exact h3
 rw [e2] at hL;refine min_intList (I.ok.hd hc) hL hsz fun v h' tk hv hk=>?_
 obtain ⟨t,rfl⟩:=intItems_at hv;obtain ⟨h1,h2⟩:=argBest_lt (numAt ys) (ys.size-1);refine ⟨.int _,H,I.kept hk,⟨t,rfl⟩,q _ ?_ fun a ha=>?_⟩
 .rw [n8,numAt_eq];exact getD_mem (by rw [A4,t8];lia)
 .rw [n8] at ha;obtain ⟨j,hj,rfl⟩:=mem_getD ha;rw [A4,t8] at hj;rw [<- numAt_eq];exact h2 j (by lia)
theorem aqY(hc:X.calm=calm:=by rfl):QCall X (.builtin "min") (rCalm calm rMinL):=⟨fun pins s O H xs us Q I r h=>aka (hc.trans h.1) pins s O H xs us Q I r h.2⟩
theorem aqZ : rMinL [.ref p] H Q=∃ ns:List Int,H p=some (.lst (ns.map V.int))/\ns≠[]/\∀ M:Int,M∈ns->(∀ a∈ns,M<=a)->Q (.int M) H:=
 propext ⟨fun ⟨_,ns,e,h⟩=>(by cases e;exact ⟨ns,h⟩),fun ⟨ns,h⟩=>⟨p,ns,rfl,h⟩⟩
noncomputable def iP (n:Nat) (fr:St) (Pv:Nat->List V->Hp->Prop) (i:Nat) (ys:List V) (σ2:St) (H2:Hp):Prop:=i<=n/\ys.length<=i/\(∃ v w,σ2=v::w::fr)/\Pv i ys H2
theorem iP.put{fr:St}{Pv:Nat->List V->Hp->Prop}{y:V}{o o2:Option V}(hi:i<n)(hy:ys.length<=i)(p:Pv (i+1) (ys++[y]) H):iP n fr Pv (i+1) (ys++[y]) (o::o2::fr) H:=
 ⟨hi,by rw [C8,R3];lia,⟨_,_,rfl⟩,p⟩
theorem compE{l:Addr}(fr:St)(U3:compStart 2 ixs O=none::none::fr)(Pv:Addr->Nat->List V->Hp->Prop)(h0:∀ D,H1 D=none->Pv D 0 [] (A0 H1 D (.lst [])))(hl:∀ D i ys H,H1 D=none->i<=xs.length->Pv D i ys H->H l=some (.lst xs))(hs:∀ D i x t ys H,H1 D=none->i<xs.length->xs[i]?=some x->Pv D i ys H->H D=some (.lst ys)->ys.length<=i->H t=none->c (some (.int i)::some x::fr) (A0 H t (.tup [.int i,x])) fun b H4=>
   if b=true then te (some (.int i)::some x::fr) H4 fun y H5=>H5 D=some (.lst ys)/\ys.length<sizeLine/\iP xs.length fr (Pv D) (i+1) (ys++[y]) (some (.int i)::some x::fr) (A0 H5 D (.lst (ys++[y])))
   else H4 D=some (.lst ys)/\iP xs.length fr (Pv D) (i+1) ys (some (.int i)::some x::fr) H4)(hd:∀ D ys H,H1 D=none->Pv D xs.length ys H->H D=some (.lst ys)->ys.length<=xs.length->Q (.ref D) H):aM (lE l) 2 ixs (gTup K 2 (gCons (gName 0) (gCons (gName 1) gNil))) c te O Q H1:=by
 intro D hD;refine ⟨xs.length,iP xs.length fr (Pv D),⟨F7 _,F7 _,⟨none,none,U3⟩,h0 D hD⟩,?_⟩;rintro i ys σ2 H2 ⟨hi,hy,⟨v,w,rfl⟩,p⟩ hDy;have q:=hl D i ys H2 hD hi p
 by_cases C4:i<xs.length
 .refine .inr ⟨C4,⟨xs,xs[i],q,by simp [C4]⟩,fun x H' y=>?_⟩;obtain ⟨t,xs',x',f1,hx,ht,rfl,rfl⟩:=y;rw [q] at f1;cases f1;exact ⟨t,_,rfl,C6.of A2,rfl,_,_,rfl,_,_,rfl,rfl,hs D i x' t ys H2 hD C4 hx p hDy hy ht⟩
 .have e:i=xs.length:=by lia
  subst e;exact .inl ⟨⟨xs,q,B5 _⟩,hd D ys H2 hD p hDy hy⟩
end L2
set_option maxRecDepth 100000
namespace L2
open PySem PySem.Spec PyProof.Rows
section
variable {X:Cx} {o e:Expr} {apos cpos:Pos} {td ty:TE}
theorem alV(ho:QE X o td)(he:QE X e ty)(h1:L1 e=false:=by rfl)(E2:attributeBase o "pop" X.env (eval o X.env)=eval o X.env:=by rfl)(E3:(apos.endLine==cpos.line)=true:=by rfl):QE X (.Call (.Attribute o "pop" apos) [e] [] cpos) (tS td ty):=
 ⟨alg ho.out he.out ⟨E2,by rw [N0 h1];rfl,E3,by rw [N0 h1];rfl⟩⟩
theorem alW : tS td ty O H Q=td O H fun x H1=>∃ a,x=.ref a/\aL H1 a/\ty O H1 fun y H2=>∃ kvs k v,H2 a=some (.dK kvs)/\y=kV k/\valV kvs k=some v/\Q v (A0 H2 a (.dK (dropK kvs k))):=rfl
end
end L2
set_option maxRecDepth 100000
namespace L2
open PySem PySem.Spec PyProof.Rows
section
variable {X:Cx} {o value:Expr} {to tv:TE} {pos tpos:Pos} {st:Stmt} {t:TS} {h₀:ExceptHandler} {hs:List ExceptHandler}
end
end L2
set_option maxRecDepth 100000
namespace L2
open PySem PySem.Spec PyProof.Rows
theorem an9{o i:Expr}{pos:Pos}(ho:QE X o to)(hi:QE X i ti)(ha:∀ v,assign (.Subscript o i pos) X.env v=(do
   let ov <- holding [v] (eval o X.env)
   let iv <- holding [v,ov] (eval i X.env)
   standAt pos
   holding [v,ov,iv] (setItem ov iv v)
   release [v,ov,iv] []):=by intro _;rfl):QG X (.Subscript o i pos) (gSub to ti rSetL):=⟨aoJ ho.out hi.out ak9 ha⟩
theorem aq0{k:Int}{v:V}{Q:Hp->Prop} : rSetL (.ref p) (.int k) v H Q=∃ xs j,H p=some (.lst xs)/\W9 xs.length k=some j/\Q (A0 H p (.lst (xs.set j v))):=
 propext ⟨fun ⟨_,xs,_,j,e1,e2,h⟩=>(by cases e1;cases e2;exact ⟨xs,j,h⟩),fun ⟨xs,j,h⟩=>⟨p,xs,k,j,rfl,rfl,h⟩⟩
end L2
set_option maxRecDepth 100000
namespace L2
open PySem PySem.Spec PyProof.Rows
noncomputable def FS (ts bad:List Str) (z:Str->Prop) (fr:List Int):Prop:=fr.Nodup/\∀ n:Int,n∈fr↔∃ (m:Nat) (q:Str),n=(m:Int)/\ts[m]?=some q/\q∉bad/\z q
theorem FS.nil(z:Str->Prop):FS [] [] z []:=⟨by simp,fun n=>by simp⟩
theorem FS.snoc{z:Str->Prop}(h:FS ts bad z fr)(hi:i=ts.length)(hb:q∉bad):(z q->FS (ts++[q]) bad z (fr++[(i:Int)]))/\(¬ z q->FS (ts++[q]) bad z fr):=by
 have L4:∀ (m:Nat) (x:Str),(ts++[q])[m]?=some x↔(ts[m]?=some x\/(m=i/\x=q)):=fun m x=>by
  rcases gR m ts.length with hm | hm | hm
  .rw [oE hm]
   constructor
   .exact .inl
   .rintro (h | ⟨h,_⟩)
    .exact h
    .lia
  .subst hm;rw [kG (B5 _),Nat.sub_self]
   have:ts[ts.length]?=none:=by simp
   rw [this];simp [hi,eq_comm]
  .have h1:ts[m]?=none:=by simp;lia
   have h2:(ts++[q])[m]?=none:=by simp;lia
   rw [h1,h2]
   simp
   lia
 have mL:(i:Int)∉fr:=fun hm=>by
  obtain ⟨m,x,e,h1,_⟩:=(h.2 _).mp hm
  have:=(F6.mp h1).1
  lia
 refine ⟨fun hz=>⟨?_,fun n=>?_⟩,fun hz=>⟨h.1,fun n=>?_⟩⟩
 .rw [Z5];refine ⟨h.1,by simp,fun x hx y hy e=>mL ?_⟩;rw [<- D1.mp hy,<- e];exact hx
 .rw [D4,h.2,D1]
  constructor
  .rintro (⟨m,x,e,h1,h2,h3⟩ | rfl)
   .exact ⟨m,x,e,(L4 m x).mpr (.inl h1),h2,h3⟩
   .exact ⟨i,q,rfl,(L4 i q).mpr (.inr ⟨rfl,rfl⟩),hb,hz⟩
  .rintro ⟨m,x,e,h1,h2,h3⟩
   rcases (L4 m x).mp h1 with h1 | ⟨rfl,rfl⟩
   .exact .inl ⟨m,x,e,h1,h2,h3⟩
   .exact .inr e
 .rw [h.2]
  constructor
  .rintro ⟨m,x,e,h1,h2,h3⟩;exact ⟨m,x,e,(L4 m x).mpr (.inl h1),h2,h3⟩
  .rintro ⟨m,x,e,h1,h2,h3⟩
   rcases (L4 m x).mp h1 with h1 | ⟨rfl,rfl⟩
   .exact ⟨m,x,e,h1,h2,h3⟩
   .exact absurd h3 hz
theorem ah3(nd:ts.Nodup)(h1:ts[i]?=some q)(h2:ts[j]?=some q):i=j:=by
 obtain ⟨a1,b1⟩:=F6.mp h1;obtain ⟨a2,b2⟩:=F6.mp h2
 have:=p8.mp nd
 rw [bO] at this
 rcases gR i j with hl | hl | hl
 .exact absurd (b1.trans b2.symm) (this i j a1 a2 hl)
 .exact hl
 .exact absurd (b2.trans b1.symm) (this j i a2 a1 hl)
theorem FS.take{z:Str->Prop}(nd:ts.Nodup)(h:FS ts bad z fr){M:Nat}{p:Str}(hp:ts[M]?=some p):FS ts (bad++[p]) z (fr.erase (M:Int)):=by
 refine ⟨h.1.erase _,fun n=>?_⟩;rw [h.1.mem_erase_iff,h.2]
 constructor
 .rintro ⟨N4,m,x,e,h1,h2,h3⟩;refine ⟨m,x,e,h1,fun hm=>?_,h3⟩
  rcases D4.mp hm with hm | hm
  .exact h2 hm
  .rw [D1.mp hm] at h1;exact N4 (by rw [e,ah3 nd h1 hp])
 .rintro ⟨m,x,e,h1,h2,h3⟩;refine ⟨fun e2=>h2 ?_,m,x,e,h1,fun hm=>h2 (N6 _ hm),h3⟩
  have:m=M:=by lia
  subst this;rw [hp] at h1;cases h1
  simp
theorem FS.turn{z z':Str->Prop}(nd:ts.Nodup)(h:FS ts bad z fr)(N4:∀ q,q≠y->(z' q↔z q))(hy:¬ z y)(hm:ts[m]?=some y)(hb:y∉bad):(z' y->FS ts bad z' (fr++[(m:Int)]))/\(¬ z' y->FS ts bad z' fr):=by
 have mL:(m:Int)∉fr:=fun h1=>by
  obtain ⟨k,x,e,h2,_,h3⟩:=(h.2 _).mp h1
  have:k=m:=by lia
  subst this;rw [hm] at h2;cases h2;exact hy h3
 have Y8:∀ (k:Nat) (x:Str),ts[k]?=some x->x≠y\/(k=m/\x=y):=fun k x hk=>by
  by_cases e:x=y
  .subst e;exact .inr ⟨ah3 nd hk hm,rfl⟩
  .exact .inl e
 refine ⟨fun hz=>⟨?_,fun n=>?_⟩,fun hz=>⟨h.1,fun n=>?_⟩⟩
 .rw [Z5];refine ⟨h.1,by simp,fun x hx w hw e=>mL ?_⟩;rw [<- D1.mp hw,<- e];exact hx
 .rw [D4,h.2,D1]
  constructor
  .rintro (⟨k,x,e,h1,h2,h3⟩ | rfl)
   .rcases Y8 k x h1 with c | ⟨_,rfl⟩
    .exact ⟨k,x,e,h1,h2,(N4 x c).mpr h3⟩
    .exact absurd h3 hy
   .exact ⟨m,y,rfl,hm,hb,hz⟩
  .rintro ⟨k,x,e,h1,h2,h3⟩
   rcases Y8 k x h1 with c | ⟨rfl,rfl⟩
   .exact .inl ⟨k,x,e,h1,h2,(N4 x c).mp h3⟩
   .exact .inr e
 .rw [h.2]
  constructor
  .rintro ⟨k,x,e,h1,h2,h3⟩
   rcases Y8 k x h1 with c | ⟨_,rfl⟩
   .exact ⟨k,x,e,h1,h2,(N4 x c).mpr h3⟩
   .exact absurd h3 hy
  .rintro ⟨k,x,e,h1,h2,h3⟩
   rcases Y8 k x h1 with c | ⟨_,rfl⟩
   .exact ⟨k,x,e,h1,h2,(N4 x c).mp h3⟩
   .exact absurd h3 hz
theorem FS.congr{z z':Str->Prop}(h:FS ts bad z fr)(e:∀ q,z' q↔z q):FS ts bad z' fr:=⟨h.1,fun n=>by rw [h.2];exact ⟨fun ⟨m,x,a,b,c,d⟩=>⟨m,x,a,b,c,(e x).mpr d⟩,fun ⟨m,x,a,b,c,d⟩=>⟨m,x,a,b,c,(e x).mp d⟩⟩⟩
theorem ahb{E:List (Str×Str)}(h:FS ts line (fun q=>G1 E line q=0) fr){M:Int}(hM:M∈fr)(fM:∀ a∈fr,M<=a):∃ (m:Nat) (p:Str),M=(m:Int)/\ts[m]?=some p/\nextP E ts line=some p:=by
 obtain ⟨m,p,e,h1,h2,h3⟩:=(h.2 M).mp hM;refine ⟨m,p,e,h1,?_⟩;rw [ae2];obtain ⟨hm,rfl⟩:=F6.mp h1;have e1:ts=ts.take m++ts[m]::ts.drop (m+1):=by rw [<- gG hm,j9]
 generalize hP:(fun p=>!decide (p∈line)&&decide (∀ e∈E,e.2=p->e.1∈line))=P;have hp:P ts[m]=true:=by
  rw [<- hP];simp only [Z7,Bool.not_eq_true',decide_eq_false_iff_not,decide_eq_true_eq];exact ⟨h2,cnt_zero.mp h3⟩
 have mU:(ts.take m).find? P=none:=by
  rw [List.find?_eq_none];intro x hx hxP;obtain ⟨k,hk,rfl⟩:=X7.mp hx;rw [L0] at hk;rw [List.getElem_take,<- hP] at hxP;simp only [Z7,Bool.not_eq_true',decide_eq_false_iff_not,decide_eq_true_eq] at hxP
  have:=fM (k:Int) ((h.2 _).mpr ⟨k,ts[k],rfl,by simp,hxP.1,cnt_zero.mpr hxP.2⟩)
  lia
 conv=>lhs;rw [e1]
 rw [List.find?_append,mU,r8,hp];rfl
theorem alX{E:List (Str×Str)}(r:T8 E ts line)(h:q∈line):G1 E line q=0:=by
 obtain ⟨pre,post,rfl⟩:=List.append_of_mem h
 have:=(iL (r pre q post rfl)).2.2
 rw [cnt_zero] at this ⊢
 intro e he h2;exact N6 _ (this e he h2)
theorem agx{f:Str->V} : ∀ {ts pre:List Str},(pre++ts).Nodup->W5 (A8 pre f) (A8 ts f)=A8 (pre++ts) f
 | [],pre,_=>by rw [N3];rfl
 | t::ts,pre,h=>by
  have ht:t∉pre:=fun hm=>(Z5.mp h).2.2 t hm t L5 rfl
  show W5 (putK (A8 pre f) (Sum.inr t) (f t)) (A8 ts f)=_;rw [cJ _ ht,show A8 (pre++[t]) (fun x=>if x=t then f t else f x)=A8 (pre++[t]) f from U5 fun x _=>by
   by_cases e:x=t
   .rw [if_pos e,e]
   .rw [if_neg e]]
  rw [agx (pre:=pre++[t]) (by simpa using h)]
  simp
theorem ae5:∀ {l m:List Int},l.Nodup->(∀ x∈l,x∈m)->l.length<=m.length
 | [],_,_,_=>F7 _
 | x::l,m,nd,h=>by
  obtain ⟨n1,n2⟩:=V2.mp nd;have hx:=h x L5
  have:=ae5 (l:=l) (m:=m.erase x) n2 fun y hy=>(List.mem_erase_of_ne (fun e=>n1 (by rw [<- e];exact hy))).mpr (h y (M3 _ hy))
  rw [oF hx] at this;have fL:=List.length_pos_of_mem hx;rw [G6];lia
theorem ah4{f:Str->V} : ∀ {qs:List Addr} {ts:List Str},Paired (fun q t=>H q=some (.tup [.str t,f t])) qs ts->Paired (fun q (kx:C1×V)=>C6 K H q [kV kx.1,kx.2]) qs (A8 ts f)
 | _,_,.nil=>.nil
 | _,_,.cons h t=>.cons (.of h) (ah4 t)
theorem midS{t u:TS}(M:St->Hp->Prop)(h:∀ M':St->Hp->Prop,(∀ O H,M O H->M' O H)->t { D with nx:=M' } O H)(h2:∀ σ' H',M σ' H'->u D σ' H'):tSeqM t u D O H:=⟨M,h M fun _ _ h=>h,h2⟩
noncomputable def amD:Sp:=fun vs H Q _=>∃ (a:Addr) (rs:List Addr) (zss:List (List Str)),vs=[.ref a]/\IsRows H a rs zss/\zss.flatten.length<=100000/\
 ∀ l H',H l=none->Same H H'->H' l=some (.lst ((toldL zss).map V.str))->Q (.ref l) H'
noncomputable def iQ:Sp:=fun vs H Q _=>∃ c,vs=[.str ⟨#[c]⟩]/\Q (.bl (figO c)) H
noncomputable def M5 (R:List Rl):List (Str×List Str):=R.filterMap fun z=>if z.1=("great" : Str) then z.2.head?.map fun y=>(y,z.2.drop 1) else none
noncomputable def E1 (R:List Rl):List Str:=G8 [] ((M5 R).map (·.1))
noncomputable def F8 (R:List Rl) (y:Str):List Str:=((M5 R).filter fun e=>decide (e.1=y)).flatMap (·.2)
theorem pZ(A B:List Rl):M5 (A++B)=M5 A++M5 B:=by
 unfold M5;rw [List.filterMap_append]
theorem uY{R:List Rl}{z:Rl}(h:R[i]?=some z):M5 (R.take (i+1))=M5 (R.take i)++M5 [z]:=by
 rw [J7 h,pZ]
theorem qA{z:Rl}(h:z.1≠("great" : Str)):M5 [z]=[]:=by
 unfold M5;rw [dS,if_neg h];rfl
theorem uZ{fs:List Str} : M5 [(("great" : Str),y::fs)]=[(y,fs)]:=by
 unfold M5;rw [dS,if_pos rfl];rfl
theorem vA{A:List Rl}{fs:List Str}(x:Str):F8 (A++[(("great" : Str),y::fs)]) x=if x=y then F8 A x++fs else F8 A x:=by
 unfold F8;rw [pZ,uZ,q0,Z4]
 by_cases h:x=y
 .subst h;simp
 .have:¬ (y=x):=fun e=>h e.symm
  simp [this,h]
theorem qB{A:List Rl}{fs:List Str} : E1 (A++[(("great" : Str),y::fs)])=dd (E1 A) y:=by
 unfold E1 G8;rw [pZ,uZ,D6,aB];rfl
noncomputable def ah5 (K:PySem.W.Frag):Sp:=fun vs H Q _=>∃ (a:Addr) (ts:List Addr) (R:List Rl),vs=[.ref a]/\IsRules H a ts R/\(∀ z∈R,z.1=("great" : Str)->z.2≠[])/\R.length<=1000/\(∀ i y,(F8 (R.take i) y).length<=10000)/\
 ∀ d ad H',H d=none->Same H H'->H' d=some (.dK (A8 (E1 R) fun y=>.ref (ad y)))->DL H H' (E1 R) ad (F8 R)->Q (.ref d) H'
theorem vB(xs:List V)(h:i<=j):cutV xs (some (i:Int)) (some (j:Int))=(xs.drop i).take (j-i):=by
 unfold cutV;rw [HT.sIx_nat,HT.sIx_nat]
 by_cases hi:i<=xs.length
 .rw [gS hi]
  by_cases hj:j<=xs.length
  .rw [gS hj]
  .rw [Nat.min_eq_right (by lia),p9 (by rw [q9];exact B5 _),p9 (by rw [q9];lia)]
 .rw [Nat.min_eq_right (by lia:xs.length<=i),kH (B5 _),kH (by lia),List.take_nil,List.take_nil]
structure Used(ks:List Str)(g:Str->V)(z:Rl):Prop where
 gr:z.1=("great" : Str)->∀ p∈z.2.take 1,p∈ks/\g p=.str "letter"
 a1:z.1=("as" : Str)->∀ p∈(z.2.drop 1).take 1,p∈ks/\g p=.str "letter"
 a2:z.1=("as" : Str)->∀ p∈z.2.drop 2,p∈ks/\(g p=.str "letter"\/g p=.str "mark")
noncomputable def amE (K:PySem.W.Frag):Sp:=fun vs H Q _=>∃ (t d:Addr) (z:Rl) (ks:List Str) (g:Str->V),vs=[.ref t,.ref d]/\H t=some (tupR z)/\H d=some (.dK (A8 ks g))/\Used ks g z/\z.2.length<=1000/\∀ p H',H p=none->Same H H'->H' p=some (.lst [])->Q (.ref p) H'
noncomputable def ah6 (K:PySem.W.Frag):Sp:=fun vs H Q _=>∃ (a d:Addr) (ts:List Addr) (R:List Rl) (ks:List Str) (g:Str->V),vs=[.ref a,.ref d]/\IsRules H a ts R/\H d=some (.dK (A8 ks g))/\(∀ z∈R,Used ks g z/\z.2.length<=1000)/\∀ H',Same H H'->Q .non H'
noncomputable abbrev Tr:=Int×Int×Int
noncomputable def tupT (s:Tr):HO:=.tup [.int s.1,.int s.2.1,.int s.2.2]
structure StepAt(H:Hp)(r:Addr)(ss:List Tr):Prop where
 ex:∃ ts:List Addr,H r=some (.tup (ts.map V.ref))/\Paired (fun t s=>H t=some (tupT s)) ts ss
theorem StepAt.same{ss:List Tr}(h:StepAt H r ss)(S:Same H H'):StepAt H' r ss:=
 let ⟨ts,h1,h2⟩:=h.ex
 ⟨ts,S _ _ h1,T3 h2 fun _ _ e=>S _ _ e⟩
theorem StepAt.put{d:Addr}{ss:List Tr}{o o':HO}(h:StepAt H r ss)(hd:H d=some o')(hn:∀ xs,o'≠.tup xs):StepAt (A0 H d o) r ss:=by
 obtain ⟨ts,h1,h2⟩:=h.ex;refine ⟨ts,?_,T3 h2 fun t s e=>?_⟩
 .rw [A3 (fun e=>by rw [e,hd] at h1;exact hn _ (Option.some.inj h1))];exact h1
 .rw [A3 (fun q=>by rw [q,hd] at e;exact hn _ (Option.some.inj e))];exact e
theorem StepAt.one{t:Addr}{s:Tr}(h1:H r=some (.tup [.ref t]))(h2:H t=some (tupT s)):StepAt H r [s]:=⟨[t],h1,.cons h2 .nil⟩
noncomputable def IsMade (H:Hp) (d:Addr) (ks:List Str) (F:Str->List Tr):Prop:=∃ ad:Str->Addr,H d=some (.dK (A8 ks fun y=>.ref (ad y)))/\∀ y∈ks,StepAt H (ad y) (F y)
theorem IsMade.same{d:Addr}{F:Str->List Tr}(h:IsMade H d ks F)(S:Same H H'):IsMade H' d ks F:=
 let ⟨ad,h1,h2⟩:=h
 ⟨ad,S _ _ h1,fun y hy=>(h2 y hy).same S⟩
theorem IsMade.put{d:Addr}{F:Str->List Tr}{ad:Str->Addr}(h1:H d=some (.dK (A8 ks fun y=>.ref (ad y))))(h2:∀ y∈ks,StepAt H (ad y) (F y)){l:Str}(hp:StepAt H p (F l)) :
  IsMade (A0 H d (.dK (putK (A8 ks fun y=>.ref (ad y)) (Sum.inr l) (.ref p)))) d (dd ks l) F:=by
 refine ⟨fun y=>if y=l then p else ad y,?_,fun y hy=>?_⟩
 .rw [A2];have e:∀ t,(if t=l then V.ref p else V.ref (ad t))=V.ref (if t=l then p else ad t):=fun t=>by
   by_cases h:t=l
   .rw [if_pos h,if_pos h]
   .rw [if_neg h,if_neg h]
  unfold dd
  by_cases hl:l∈ks
  .rw [if_pos hl,pW _ hl];exact congrArg (fun x=>some (HO.dK x)) (U5 fun t _=>e t)
  .rw [if_neg hl,cJ _ hl];exact congrArg (fun x=>some (HO.dK x)) (U5 fun t _=>e t)
 .by_cases h:y=l
  .subst h;show StepAt _ (if y=y then p else ad y) _;rw [if_pos rfl];exact hp.put h1 (by intro xs e;cases e)
  .show StepAt _ (if y=l then p else ad y) _;rw [if_neg h];refine (h2 y ?_).put h1 (by intro xs e;cases e);unfold dd at hy
   by_cases hl:l∈ks
   .rw [if_pos hl] at hy;exact hy
   .rw [if_neg hl] at hy
    rcases D4.mp hy with q | q
    .exact q
    .exact absurd (D1.mp q) h
structure StI(H H2:Hp)(d:Addr)(P:List Str)(F:Str->List Tr):Prop where
 same:Same H H2
 made:IsMade H2 d (G8 [] P) F
theorem alY(P:List Str)(x:Str):G8 [] (P++[x])=dd (G8 [] P) x:=by
 unfold G8;rw [aB];rfl
theorem StI.putX{d:Addr}{P:List Str}{F:Str->List Tr}(nd:H d=none)(h:StI H H2 d P F)(hP:P.length<100000){l:Str}(hp:StepAt H2 p (F l)) :
  ∃ kvs o,H2 d=some (.dK kvs)/\DPut H2 d (V.str l) (V.ref p) (A0 H2 d o)/\StI H (A0 H2 d o) d (P++[l]) F:=by
 obtain ⟨ad,h1,h2⟩:=h.made;have hl:=lB P [];rw [k4,Nat.zero_add] at hl;refine ⟨_,_,h1,v4 (k:=Sum.inr l) h1 (by rw [Q7];exact G5 (by lia)),h.same.put nd,?_⟩;rw [alY];exact IsMade.put h1 h2 hp
theorem StI.put{d:Addr}{P:List Str}{F:Str->List Tr}(nd:H d=none)(h:StI H H2 d P F)(hP:P.length<100000){l:Str}(hp:StepAt H2 p (F l)) :
  ∃ x,DPut H2 d (V.str l) (V.ref p) x/\StI H x d (P++[l]) F:=
 let ⟨_,_,_,h1,h2⟩:=h.putX nd hP hp
 ⟨_,h1,h2⟩
theorem StI.more{d:Addr}{P:List Str}{F:Str->List Tr}(h:StI H H2 d P F)(S:Same H2 H3):StI H H3 d P F:=⟨h.same.trans S,h.made.same S⟩
theorem StI.frz{d:Addr}{P:List Str}{F:Str->List Tr}{o:HO}(h:StI H H2 d P F)(hf:H2 f=some (.dK kvs))(n:H f=none)(nf:f≠d):StI H (A0 H2 f o) d P F:=
 let ⟨ad,h1,h2⟩:=h.made
 ⟨h.same.put n,ad,by rw [A3 nf.symm];exact h1,fun y hy=>(h2 y hy).put hf (by intro xs e;cases e)⟩
theorem StI.thaw{d:Addr}{P:List Str}{F:Str->List Tr}{q:Obj}{o o':HO}(h:StI H H2 d P F)(hf:H2 f=some (.frz q o'))(n:H f=none)(nf:f≠d):StI H (A0 H2 f o) d P F:=
 let ⟨ad,h1,h2⟩:=h.made
 ⟨h.same.put n,ad,by rw [A3 nf.symm];exact h1,fun y hy=>(h2 y hy).put hf (by intro xs e;cases e)⟩
structure FoI(H H2:Hp)(d f:Addr)(o:Obj)(ts:List Str)(af:Str->Addr)(G:Str->List Str)(P:List Str)(F:Str->List Tr):Prop where
 frz:H2 f=some (.frz o (.dK (A8 ts fun y=>.ref (af y))))
 rows:∀ y∈ts,H2 (af y)=some (.lst ((G y).map V.str))
 st:StI H H2 d P F
theorem FoI.more{d:Addr}{o:Obj}{af:Str->Addr}{G:Str->List Str}{P:List Str}{F:Str->List Tr}(h:FoI H H2 d f o ts af G P F)(S:Same H2 H3):FoI H H3 d f o ts af G P F:=⟨S _ _ h.frz,fun y hy=>S _ _ (h.rows y hy),h.st.more S⟩
theorem FoI.put{d:Addr}{o:Obj}{af:Str->Addr}{G:Str->List Str}{P:List Str}{F:Str->List Tr}(nd:H d=none)(h:FoI H H2 d f o ts af G P F)(hP:P.length<100000){l:Str}(hp:StepAt H2 p (F l)) :
  ∃ x,DPut H2 d (V.str l) (V.ref p) x/\FoI H x d f o ts af G (P++[l]) F:=by
 obtain ⟨kvs,o',h0,h1,h2⟩:=h.st.putX nd hP hp;refine ⟨_,h1,?_,fun y hy=>?_,h2⟩
 .rw [A3 (fun e=>by have:=h.frz;rw [e,h0] at this;cases this)];exact h.frz
 .rw [A3 (fun e=>by have:=h.rows y hy;rw [e,h0] at this;cases this)];exact h.rows y hy
theorem StI.putL{d:Addr}{P:List Str}{F:Str->List Tr}{o:HO}(h:StI H H2 d P F)(hf:H2 f=some (.lst xs))(n:H f=none):StI H (A0 H2 f o) d P F:=
 let ⟨ad,h1,h2⟩:=h.made
 ⟨h.same.put n,ad,by rw [A3 (fun e=>by rw [e,hf] at h1;cases h1)];exact h1,fun y hy=>(h2 y hy).put hf (by intro xs e;cases e)⟩
structure AsI(H H7 H2:Hp)(d:Addr)(P:List Str)(F:Str->List Tr)(ts:List Addr)(ss:List Tr):Prop where
 st:StI H H2 d P F
 pr:Paired (fun t s=>H2 t=some (tupT s)) ts ss
 sm:Same H7 H2
theorem AsI.putL{H7:Hp}{d:Addr}{P:List Str}{F:Str->List Tr}{ts:List Addr}{ss:List Tr}{o:HO}(h:AsI H H7 H2 d P F ts ss)(hf:H2 f=some (.lst xs))(n:H f=none)(n7:H7 f=none):AsI H H7 (A0 H2 f o) d P F ts ss:=
 ⟨h.st.putL hf n,T3 h.pr fun t s e=>by rw [A3 (fun q=>by rw [q,hf] at e;cases e)];exact e,h.sm.put n7⟩
noncomputable def asKs (R:List Rl):List Str:=R.filterMap fun z=>if z.1=("as" : Str) then z.2.head? else none
theorem agy{R:List Rl}{z:Rl}(h:R[i]?=some z):asKs (R.take (i+1))=asKs (R.take i)++asKs [z]:=by
 rw [J7 h];unfold asKs;rw [List.filterMap_append]
theorem akb{z:Rl}(h:z.1≠("as" : Str)):asKs [z]=[]:=by
 unfold asKs;rw [dS,if_neg h];rfl
theorem ah7{fs:List Str} : asKs [(("as" : Str),y::fs)]=[y]:=by
 unfold asKs;rw [dS,if_pos rfl];rfl
theorem alZ(R:List Rl):(asKs R).length<=R.length:=List.length_filterMap_le _ _
structure Made(R:List Rl)(L M:List Str)(F:Str->List Tr):Prop where
 lt:∀ (i:Nat) y,L[i]?=some y->F y=[(2,(i:Int),0)]
 mr:∀ (i:Nat) y,M[i]?=some y->F y=[(0,(i:Int),0)]
 gl:∀ y∈E1 R,y∈L
 gr:∀ y∈E1 R,∀ (c:Nat) f,(F8 R y)[c]?=some f->F f=[(2,(L.idxOf y:Int),((c+1:Nat):Int))]
 ne:∀ z∈R,z.1=("as" : Str)\/z.1=("great" : Str)->z.2≠[]
 pt:∀ z∈R,z.1=("as" : Str)->∀ q∈z.2.drop 1,q∈L\/q∈M
 as:∀ z∈R,z.1=("as" : Str)->∀ p qs,z.2=p::qs->F p=qs.map fun q=>(F q).headD (0,0,0)
noncomputable def allKs (R:List Rl) (L M:List Str):List Str:=L++M++(E1 R).flatMap (F8 R)++asKs R
theorem Made.base{R:List Rl}{F:Str->List Tr}(m:Made R L M F)(h:q∈L\/q∈M):∃ s,F q=[s]:=by
 rcases h with h | h
 .obtain ⟨i,hi,e⟩:=X7.mp h;exact ⟨_,m.lt i q (by rw [G0 hi,e])⟩
 .obtain ⟨i,hi,e⟩:=X7.mp h;exact ⟨_,m.mr i q (by rw [G0 hi,e])⟩
theorem Made.letter{R:List Rl}{F:Str->List Tr}(m:Made R L M F)(h:q∈L):F q=[(2,(L.idxOf q:Int),0)]:=by
 have hi:=dR.mpr h;exact m.lt (L.idxOf q) q (by rw [G0 hi,gM])
noncomputable def ah8 (K:PySem.W.Frag):Sp:=fun vs H Q _=>∃ (a b c:Addr) (ts:List Addr) (R:List Rl) (L M:List Str) (F:Str->List Tr),vs=[.ref a,.ref b,.ref c]/\IsRules H a ts R/\Made R L M F/\H b=some (.lst (L.map V.str))/\H c=some (.lst (M.map V.str))/\(∀ z∈R,z.2.length<=1000)/\R.length<=1000/\(∀ i y,(F8 (R.take i) y).length<=10000)/\(allKs R L M).length<=50000/\
 ∀ d H',H d=none->Same H H'->IsMade H' d (G8 [] (allKs R L M)) F->Q (.ref d) H'
noncomputable def baseT (L M:List Str) (q:Str):Tr:=if q∈L then (2,(L.idxOf q:Int),0) else (0,(M.idxOf q:Int),0)
noncomputable def lJ (L M:List Str) (R:List Rl):List (Str×List Tr):=R.filterMap fun z=>if z.1=("as" : Str) then z.2.head?.map fun p=>(p,(z.2.drop 1).map (baseT L M)) else none
noncomputable def putsL (R:List Rl) (L M:List Str):List (Str×List Tr):=
 (L.zipIdx.map fun e=>(e.1,[((2:Int),(e.2:Int),(0:Int))]))++(M.zipIdx.map fun e=>(e.1,[((0:Int),(e.2:Int),(0:Int))]))++((E1 R).flatMap fun y=>(F8 R y).zipIdx.map fun e=>(e.1,[((2:Int),(L.idxOf y:Int),((e.2+1:Nat):Int))]))++lJ L M R
noncomputable def stepF (R:List Rl) (L M:List Str) (p:Str):List Tr:=((putsL R L M).lookup p).getD []
theorem akc{p:Str}{s:List Tr} : ∀ {l:List (Str×List Tr)},(l.map (·.1)).Nodup->(p,s)∈l->l.lookup p=some s
 | [],_,h=>by cases h
 | (y,t)::l,nd,h=>by
  rw [K5,V2] at nd;rw [List.lookup_cons]
  rcases E4.mp h with h | h
  .obtain ⟨rfl,rfl⟩:=Prod.mk.inj h
   simp
  .have:p≠y:=fun e=>nd.1 (E5.mpr ⟨_,h,e⟩)
   have e:(p==y)=false:=by simpa using this
   rw [e];exact akc nd.2 h
theorem agA(R:List Rl)(L M:List Str):(putsL R L M).map (·.1)=allKs R L M:=by
 have z:∀ (l:List Str) (f:Nat->List Tr),(l.zipIdx.map fun e=>(e.1,f e.2)).map (·.1)=l:=fun l f=>by
  rw [g9];exact List.zipIdx_map_fst 0 l
 have a:(lJ L M R).map (·.1)=asKs R:=by
  unfold lJ asKs;rw [List.map_filterMap]
  congr 1
  funext z
  by_cases h:z.1=("as" : Str)
  .rw [if_pos h,if_pos h]
   cases z.2 <;> rfl
  .rw [if_neg h,if_neg h];rfl
 unfold putsL allKs;rw [D6,D6,D6,z L fun i=>[(2,(i:Int),0)],z M fun i=>[(0,(i:Int),0)],a,List.map_flatMap]
 congr 2
 congr 1
 funext y
 exact z (F8 R y) fun i=>[(2,(L.idxOf y:Int),((i+1:Nat):Int))]
theorem iR{R:List Rl}(nd:(allKs R L M).Nodup){p:Str}{s:List Tr}(h:(p,s)∈putsL R L M):stepF R L M p=s:=by
 unfold stepF;rw [akc (by rw [agA];exact nd) h];rfl
theorem aoa{R:List Rl}(nd:(allKs R L M).Nodup)(gl:∀ y∈E1 R,y∈L)(ne:∀ z∈R,z.1=("as" : Str)\/z.1=("great" : Str)->z.2≠[])(pt:∀ z∈R,z.1=("as" : Str)->∀ q∈z.2.drop 1,q∈L\/q∈M):Made R L M (stepF R L M):=by
 have m1:∀ (i:Nat) y,L[i]?=some y->(y,[((2:Int),(i:Int),(0:Int))])∈putsL R L M:=fun i y h=>by
  refine N6 _ (N6 _ (N6 _ (E5.mpr ⟨(y,i),?_,rfl⟩)));rw [List.mem_zipIdx_iff_getElem?];exact h
 have m2:∀ (i:Nat) y,M[i]?=some y->(y,[((0:Int),(i:Int),(0:Int))])∈putsL R L M:=fun i y h=>by
  refine N6 _ (N6 _ (M0 _ (E5.mpr ⟨(y,i),?_,rfl⟩)));rw [List.mem_zipIdx_iff_getElem?];exact h
 have hb:∀ q,q∈L\/q∈M->stepF R L M q=[baseT L M q]:=fun q hq=>by
  unfold baseT
  by_cases h:q∈L
  .rw [if_pos h];have hi:=dR.mpr h;exact iR nd (m1 (L.idxOf q) q (by rw [G0 hi,gM]))
  .rw [if_neg h];have hm:=hq.resolve_left h;have hi:=dR.mpr hm;exact iR nd (m2 (M.idxOf q) q (by rw [G0 hi,gM]))
 refine ⟨fun i y h=>iR nd (m1 i y h),fun i y h=>iR nd (m2 i y h),gl,fun y hy c f h=>iR nd ?_,ne,pt,fun z hz e p qs ez=>?_⟩
 .refine N6 _ (M0 _ (g8.mpr ⟨y,hy,E5.mpr ⟨(f,c),?_,rfl⟩⟩));rw [List.mem_zipIdx_iff_getElem?];exact h
 .have:(p,qs.map (baseT L M))∈putsL R L M:=M0 _ (gL.mpr ⟨z,hz,by rw [if_pos e,ez];rfl⟩)
  rw [iR nd this];refine gJ fun q hq=>?_
  rw [hb q (pt z hz e q (by rw [ez];exact hq))];rfl
theorem aob{g:Str->Str}{PL:List (Str×Str)}(nc:NC fg g PL):PL.Pairwise fun a b=>a.1=b.1->b.2∈lG:=by
 rw [bO];intro i j hi hj P0 e;refine (nc j PL[j].1 PL[j].2 (by rw [G0 hj])).2.1 ?_;rw [<- e];refine E5.mpr ⟨PL[i],?_,rfl⟩;rw [List.mem_take_iff_getElem];exact ⟨i,by lia,rfl⟩
theorem lK{g:Str->Str}{PL:List (Str×Str)}(nc:NC fg g PL){p j:Str}(h:(p,j)∈PL):g p=j:=by
 obtain ⟨i,hi,e⟩:=X7.mp h;exact (nc i p j (by rw [G0 hi,e])).1.symm
theorem akd{g:Str->Str}{PL:List (Str×Str)}(nc:NC fg g PL){j:Str}(hj:j∉lG):((PL.filter fun e=>decide (e.2=j)).map (·.1)).Nodup:=by
 rw [p8,List.pairwise_map];refine List.Pairwise.imp_of_mem ?_ ((aob nc).filter _);intro a b _ hb h e
 have:=h e
 have hb2:b.2=j:=by simpa using (W0.mp hb).2
 rw [hb2] at this;exact hj this
theorem qC{w:Str}(h:eP w):(jobD w=("great" : Str)↔w="great")/\(jobD w=("as" : Str)↔w="as")/\(jobD w=("letter" : Str)↔w="row")/\(jobD w=("mark" : Str)↔w="marks")/\(jobD w=("over" : Str)↔w="over"):=by
 rcases h with rfl | rfl | rfl | rfl | rfl <;> decide +kernel
theorem agC{R:List Rl}{p j:Str} : (p,j)∈D0 R↔∃ z∈R,p∈N9 z/\jobD z.1=j:=by
 unfold D0;rw [g8]
 constructor
 .rintro ⟨z,hz,h⟩;obtain ⟨q,hq,e⟩:=E5.mp h;obtain ⟨rfl,rfl⟩:=Prod.mk.inj e;exact ⟨z,hz,hq,rfl⟩
 .rintro ⟨z,hz,hp,rfl⟩;exact ⟨z,hz,E5.mpr ⟨p,hp,rfl⟩⟩
theorem eQ(z:Rl)(R:List Rl):D0 (z::R)=((N9 z).map fun p=>(p,jobD z.1))++D0 R:=by
 unfold D0;rw [g7]
theorem m4{z:Rl} : (z.1=("great" : Str)->N9 z=z.2.drop 1)/\(z.1=("as" : Str)->N9 z=z.2.take 1)/\(z.1=("row" : Str)\/z.1=("marks" : Str)\/z.1=("over" : Str)->N9 z=z.2):=by
 unfold N9;refine ⟨fun h=>by rw [if_pos h],fun h=>?_,fun h=>?_⟩
 .rw [if_neg (by rw [h];decide +kernel),if_pos h]
 .rw [if_neg,if_neg,if_pos h]
  .rcases h with h | h | h <;> rw [h] <;> decide +kernel
  .rcases h with h | h | h <;> rw [h] <;> decide +kernel
theorem lL:∀ R:List Rl,((D0 R).filter fun e=>decide (e.2=("great" : Str))).map (·.1)=(M5 R).flatMap (·.2)
 | []=>rfl
 | z::R=>by
  rw [eQ,q0,D6,lL R];have e:M5 (z::R)=M5 [z]++M5 R:=pZ [z] R;rw [e,Z4]
  congr 1
  by_cases h:z.1=("great" : Str)
  .obtain ⟨w,ps⟩:=z;obtain rfl:w=("great" : Str):=h;rw [m4.1 rfl,List.filter_eq_self.mpr,g9]
   .cases ps with
    | nil=>simp [M5]
    | cons y fs=>
     rw [uZ];show List.map _ fs=_;simp [Function.comp_def]
   .intro a ha;obtain ⟨q,_,rfl⟩:=E5.mp ha;exact decide_eq_true (show jobD "great"=("great" : Str) by decide +kernel)
  .rw [qA h,oG.mpr]
   .rfl
   .intro a ha;obtain ⟨q,hq,rfl⟩:=E5.mp ha
    have:=(qC (lI hq)).1
    simp only [decide_eq_true_eq];exact fun e=>h (this.mp e)
theorem qD:∀ R:List Rl,((D0 R).filter fun e=>decide (e.2=("as" : Str))).map (·.1)=asKs R
 | []=>rfl
 | z::R=>by
  rw [eQ,q0,D6,qD R];have e:asKs (z::R)=asKs [z]++asKs R:=by unfold asKs;rw [<- List.filterMap_append];rfl
  rw [e]
  congr 1
  by_cases h:z.1=("as" : Str)
  .obtain ⟨w,ps⟩:=z;obtain rfl:w=("as" : Str):=h;rw [m4.2.1 rfl,List.filter_eq_self.mpr,g9]
   .cases ps with
    | nil=>simp [asKs]
    | cons y fs=>
     rw [ah7];rfl
   .intro a ha;obtain ⟨q,_,rfl⟩:=E5.mp ha;exact decide_eq_true (show jobD "as"=("as" : Str) by decide +kernel)
  .rw [akb h,oG.mpr]
   .rfl
   .intro a ha;obtain ⟨q,hq,rfl⟩:=E5.mp ha
    have:=(qC (lI hq)).2.1
    simp only [decide_eq_true_eq];exact fun e=>h (this.mp e)
theorem agD{R:List Rl}{w p:Str} : p∈(rowsW R w).flatten↔∃ z∈R,z.1=w/\p∈z.2:=by
 unfold rowsW;rw [List.mem_flatten]
 constructor
 .rintro ⟨l,hl,hp⟩;obtain ⟨z,hz,rfl⟩:=E5.mp hl;obtain ⟨h1,h2⟩:=W0.mp hz;exact ⟨z,h1,by simpa using h2,hp⟩
 .rintro ⟨z,hz,e,hp⟩;exact ⟨z.2,E5.mpr ⟨z,W0.mpr ⟨hz,by simpa using e⟩,rfl⟩,hp⟩
theorem mem_letter{R:List Rl}{p:Str} : (p,("letter" : Str))∈D0 R↔p∈(rowsW R "row").flatten:=by
 rw [agC,agD]
 constructor
 .rintro ⟨z,hz,hp,e⟩
  have:=(qC (lI hp)).2.2.1.mp e
  exact ⟨z,hz,this,by rw [m4.2.2 (.inl this)] at hp;exact hp⟩
 .rintro ⟨z,hz,e,hp⟩;exact ⟨z,hz,by rw [m4.2.2 (.inl e)];exact hp,by rw [e];decide +kernel⟩
theorem mem_mark{R:List Rl}{p:Str} : (p,("mark" : Str))∈D0 R↔p∈(rowsW R "marks").flatten:=by
 rw [agC,agD]
 constructor
 .rintro ⟨z,hz,hp,e⟩
  have:=(qC (lI hp)).2.2.2.1.mp e
  exact ⟨z,hz,this,by rw [m4.2.2 (.inr (.inl this))] at hp;exact hp⟩
 .rintro ⟨z,hz,e,hp⟩;exact ⟨z,hz,by rw [m4.2.2 (.inr (.inl e))];exact hp,by rw [e];decide +kernel⟩
theorem vC{zss:List (List Str)}{p:Str} : p∈toldL zss↔p∈zss.flatten:=by
 unfold toldL;rw [pJ,v7]
 simp
theorem cL{R:List Rl}{w:Str}(h:Y2 R w L){p:Str} : p∈L↔p∈(rowsW R w).flatten:=by
 rw [<- vC];exact ⟨h.1.sub,h.2 p⟩
structure GoodR(g:Str->Str)(r1 r2:Str->Nat)(R:List Rl):Prop where
 len:R.length<=1000
 plen:(D0 R).length<=10000
 nc:NC (hasW R "figures") g (D0 R)
 nb:(" " : Str)∉(D0 R).map (·.1)
 zl:∀ z∈R,z.2.length<=1000
 ne:∀ z∈R,z.1=("as" : Str)\/z.1=("great" : Str)->z.2≠[]
 gl:∀ z∈R,z.1=("great" : Str)->∀ p∈z.2.take 1,(p,("letter" : Str))∈D0 R
 al:∀ z∈R,z.1=("as" : Str)->∀ p∈(z.2.drop 1).take 1,(p,("letter" : Str))∈D0 R
 am:∀ z∈R,z.1=("as" : Str)->∀ p∈z.2.drop 2,(p,("letter" : Str))∈D0 R\/(p,("mark" : Str))∈D0 R
 f1:(rowsW R "row").flatten.length<=10000
 f2:(rowsW R "marks").flatten.length<=10000
 a1:∀ e∈edges (rowsW R "row"),r1 e.1<r1 e.2
 a2:∀ e∈edges (rowsW R "marks"),r2 e.1<r2 e.2
theorem GoodR.job{g:Str->Str}{r1 r2:Str->Nat}{R:List Rl}(h:GoodR g r1 r2 R){p j:Str}(hp:(p,j)∈D0 R):p∈keysP (D0 R)++Y1 R/\jobG g p=.str j:=by
 have hm:p∈(D0 R).map (·.1):=E5.mpr ⟨_,hp,rfl⟩;refine ⟨N6 _ ((lH _ _).mpr hm),?_⟩;unfold jobG;rw [if_neg (fun e=>h.nb (by rw [<- e];exact hm)),lK h.nc hp]
theorem GoodR.used{g:Str->Str}{r1 r2:Str->Nat}{R:List Rl}(h:GoodR g r1 r2 R){z:Rl}(hz:z∈R):Used (keysP (D0 R)++Y1 R) (jobG g) z:=
 ⟨fun e p hp=>h.job (h.gl z hz e p hp),fun e p hp=>h.job (h.al z hz e p hp),fun e p hp=>(h.am z hz e p hp).elim (fun q=>⟨(h.job q).1,.inl (h.job q).2⟩) fun q=>⟨(h.job q).1,.inr (h.job q).2⟩⟩
theorem forms_mem{R:List Rl}{f:Str} : f∈F8 R y↔∃ e∈M5 R,e.1=y/\f∈e.2:=by
 unfold F8;rw [g8]
 constructor
 .rintro ⟨e,he,hf⟩;obtain ⟨h1,h2⟩:=W0.mp he;exact ⟨e,h1,by simpa using h2,hf⟩
 .rintro ⟨e,he,h,hf⟩;exact ⟨e,W0.mpr ⟨he,by simpa using h⟩,hf⟩
theorem mem_formKs{R:List Rl} : y∈E1 R↔∃ e∈M5 R,e.1=y:=by
 unfold E1;rw [v7,E5]
 simp
theorem amF{g:Str->Str}{r1 r2:Str->Nat}{R:List Rl}(h:GoodR g r1 r2 R)(hL:Y2 R "row" L)(hM:Y2 R "marks" M):(allKs R L M).Nodup:=by
 have Z:((M5 R).flatMap (·.2)).Nodup:=by rw [<- lL];exact akd h.nc (by decide +kernel)
 have jl:∀ p∈L,g p="letter":=fun p hp=>lK h.nc (mem_letter.mpr ((cL hL).mp hp))
 have jm:∀ p∈M,g p="mark":=fun p hp=>lK h.nc (mem_mark.mpr ((cL hM).mp hp))
 have jf:∀ p∈(E1 R).flatMap (F8 R),g p="great":=fun p hp=>by
  obtain ⟨y,_,hp⟩:=g8.mp hp;obtain ⟨e,he,_,hf⟩:=forms_mem.mp hp
  have:p∈(M5 R).flatMap (·.2):=g8.mpr ⟨e,he,hf⟩
  rw [<- lL] at this;obtain ⟨⟨q,j⟩,hq,rfl⟩:=E5.mp this;obtain ⟨h1,h2⟩:=W0.mp hq;have h2:j=("great" : Str):=by simpa using h2
  subst h2;exact lK h.nc h1
 have ja:∀ p∈asKs R,g p="as":=fun p hp=>by
  rw [<- qD] at hp;obtain ⟨⟨q,j⟩,hq,rfl⟩:=E5.mp hp;obtain ⟨h1,h2⟩:=W0.mp hq;have h2:j=("as" : Str):=by simpa using h2
  subst h2;exact lK h.nc h1
 have nf:((E1 R).flatMap (F8 R)).Nodup:=by
  rw [p8,List.pairwise_flatMap] at Z ⊢
  obtain ⟨z1,z2⟩:=Z;refine ⟨fun y _=>?_,?_⟩
  .unfold F8;rw [List.pairwise_flatMap];exact ⟨fun e he=>z1 e (W0.mp he).1,z2.filter _⟩
  .have nk:(E1 R).Nodup:=by unfold E1;exact uK (by simp)
   refine List.Pairwise.imp ?_ (p8.mp nk);intro y y' hyy f hf f' hf' e;subst e;obtain ⟨e1,h1,r1,f1⟩:=forms_mem.mp hf;obtain ⟨e2,h2,r2,f2⟩:=forms_mem.mp hf';obtain ⟨i,hi,q1⟩:=X7.mp h1;obtain ⟨j,hj,q2⟩:=X7.mp h2;rw [bO] at z2
   rcases gR i j with c | c | c
   .exact z2 i j hi hj c f (by rw [q1];exact f1) f (by rw [q2];exact f2) rfl
   .subst c;exact hyy (by rw [<- r1,<- r2,<- q1,<- q2])
   .exact z2 j i hj hi c f (by rw [q2];exact f2) f (by rw [q1];exact f1) rfl
 have na:(asKs R).Nodup:=by rw [<- qD];exact akd h.nc (by decide +kernel)
 have n1:("letter" : Str)≠"mark"/\("letter" : Str)≠"great"/\("letter" : Str)≠"as"/\("mark" : Str)≠"great"/\("mark" : Str)≠"as"/\("great" : Str)≠"as":=by decide +kernel
 unfold allKs;rw [Z5,Z5,Z5];refine ⟨⟨⟨hL.1.nodup,hM.1.nodup,fun a ha b hb e=>?_⟩,nf,fun a ha b hb e=>?_⟩,na,fun a ha b hb e=>?_⟩
 .subst e;exact n1.1 ((jl a ha).symm.trans (jm a hb))
 .subst e
  rcases D4.mp ha with ha | ha
  .exact n1.2.1 ((jl a ha).symm.trans (jf a hb))
  .exact n1.2.2.2.1 ((jm a ha).symm.trans (jf a hb))
 .subst e
  rcases D4.mp ha with ha | ha
  .rcases D4.mp ha with ha | ha
   .exact n1.2.2.1 ((jl a ha).symm.trans (ja a hb))
   .exact n1.2.2.2.2.1 ((jm a ha).symm.trans (ja a hb))
  .exact n1.2.2.2.2.2 ((jf a ha).symm.trans (ja a hb))
theorem aoc{g:Str->Str}{r1 r2:Str->Nat}{R:List Rl}(h:GoodR g r1 r2 R)(hL:Y2 R "row" L)(hM:Y2 R "marks" M):Made R L M (stepF R L M):=by
 refine aoa (amF h hL hM) (fun y hy=>?_) h.ne fun z hz e q hq=>?_
 .obtain ⟨e,he,rfl⟩:=mem_formKs.mp hy;unfold M5 at he;obtain ⟨z,hz,hh⟩:=gL.mp he
  by_cases hg:z.1=("great" : Str)
  .rw [if_pos hg] at hh;obtain ⟨w,ps⟩:=z
   cases ps with
   | nil=>cases hh
   | cons y fs=>
    have hh:=Option.some.inj hh;rw [<- hh];exact (cL hL).mpr (mem_letter.mp (h.gl _ hz hg y (by simp)))
  .rw [if_neg hg] at hh;cases hh
 .rw [<- j9 1 (z.2.drop 1)] at hq
  rcases D4.mp hq with hq | hq
  .exact .inl ((cL hL).mpr (mem_letter.mp (h.al z hz e q hq)))
  .rw [List.drop_drop] at hq
   rcases h.am z hz e q hq with h1 | h1
   .exact .inl ((cL hL).mpr (mem_letter.mp h1))
   .exact .inr ((cL hM).mpr (mem_mark.mp h1))
theorem aod{g:Str->Str}{r1 r2:Str->Nat}{R:List Rl}(h:GoodR g r1 r2 R)(hL:Y2 R "row" L)(hM:Y2 R "marks" M):(allKs R L M).length<=10000:=by
 refine K6 ?_ h.plen
 have:=List.Nodup.length_le_of_subset (l₂:=(D0 R).map (·.1)) (amF h hL hM) fun p hp=>by
  unfold allKs at hp
  rcases D4.mp hp with hp | hp
  .rcases D4.mp hp with hp | hp
   .rcases D4.mp hp with hp | hp
    .exact E5.mpr ⟨_,mem_letter.mpr ((cL hL).mp hp),rfl⟩
    .exact E5.mpr ⟨_,mem_mark.mpr ((cL hM).mp hp),rfl⟩
   .obtain ⟨y,_,hp⟩:=g8.mp hp;obtain ⟨e,he,_,hf⟩:=forms_mem.mp hp
    have:p∈(M5 R).flatMap (·.2):=g8.mpr ⟨e,he,hf⟩
    rw [<- lL] at this;obtain ⟨q,hq,rfl⟩:=E5.mp this;exact E5.mpr ⟨q,(W0.mp hq).1,rfl⟩
  .rw [<- qD] at hp;obtain ⟨q,hq,rfl⟩:=E5.mp hp;exact E5.mpr ⟨q,(W0.mp hq).1,rfl⟩
 rw [A4] at this;exact this
theorem ake{g:Str->Str}{r1 r2:Str->Nat}{R:List Rl}(h:GoodR g r1 r2 R)(i:Nat)(y:Str):(F8 (R.take i) y).length<=10000:=by
 refine K6 ?_ h.plen;have h1:(F8 (R.take i) y).length<=((M5 (R.take i)).flatMap (·.2)).length:=by
  unfold F8;generalize M5 (R.take i)=E
  induction E with
  | nil=>exact B5 _
  | cons e E ih=>
   rw [gQ]
   split
   .rw [g7,g7,C8,C8];lia
   .rw [g7,C8];lia
 have h2:((M5 (R.take i)).flatMap (·.2)).length<=(D0 (R.take i)).length:=by
  rw [<- lL,A4];exact oH _ _
 obtain ⟨more,e⟩:=agw R i;rw [e,C8];lia
theorem IsMade.mod{d:Addr}{F:Str->List Tr}{o o':HO}(h:IsMade H d ks F)(ha:H a=some o')(hn:∀ xs,o'≠.tup xs)(nd:d≠a):IsMade (A0 H a o) d ks F:=
 let ⟨ad,h1,h2⟩:=h
 ⟨ad,by rw [A3 nd];exact h1,fun y hy=>(h2 y hy).put ha hn⟩
structure IsOrd(C:Addr)(H:Hp)(x j ll ml md:Addr)(g:Str->Str)(R:List Rl)(L M:List Str):Prop where
 ob:∃ dx,H x=some (.ins C dx (ordF (hasW R "figures") (hasW R "behind") j ll ml md))
 jobs:H j=some (.dK (A8 (keysP (D0 R)++Y1 R) (jobG g)))
 lets:H ll=some (.lst (L.map V.str))
 mrks:H ml=some (.lst (M.map V.str))
 made:IsMade H md (G8 [] (allKs R L M)) (stepF R L M)
 l1:Y2 R "row" L
 l2:Y2 R "marks" M
theorem IsOrd.same{x j ll ml md:Addr}{g:Str->Str}{R:List Rl}(h:IsOrd C H x j ll ml md g R L M)(s:Same H H'):IsOrd C H' x j ll ml md g R L M:=
 ⟨let ⟨dx,e⟩:=h.ob;⟨dx,s _ _ e⟩,s _ _ h.jobs,s _ _ h.lets,s _ _ h.mrks,h.made.same s,h.l1,h.l2⟩
noncomputable def vD (C:Addr):Sp:=fun vs H Q _=>∃ (x dx a:Addr) (ts:List Addr) (R:List Rl) (g:Str->Str) (r1 r2:Str->Nat),vs=[.ref x,.ref a]/\H x=some (.ins C dx [])/\IsRules H a ts R/\GoodR g r1 r2 R/\
 ∀ j ll ml md L M H',H j=none->H ll=none->H ml=none->H md=none->SameBut x H H'->IsOrd C H' x j ll ml md g R L M->Q .non H'
end L2
set_option maxRecDepth 100000
namespace L2
open PySem PySem.Spec PyProof.Rows
structure RulesAt(H0 H:Hp)(a:Addr)(ts:List Addr)(R:List Rl):Prop where
 rows:IsRules H a ts R
 nd:(a::ts).Nodup
 new:∀ r∈a::ts,H0 r=none
 same:Same H0 H
theorem RulesAt.live{R:List Rl}(h:RulesAt H0 H a rs R)(hr:r∈a::rs):∃ o,H r=some o:=by
 rcases E4.mp hr with h' | h'
 .subst h';exact ⟨_,h.rows.top⟩
 .obtain ⟨i,hi,rfl⟩:=X7.mp h';obtain ⟨zs,_,h2⟩:=Paired.at h.rows.row (i:=i) (a:=rs[i]) (by simp [hi]);exact ⟨_,h2⟩
theorem RulesAt.grow{q:Addr}{R:List Rl}(h:RulesAt H0 H a rs R)(S:Same H H')(hq:H q=none){z:Rl}(aW:H' q=some (tupR z)):RulesAt H0 (A0 H' a (.lst (rs.map V.ref++[V.ref q]))) a (rs++[q]) (R++[z]):=by
 have nq:∀ r∈a::rs,r≠q:=fun r hr e=>by
  obtain ⟨o,e'⟩:=h.live hr;rw [e,hq] at e';cases e'
 obtain ⟨na,_⟩:=V2.mp h.nd;refine ⟨⟨by rw [A2,D6];rfl,?_⟩,?_,?_,?_⟩
 .refine Paired.snoc (eG h.rows.row fun r hr zs h=>?_) ?_
  .rw [A3 (fun e:r=a=>na (by rw [<- e];exact hr))];exact S _ _ h
  .rw [A3 (nq a L5).symm];exact aW
 .show (a::(rs++[q])).Nodup;exact iF h.nd fun e=>nq q e rfl
 .intro r hr
  rcases E4.mp hr with e | e
  .exact h.new r (by rw [e];exact L5)
  .rcases D4.mp e with e | e
   .exact h.new r (M3 _ e)
   .rw [D1.mp e];exact h.same.free hq
 .exact (h.same.trans S).put (h.new a L5)
theorem RulesAt.put{ts:List Addr}{R:List Rl}{o:HO}(h:RulesAt H0 H a ts R)(hr:r∉a::ts)(n:H0 r=none):RulesAt H0 (A0 H r o) a ts R:=
 ⟨⟨by rw [A3 (fun e=>hr (by rw [<- e];exact L5))];exact h.rows.top,eG h.rows.row fun t ht z e=>by rw [A3 (fun q=>hr (by rw [<- q];exact M3 _ ht))];exact e⟩,h.nd,h.new,h.same.put n⟩
theorem aiN{E:List (Str×Str)}(r:T8 E ts line){e:Str×Str}(he:e∈E)(h2:e.2∈line):line.idxOf e.1<line.idxOf e.2:=by
 obtain ⟨pre,post,el⟩:=List.append_of_mem h2;obtain ⟨h3,h4,h5⟩:=iL (r pre e.2 post el);have h6:=cnt_zero.mp h5 e he rfl;rw [el,List.idxOf_append,if_pos h6,List.idxOf_append,if_neg h4]
 have:=dR.mpr h6
 lia
theorem akf{E:List (Str×Str)}(nd:ps.Nodup)(tnd:ts.Nodup)(r:T8 E ts line)(cov:∀ p∈ts,p∈line)(hm:∀ p,p∈ts↔p∈ps)(hE:∀ e∈U4 ps,e∈E):line=ps:=by
 have hl:line.length=ps.length:=by
  rw [pV tnd r cov];exact ((List.perm_ext_iff_of_nodup tnd nd).mpr fun a=>hm a).length_eq
 have L4:∀ p∈ps,p∈line:=fun p hp=>cov p ((hm p).mpr hp)
 have C4:∀ i (h:i<ps.length),line.idxOf ps[i]<ps.length:=fun i h=>by
  rw [<- hl];exact dR.mpr (L4 _ (gP h))
 have step:∀ i (h:i+1<ps.length),line.idxOf ps[i]<line.idxOf ps[i+1]:=fun i h=>by
  have he:(ps[i],ps[i+1])∈U4 ps:=by
   have:=ags (zs:=ps) (j:=i) (x:=ps[i]) (y:=ps[i+1]) (G0 (by lia)) (by rw [List.getElem?_tail];exact G0 h)
   exact K4 this
  exact aiN r (hE _ he) (L4 _ (gP h))
 have up:∀ i (h:i<ps.length),i<=line.idxOf ps[i]:=by
  intro i
  induction i with
  | zero=>intro h;exact F7 _
  | succ i ih=>
   intro h
   have:=ih (by lia)
   have:=step i h
   lia
 have down:∀ d i (h:i<ps.length),ps.length-1-i=d->line.idxOf ps[i]<=i:=by
  intro d
  induction d with
  | zero=>
   intro i h e
   have:=C4 i h
   lia
  | succ d ih=>
   intro i h e;have h1:=ih (i+1) (by lia) (by lia);have h2:=step i (by lia);lia
 refine List.ext_getElem hl fun i h1 h2=>?_
 have e:line.idxOf ps[i]=i:=Nat.le_antisymm (down _ i h2 rfl) (up i h2)
 have:=gM (x:=ps[i]) (xs:=line) (by rw [e];exact h1)
 simp only [e] at this;exact this
noncomputable def vE (ns:List Int) (k:Int) (p:Str):Prop:=∃ rest:List Nat,p.cps.toList=iN ns k::rest/\rest.length<=1/\∀ c∈rest,∃ m:Int,c=iN ns m
noncomputable def PcS (ns:List Int) (S:Int->Prop) (p:Str):Prop:=∃ k,S k/\vE ns k p
structure Dis(ns:List Int)(S:Int->Prop)(ps:List Str):Prop where
 nd:ps.Nodup
 pc:∀ p∈ps,PcS ns S p
 uq:∀ p∈ps,∀ q∈ps,∀ k:Int,20<=k->k<83->vE ns k p->vE ns k q->p=q
noncomputable def LetS (k:Int):Prop:=0<=k/\k<16
structure LetW(ns:List Int)(n:Int)(ps:List Str):Prop where
 n0:2<=n
 n1:n<=16
 all:∀ k:Int,0<=k->k<n->one (iN ns k)∈ps
 each:∀ p∈ps,∃ k:Int,0<=k/\k<n/\(p=one (iN ns k)\/∃ m:Int,0<=m/\m<n/\p=one (iN ns k)++one (iN ns m))
noncomputable def OthZ (ls ms:List Str) (z:Rl):Prop:=(z.1=("great" : Str)/\∃ l fs,z.2=l::fs/\l∈ls/\1<=fs.length/\fs.length<=2)\/(z.1=("as" : Str)/\∃ p q qs,z.2=p::q::qs/\q∈ls/\(∀ r∈qs,r∈ls\/r∈ms)/\qs.length<=2)\/(z.1=("over" : Str)/\z.2.length<=2)
noncomputable def GS (i:Nat) (k:Int):Prop:=(30<=k/\k<30+(i:Int))\/(34<=k/\k<34+(i:Int))
noncomputable def AS (i:Nat) (k:Int):Prop:=GS 3 k\/(40<=k/\k<40+(i:Int))
noncomputable def OS (k:Int):Prop:=AS 3 k\/(50<=k/\k<52)
noncomputable def MarkS (k:Int):Prop:=20<=k/\k<25
noncomputable def flagW (w:Str):Prop:=w=("figures" : Str)\/w=("behind" : Str)\/w=("blanks" : Str)
theorem flagW.no{w:Str}(h:flagW w):w≠"row"/\w≠"marks"/\w≠"great"/\w≠"as"/\w≠"over":=by
 rcases h with rfl | rfl | rfl <;> decide +kernel
theorem aiO{w:Str}(h:flagW w):N9 (w,[])=[]:=by
 obtain ⟨n1,n2,n3,n4,n5⟩:=h.no;unfold N9;rw [if_neg n3,if_neg n4]
 split <;> rfl
structure RulP(ns:List Int)(ls ms:List Str)(b:Bool)(n:Nat)(R:List Rl):Prop where
 dis:Dis ns (fun k=>LetS k\/OS k\/(b=true/\MarkS k)) ((D0 R).map (·.1))
 row:rowsW R "row"=[ls]
 mrk:rowsW R "marks"=if b=true then [ms] else []
 each:∀ z∈R,z=(("row" : Str),ls)\/(z=(("marks" : Str),ms)/\b=true)\/OthZ ls ms z\/(z.2=[]/\flagW z.1)
 len:R.length<=n
 fig:hasW R "figures"=true->uU ns=false
 oi:∀ z∈R,OthZ ls ms z->∀ p∈N9 z,PcS ns OS p
noncomputable def gOf (R:List Rl) (p:Str):Str:=((D0 R).lookup p).getD ""
theorem agE(nd:ps.Nodup){e:Str×Str}(he:e∈U4 ps):ps.idxOf e.1<ps.idxOf e.2:=by
 unfold U4 at he;obtain ⟨i,hi,e1⟩:=X7.mp he;rw [List.getElem_zip] at e1;have f7:i+1<ps.length:=by rw [List.length_zip,List.length_tail] at hi;lia
 have hi3:i<ps.tail.length:=by rw [List.length_tail];lia
 have e3:ps.tail[i]'hi3=ps[i+1]:=List.getElem_tail hi3;have f1:ps[i]=e.1:=congrArg Prod.fst e1;have f2:ps[i+1]=e.2:=e3.symm.trans (congrArg Prod.snd e1);have a1:ps.idxOf ps[i]=i:=List.Nodup.idxOf_getElem nd i (by lia);have a2:ps.idxOf ps[i+1]=i+1:=List.Nodup.idxOf_getElem nd (i+1) f7;rw [<- f1,<- f2,a1,a2];lia
structure RulG(ns:List Int)(ls ms:List Str)(R:List Rl):Prop where
 p:∃ b,RulP ns ls ms b 12 R/\(b=false->ms=[])
 l0:2<=ls.length
 l1:ls.length<=19
 ld:Dis ns LetS ls
 lw:∃ n,LetW ns n ls
 m1:ms.length<=4
 md:Dis ns MarkS ms
theorem RulesAt.more{ts:List Addr}{R:List Rl}(h:RulesAt H0 H a ts R)(S:Same H H'):RulesAt H0 H' a ts R:=⟨h.rows.same S,h.nd,h.new,h.same.trans S⟩
theorem qE(c d:Nat):(two c d).cps.toList=[c,d]:=rfl
theorem aoe(c:Nat):(one c).cps.toList=[c]:=rfl
end L2
set_option maxRecDepth 100000
namespace L2
open PySem PySem.Spec PyProof.Rows
noncomputable def rIntU:List V->Hp->VK->Prop
 | [.bl b],H,Q=>Q (.int (if b then 1 else 0)) H
 | [.str x],H,Q=>PySem.NumText.AllDigits x.cps.toList/\1<=x.length/\x.length<=640/\Q (.int ((kP x.cps.toList:Nat):Int)) H
 | _,_,_=>False
theorem amG : QCall X (.type "int") rIntU:=⟨by
 intro pins s O H xs us Q I r h
 match xs,h with
 | [.bl b],h=>exact ajj pins s O H _ us Q I r (.inr ⟨b,rfl,h⟩)
 | [.str x],h=>
  obtain ⟨h1,h2,h3,q⟩:=h;obtain ⟨u,rfl,r1⟩:=vals1 r;obtain ⟨t,rfl⟩:=r1;have N4:x.cps.toList≠[]:=fun e=>by
   have:x.cps.toList.length=x.length:=by simp [Str.length]
   rw [e] at this;simp at this;lia
  exact PySem.W.KIN.call_text (PySem.intText_digits h1 N4 (by lia)) h3 ⟨V.int ((kP x.cps.toList:Nat):Int),H,I.tok _,⟨_,rfl⟩,q⟩⟩
theorem aq1{b:Bool} : rIntU [.bl b] H Q=Q (.int (if b then 1 else 0)) H:=rfl
theorem aq2 : rIntU [.str x] H Q=(PySem.NumText.AllDigits x.cps.toList/\1<=x.length/\x.length<=640/\Q (.int ((kP x.cps.toList:Nat):Int)) H):=rfl
noncomputable def rInD (K:PySem.W.Frag) (x y:V) (H:Hp) (Q:VK):Prop:=∃ (d:PyData) (ds:List PyData),Dn K H x d/\Dn K H y (.list ds)/\min (PyData.depthAll ds) d.depth<=60/\Q (.bl (ds.any fun e=>k7 e d)) H
theorem aq3{x y:V} : rInD K x y H Q=∃ (d:PyData) (ds:List PyData),Dn K H x d/\Dn K H y (.list ds)/\min (PyData.depthAll ds) d.depth<=60/\Q (.bl (ds.any fun e=>k7 e d)) H:=rfl
end L2
set_option maxRecDepth 100000
namespace L2
open PySem PySem.Spec PyProof.Rows
open PySem.Builtin PySem.Builtin.Str PySem.StrLaws
noncomputable def rTupA (K:PySem.W.Frag):R2:=fun x y H Q=>∃ a b xs ys,x=.ref a/\y=.ref b/\C6 K H a xs/\C6 K H b ys/\ys≠[]/\xs.length+ys.length<=sizeLine/\∀ p H',Same H H'->C6 K H' p (xs++ys)->(H' p=some (.tup (xs++ys))\/xs=[]/\p=b)->Q (.ref p) H'
theorem aq4 : rTupA K (.ref a) (.ref b) H Q=∃ xs ys,C6 K H a xs/\C6 K H b ys/\ys≠[]/\xs.length+ys.length<=sizeLine/\∀ p H',Same H H'->C6 K H' p (xs++ys)->(H' p=some (.tup (xs++ys))\/xs=[]/\p=b)->Q (.ref p) H':=
 propext ⟨fun ⟨_,_,xs,ys,e1,e2,h⟩=>(by cases e1;cases e2;exact ⟨xs,ys,h⟩),fun ⟨xs,ys,h⟩=>⟨a,b,xs,ys,rfl,rfl,h⟩⟩
end L2
set_option maxRecDepth 100000
namespace L2
open PySem PySem.Spec PyProof.Rows
theorem amH{d:Value}(h:(us++[d]).length=3):∃ u1 u2,us=[u1,u2]:=by
 match us,h with
 | [a,b],_=>exact ⟨a,b,rfl⟩
 | [],h=>simp at h
 | [_],h=>simp at h
 | _::_::_::r,h=>simp at h
theorem iS(g:List Str)(z:Str):(valV (kvOf g) (Sum.inr z)).isSome=decide (z∈g):=by
 rw [<- tY];unfold valV;rw [Option.isSome_map,List.isSome_find?]
theorem vF{y rest:List Nat}(h:z.cps.toList=pre++(y++rest)):cutS z (some (pre.length:Int)) (some ((pre.length:Int)+(y.length:Int)))=⟨y.toArray⟩:=by
 have hl:z.length=pre.length+(y.length+rest.length):=by
  have:=congrArg i0 h
  simp [Str.length] at this ⊢
  lia
 apply Str.ext'
 apply Array.toList_inj.mp
 rw [agl,h];have e1:HT.sIx z.length 0 (some (pre.length:Int))=pre.length:=by rw [HT.sIx_nat];lia
 have e2:HT.sIx z.length z.length (some ((pre.length:Int)+(y.length:Int)))=pre.length+y.length:=by
  rw [show (pre.length:Int)+(y.length:Int)=((pre.length+y.length:Nat):Int) by lia,HT.sIx_nat];lia
 rw [e1,e2,List.drop_left,show pre.length+y.length-pre.length=y.length by lia,List.take_left]
theorem agF{c:Nat}(h:z.cps.toList=pre++[c]):cutS z (some (pre.length:Int)) (some ((pre.length:Int)+2))=one c:=by
 have hl:z.length=pre.length+1:=by
  have:=congrArg i0 h
  simp [Str.length] at this ⊢
  lia
 apply Str.ext'
 apply Array.toList_inj.mp
 rw [agl,h];have e1:HT.sIx z.length 0 (some (pre.length:Int))=pre.length:=by rw [HT.sIx_nat];lia
 have e2:HT.sIx z.length z.length (some ((pre.length:Int)+2))=pre.length+1:=by
  rw [show (pre.length:Int)+2=((pre.length+2:Nat):Int) by lia,HT.sIx_nat];lia
 rw [e1,e2,List.drop_left,show pre.length+1-pre.length=1 by lia];rfl
theorem akg{r:List Nat}{c:Nat} : K7 (pre++c::r) (pre.length:Int)=some c:=G7 (by rw [kG (B5 _),Nat.sub_self];rfl)
theorem ae7:∀ (zs acc:List Str),W5 (kvOf acc) (kvOf zs)=kvOf (G8 acc zs)
 | [],acc=>rfl
 | z::zs,acc=>by
  show W5 (putK (kvOf acc) (Sum.inr z) (.bl true)) (kvOf zs)=kvOf (G8 (dd acc z) zs);rw [agk,ae7 zs]
noncomputable def akh:Sp:=fun vs H Q _=>∃ (z:Str) (pre rest:List Nat),vs=[.str z,.int pre.length]/\z.length<=1000/\z.cps.toList=pre++rest/\Q (.str ⟨(rest.takeWhile figO).toArray⟩) H
theorem al0(h:(us++[]).length=3):∃ u1 u2 u3,us=[u1,u2,u3]:=by
 match us,h with
 | [a,b,c],_=>exact ⟨a,b,c,rfl⟩
 | [],h=>simp at h
 | [_],h=>simp at h
 | [_,_],h=>simp at h
 | _::_::_::_::r,h=>simp at h
theorem lenL(z:Str):z.cps.toList.length=z.length:=by simp [Str.length]
noncomputable def partG (g:List Str):List Nat->Option Str
 | []=>none
 | [c]=>if one c∈g then some (one c) else none
 | c::d::_=>if two c d∈g then some (two c d) else if one c∈g then some (one c) else none
theorem iT(g:List Str)(c:Nat):partG g [c]=if one c∈g then some (one c) else none:=rfl
theorem m5(g:List Str)(c d:Nat)(r:List Nat):partG g (c::d::r)=if two c d∈g then some (two c d) else if one c∈g then some (one c) else none:=rfl
noncomputable def partF (w:Bool) (g:List Str):List Nat->Option Str
 | []=>none
 | c::r=>if (w&&figO c)=true then some ⟨((c::r).takeWhile figO).toArray⟩ else partG g (c::r)
theorem eR(w:Bool)(g:List Str)(c:Nat)(r:List Nat):partF w g (c::r)=if (w&&figO c)=true then some ⟨((c::r).takeWhile figO).toArray⟩ else partG g (c::r):=rfl
theorem ae8{g:List Str} : ∀ {l:List Nat},partG g l=some y->∃ rest,l=y.cps.toList++rest/\1<=y.length
 | [],h=>by cases h
 | [c],h=>by
  rw [iT] at h
  by_cases hc:one c∈g
  .rw [if_pos hc] at h;cases h;exact ⟨[],rfl,by show 1<=1;decide⟩
  .rw [if_neg hc] at h;cases h
 | c::d::r,h=>by
  rw [m5] at h
  by_cases h2:two c d∈g
  .rw [if_pos h2] at h;cases h;exact ⟨r,rfl,by show 1<=2;decide⟩
  .rw [if_neg h2] at h
   by_cases hc:one c∈g
   .rw [if_pos hc] at h;cases h;exact ⟨d::r,rfl,by show 1<=1;decide⟩
   .rw [if_neg hc] at h;cases h
theorem ahe{g:List Str}(h:∀ x,x∈g↔x∈g'):∀ l,partG g l=partG g' l
 | []=>rfl
 | [c]=>by
  rw [iT,iT]
  by_cases hc:one c∈g
  .rw [if_pos hc,if_pos ((h _).mp hc)]
  .rw [if_neg hc,if_neg (fun z=>hc ((h _).mpr z))]
 | c::d::r=>by
  rw [m5,m5]
  by_cases h2:two c d∈g
  .rw [if_pos h2,if_pos ((h _).mp h2)]
  .rw [if_neg h2,if_neg (fun z=>h2 ((h _).mpr z))]
   by_cases hc:one c∈g
   .rw [if_pos hc,if_pos ((h _).mp hc)]
   .rw [if_neg hc,if_neg (fun z=>hc ((h _).mpr z))]
theorem ahf{w:Bool}{g:List Str}(h:∀ x,x∈g↔x∈g')(l:List Nat):partF w g l=partF w g' l:=by
 cases l with
 | nil=>rfl
 | cons c r=>rw [eR,eR,ahe h]
theorem ae9{w:Bool}{g:List Str}{l:List Nat}(h:partF w g l=some y):∃ rest,l=y.cps.toList++rest/\1<=y.length:=by
 cases l with
 | nil=>cases h
 | cons c r=>
  rw [eR] at h
  by_cases hw:(w&&figO c)=true
  .rw [if_pos hw] at h;cases h;rw [Z7] at hw;refine ⟨(c::r).dropWhile figO,(List.takeWhile_append_dropWhile).symm,?_⟩;show 1<=((c::r).takeWhile figO).length;rw [List.takeWhile_cons_of_pos hw.2]
   simp
  .rw [if_neg hw] at h;exact ae8 h
noncomputable def cutFn (w:Bool) (g:List Str):Nat->List Nat->Nat×List Str
 | 0,_=>(0,[])
 | n+1,l=>match partF w g l with
  | none=>(0,[])
  | some y=>((cutFn w g n (l.drop y.length)).1+y.length,y::(cutFn w g n (l.drop y.length)).2)
noncomputable def cutF (w:Bool) (g:List Str) (l:List Nat):Nat×List Str:=cutFn w g l.length l
theorem afa(w:Bool)(g:List Str):∀ (n m:Nat) (l:List Nat),l.length<=n->l.length<=m->cutFn w g n l=cutFn w g m l
 | 0,0,_,_,_=>rfl
 | 0,m+1,l,h,_=>by
  have:l=[]:=bP.mp (by lia)
  subst this;rfl
 | n+1,0,l,_,h=>by
  have:l=[]:=bP.mp (by lia)
  subst this;rfl
 | n+1,m+1,l,h1,h2=>by
  cases e:partF w g l with
  | none=>show (match partF w g l with | none=>_ | some y=>_)=(match partF w g l with | none=>_ | some y=>_);rw [e]
  | some y=>
   obtain ⟨rest,e1,e2⟩:=ae9 e;have hd:(l.drop y.length).length=l.length-y.length:=q9
   have:=afa w g n m (l.drop y.length) (by lia) (by lia)
   show (match partF w g l with | none=>_ | some y=>_)=(match partF w g l with | none=>_ | some y=>_);rw [e]
   dsimp only
   rw [this]
theorem lM{w:Bool}{g:List Str}{l:List Nat}(h:partF w g l=none):cutF w g l=(0,[]):=by
 unfold cutF;cases hl:l.length with
 | zero=>rfl
 | succ n=>
  show (match partF w g l with | none=>_ | some y=>_)=_;rw [h]
theorem lN(w:Bool)(g:List Str):cutF w g []=(0,[]):=rfl
theorem iU{w:Bool}{g:List Str}{l:List Nat}(h:partF w g l=some y):∃ rest,l=y.cps.toList++rest/\cutF w g l=((cutF w g rest).1+y.length,y::(cutF w g rest).2)/\1<=y.length:=by
 obtain ⟨rest,e1,e2⟩:=ae9 h;refine ⟨rest,e1,?_,e2⟩;have el:l.length=y.length+rest.length:=by rw [e1,C8,lenL]
 have ed:l.drop y.length=rest:=by rw [e1,<- lenL,List.drop_left]
 unfold cutF;cases hl:l.length with
 | zero=>lia
 | succ k=>
  show (match partF w g l with | none=>_ | some y=>_)=_;rw [h]
  dsimp only
  rw [ed,afa w g k rest.length rest (by lia) (B5 _)]
theorem aiP{w:Bool}{g:List Str}(h:∀ x,x∈g↔x∈g')(l:List Nat):cutF w g l=cutF w g' l:=by
 have:∀ n l,cutFn w g n l=cutFn w g' n l:=by
  intro n
  induction n with
  | zero=>intro l;rfl
  | succ n ih=>
   intro l;show (match partF w g l with | none=>_ | some y=>_)=(match partF w g' l with | none=>_ | some y=>_);rw [ahf h]
   cases partF w g' l with
   | none=>rfl
   | some y=>dsimp only;rw [ih]
 exact this _ _
theorem qF{w:Bool}{g:List Str} : ∀ (n:Nat) (l:List Nat),l.length<=n->(cutF w g l).1<=l.length/\(cutF w g l).2.length<=l.length/\∀ y∈(cutF w g l).2,∀ c∈y.cps.toList,c∈l
 | 0,l,h=>by
  have:l=[]:=bP.mp (by lia)
  subst this;rw [lN];exact ⟨B5 _,B5 _,by simp⟩
 | n+1,l,h=>by
  cases e:partF w g l with
  | none=>rw [lM e];exact ⟨F7 _,F7 _,by simp⟩
  | some y=>
   obtain ⟨rest,e1,e2,e3⟩:=iU e;have hl:l.length=y.length+rest.length:=by rw [e1,C8,lenL]
   obtain ⟨a,b,c⟩:=qF (w:=w) (g:=g) n rest (by lia);rw [e2];refine ⟨by dsimp only;lia,by dsimp only;rw [G6];lia,fun z hz x hx=>?_⟩;rw [e1]
   rcases E4.mp hz with r | r
   .rw [r] at hx;exact D4.mpr (.inl hx)
   .exact D4.mpr (.inr (c z r x hx))
noncomputable def aO (w:Bool) (g:List Str) (z:Str):Prop:=(cutF w g z.cps.toList).1=z.length
noncomputable def aki:Sp:=fun vs H Q _=>∃ (d:Addr) (z:Str) (g:List Str) (pre:List Nat) (c:Nat) (r:List Nat) (w:Bool) (y:Str),vs=[.ref d,.str z,.int pre.length,.bl w]/\H d=some (.dK (kvOf g))/\z.length<=1000/\z.cps.toList=pre++c::r/\partF w g (c::r)=some y/\Q (.str y) H
noncomputable def qG (K:PySem.W.Frag):Sp:=fun vs H Q _=>∃ (a:Addr) (z:Str) (ks:List Str) (w:Bool),vs=[.ref a,.str z,.bl w]/\C7 K H a (ks.map V.str)/\ks.length<=1000/\z.length<=1000/\aO w ks z/\
 ∀ l H',H l=none->Same H H'->H' l=some (.lst ((cutF w ks z.cps.toList).2.map V.str))->Q (.ref l) H'
noncomputable abbrev E6:=Int×Int×List Int×Int
noncomputable def addM (U:List E6) (p:Int):List E6:=match U.getLast? with
 | none=>[(0,0,[p],0)]
 | some u=>U.dropLast++[(u.1,u.2.1,u.2.2.1++[p],u.2.2.2)]
noncomputable def addS (U:List E6) (s:Tr):List E6:=if s.1=0 then addM U s.2.1 else U++[(s.1,s.2.1,[],s.2.2)]
noncomputable def UnAt (H:Hp) (e:Addr×Addr) (u:E6):Prop:=H e.1=some (.tup [.int u.1,.int u.2.1,.ref e.2,.int u.2.2.2])/\H e.2=some (.lst (u.2.2.1.map V.int))
structure UnI(H0 H:Hp)(l:Addr)(es:List (Addr×Addr))(U:List E6):Prop where
 top:H l=some (.lst (es.map fun e=>V.ref e.1))
 row:Paired (UnAt H) es U
 nd:(l::es.map (·.2)).Nodup
 new:∀ a∈l::es.map (·.2),H0 a=none
 same:Same H0 H
theorem UnI.more{l:Addr}{es:List (Addr×Addr)}{U:List E6}(h:UnI H0 H l es U)(S:Same H H'):UnI H0 H' l es U:=⟨S _ _ h.top,T3 h.row fun _ _ e=>⟨S _ _ e.1,S _ _ e.2⟩,h.nd,h.new,h.same.trans S⟩
theorem UnI.live{l:Addr}{es:List (Addr×Addr)}{U:List E6}(h:UnI H0 H l es U)(ha:a∈es.map (·.2)):∃ xs,H a=some (.lst xs):=by
 obtain ⟨e,he,rfl⟩:=E5.mp ha;obtain ⟨i,hi,q⟩:=X7.mp he;obtain ⟨u,_,hu⟩:=Paired.at h.row (i:=i) (a:=e) (by rw [G0 hi,q]);exact ⟨_,hu.2⟩
theorem UnI.push{l m t:Addr}{es:List (Addr×Addr)}{U:List E6}(h:UnI H0 H l es U)(nm:H m=none){k w c:Int}(nt:A0 H m (.lst []) t=none) :
  UnI H0 (A0 (A0 (A0 H m (.lst [])) t (.tup [.int k,.int w,.ref m,.int c])) l (.lst ((es.map fun e=>V.ref e.1)++[V.ref t]))) l (es++[(t,m)]) (U++[(k,w,[],c)]):=by
 have nlm:l≠m:=fun e=>by have:=h.top;rw [e,nm] at this;cases this
 have nmt:m≠t:=fun e=>by rw [<- e,A2] at nt;cases nt
 have S:Same H (A0 (A0 H m (.lst [])) t (.tup [.int k,.int w,.ref m,.int c])):=(Same.new nm).trans (Same.new nt);have hl:=S _ _ h.top;have nlt:l≠t:=fun e=>by rw [<- e,(Same.new nm) _ _ h.top] at nt;cases nt
 have rS:=V2.mp h.nd;refine ⟨by rw [A2,D6];rfl,Paired.snoc (eG h.row fun e he u hu=>⟨?_,?_⟩) ⟨?_,?_⟩,?_,fun a ha=>?_,(h.same.trans S).put (h.new l L5)⟩
 .rw [A3 (fun q=>by have:=S _ _ hu.1;rw [q,hl] at this;cases this)];exact S _ _ hu.1
 .rw [A3 (fun q=>rS.1 (by rw [<- q];exact E5.mpr ⟨e,he,rfl⟩))];exact S _ _ hu.2
 .rw [A3 nlt.symm,A2]
 .rw [A3 nlm.symm,A3 nmt,A2];rfl
 .rw [D6];exact iF h.nd fun q=>by
   rcases E4.mp q with q | q
   .exact nlm q.symm
   .obtain ⟨xs,hx⟩:=h.live q;rw [nm] at hx;cases hx
 .rw [D6] at ha
  rcases E4.mp ha with q | q
  .rw [q];exact h.new l L5
  .rcases D4.mp q with q | q
   .exact h.new a (M3 _ q)
   .rw [D1.mp q];exact h.same.free nm
theorem UnI.mark{l:Addr}{es:List (Addr×Addr)}{e:Addr×Addr}{U:List E6}{u:E6}(h:UnI H0 H l (es++[e]) (U++[u]))(p:Int) :
  UnI H0 (A0 H e.2 (.lst (u.2.2.1.map V.int++[V.int p]))) l (es++[e]) (U++[(u.1,u.2.1,u.2.2.1++[p],u.2.2.2)]):=by
 obtain ⟨hr,he⟩:=uA h.row;have rS:=h.nd;have nl:l≠e.2:=fun q=>(V2.mp rS).1 (by rw [q];simp)
 have nn:∀ x∈es,x.2≠e.2:=fun x hx q=>by
  have:=(V2.mp rS).2
  rw [D6,Z5] at this;exact this.2.2 x.2 (E5.mpr ⟨x,hx,rfl⟩) e.2 (by simp) q
 have nt:∀ {x:Addr×Addr} {v:E6},UnAt H x v->x.1≠e.2:=fun {x v} hx q=>by
  have:=hx.1;rw [q,he.2] at this;cases this
 refine ⟨by rw [A3 nl];exact h.top,Paired.snoc (eG hr fun x hx v hv=>⟨?_,?_⟩) ⟨?_,?_⟩,h.nd,h.new,h.same.put (h.new _ (M3 _ (by simp)))⟩
 .rw [A3 (nt hv)];exact hv.1
 .rw [A3 (nn x hx)];exact hv.2
 .rw [A3 (nt he)];exact he.1
 .rw [A2,D6];rfl
noncomputable def IsUn (H:Hp) (l:Addr) (U:List E6):Prop:=∃ es:List (Addr×Addr),H l=some (.lst (es.map fun e=>V.ref e.1))/\Paired (fun e (u:E6)=>H e.1=some (.tup [.int u.1,.int u.2.1,.ref e.2,.int u.2.2.2])/\H e.2=some (.tup (u.2.2.1.map V.int))) es U
theorem IsUn.same{l:Addr}{U:List E6}(h:IsUn H l U)(S:Same H H'):IsUn H' l U:=
 let ⟨es,h1,h2⟩:=h
 ⟨es,S _ _ h1,T3 h2 fun _ _ e=>⟨S _ _ e.1,S _ _ e.2⟩⟩
noncomputable def F9 (R:List Rl):List Str:=keysP (D0 R)++Y1 R
noncomputable def U6 (S:Str->List Tr) (ps:List Str):List E6:=(ps.flatMap S).foldl addS []
noncomputable def vG (C:Addr):Sp:=fun vs H Q _=>∃ (x j ll ml md:Addr) (g:Str->Str) (R:List Rl) (L M:List Str),vs=[.ref x]/\IsOrd C H x j ll ml md g R L M/\∀ l,H l=none->Q (.ref l) (A0 H l (.lst ((F9 R).map V.str)))
noncomputable def qH (C:Addr):Sp:=fun vs H Q _=>∃ (x j ll ml md:Addr) (p:Str) (g:Str->Str) (R:List Rl) (L M:List Str),vs=[.ref x,.str p]/\IsOrd C H x j ll ml md g R L M/\∀ r H',Same H H'->StepAt H' r (stepF R L M p)->Q (.ref r) H'
noncomputable def vH (C:Addr):Sp:=fun vs H Q _=>∃ (x j ll ml md:Addr) (z:Str) (g:Str->Str) (R:List Rl) (L M:List Str),vs=[.ref x,.str z]/\IsOrd C H x j ll ml md g R L M/\(F9 R).length<=1000/\z.length<=1000/\aO (hasW R "figures") (F9 R) z/\
 ∀ l H',H l=none->Same H H'->H' l=some (.lst ((cutF (hasW R "figures") (F9 R) z.cps.toList).2.map V.str))->Q (.ref l) H'
theorem aiQ{R:List Rl}{p:Str}(h:p∉allKs R L M):stepF R L M p=[]:=by
 unfold stepF
 have:(putsL R L M).lookup p=none:=by
  rw [List.lookup_eq_none_iff];intro e he
  have:e.1∈allKs R L M:=by rw [<- agA];exact E5.mpr ⟨e,he,rfl⟩
  have ne:p≠e.1:=fun q=>h (by rw [q];exact this)
  simpa using ne
 rw [this];rfl
noncomputable def stepY (R:List Rl) (L M:List Str) (y:Str):List Tr:=if (hasW R "figures" && figO (y.cps.toList.headD 0))=true then [(1,((kP y.cps.toList:Nat):Int),0)] else stepF R L M y
theorem al1{R:List Rl}(h:hasW R "figures"=false)(L M:List Str):stepY R L M=stepF R L M:=by
 funext y
 unfold stepY;rw [h,Bool.false_and,if_neg L3]
noncomputable def FigR (y:Str):Prop:=figO (y.cps.toList.headD 0)=true->PySem.NumText.AllDigits y.cps.toList
noncomputable def agG (C:Addr):Sp:=fun vs H Q _=>∃ (x j ll ml md:Addr) (c:Nat) (r:List Nat) (y:Str) (g:Str->Str) (R:List Rl) (L M:List Str),vs=[.ref x,.str y]/\y.cps.toList=c::r/\y.length<=640/\IsOrd C H x j ll ml md g R L M/\(hasW R "figures"=true->FigR y)/\∀ r H',Same H H'->StepAt H' r (stepY R L M y)->Q (.ref r) H'
noncomputable def agH (K:PySem.W.Frag):Sp:=fun vs H Q _=>∃ (l:Addr) (p:Int) (H0:Hp) (es:List (Addr×Addr)) (U:List E6),vs=[.ref l,.int p]/\UnI H0 H l es U/\U.length<=10000/\(∀ u∈U,u.2.2.1.length<=10000)/\∀ es' H',UnI H0 H' l es' (addM U p)->Q .non H'
noncomputable def agI (C:Addr):Sp:=fun vs H Q _=>∃ (x l j ll ml md:Addr) (c:Nat) (r:List Nat) (y:Str) (g:Str->Str) (R:List Rl) (L M:List Str) (H0:Hp) (es:List (Addr×Addr)) (U:List E6),vs=[.ref x,.ref l,.str y]/\y.cps.toList=c::r/\y.length<=640/\IsOrd C H0 x j ll ml md g R L M/\(hasW R "figures"=true->FigR y)/\UnI H0 H l es U/\(stepY R L M y).length<=1000/\U.length<=9000/\(∀ u∈U,u.2.2.1.length<=9000)/\
 ∀ es' H',UnI H0 H' l es' ((stepY R L M y).foldl addS U)->Q .non H'
theorem al2{U:List E6}{p:Int} : (addM U p).length<=U.length+1:=by
 unfold addM;cases e:U.getLast? with
 | none=>simp
 | some u=>simp only [C8,List.length_dropLast,R3];lia
theorem aiR{U:List E6}{p:Int}(h:∀ u∈U,u.2.2.1.length<=n):∀ u∈addM U p,u.2.2.1.length<=n+1:=by
 unfold addM;cases e:U.getLast? with
 | none=>intro u hu;rw [D1.mp hu];simp
 | some v=>
  intro u hu
  rcases D4.mp hu with q | q
  .have:=h u ((List.dropLast_sublist U).subset q);lia
  .rw [D1.mp q]
   have:=h v (List.mem_of_getLast? e)
   simp only [C8,R3];lia
theorem al3{U:List E6}{s:Tr} : (addS U s).length<=U.length+1:=by
 unfold addS
 split
 .exact al2
 .simp
theorem aiS{U:List E6}{s:Tr}(h:∀ u∈U,u.2.2.1.length<=n):∀ u∈addS U s,u.2.2.1.length<=n+1:=by
 unfold addS
 split
 .exact aiR h
 .intro u hu
  rcases D4.mp hu with q | q
  .have:=h u q;lia
  .rw [D1.mp q];exact F7 _
theorem vI:∀ (ss:List Tr) (U:List E6),(ss.foldl addS U).length<=U.length+ss.length
 | [],U=>B5 _
 | s::ss,U=>by
  rw [List.foldl_cons,G6];have h1:=vI ss (addS U s);have h2:=al3 (U:=U) (s:=s);lia
theorem vJ:∀ (ss:List Tr) (U:List E6) (n:Nat),(∀ u∈U,u.2.2.1.length<=n)->∀ u∈ss.foldl addS U,u.2.2.1.length<=n+ss.length
 | [],U,n,h=>h
 | s::ss,U,n,h=>by
  intro u hu
  have:=vJ ss (addS U s) (n+1) (aiS h) u hu
  rw [G6];lia
theorem akj(f b:Bool)(j ll ml md:Addr):(ordF f b j ll ml md).lookup ("made" : Str)=some (V.ref md):=by
 unfold ordF;rw [L7,if_pos rfl]
noncomputable def cutH (H:Hp) (as:List Addr):Hp:=fun a=>if a∈as then none else H a
theorem qI(H:Hp)(as:List Addr):Same (cutH H as) H:=fun a o h=>by
 unfold cutH at h
 by_cases q:a∈as
 .rw [if_pos q] at h;cases h
 .rw [if_neg q] at h;exact h
theorem UnI.base{l:Addr}{es:List (Addr×Addr)}{U:List E6}(S:Same H0 H1)(h:UnI H1 H l es U):UnI H0 H l es U:=⟨h.top,h.row,h.nd,fun a ha=>S.free (h.new a ha),S.trans h.same⟩
theorem UnI.cut{l:Addr}{es:List (Addr×Addr)}{U:List E6}(h:UnI H0 H l es U):∃ H1,Same H0 H1/\UnI H1 H l es U/\∀ a xs,H a=some (.tup xs)->H1 a=some (.tup xs):=by
 refine ⟨cutH H (l::es.map (fun e=>e.2)),fun a o ha=>?_,⟨h.top,h.row,h.nd,fun a ha=>by unfold cutH;exact if_pos ha,qI _ _⟩,fun a xs ha=>?_⟩
 .unfold cutH;rw [if_neg (fun q=>by rw [h.new a q] at ha;cases ha)];exact h.same _ _ ha
 .unfold cutH;rw [if_neg fun q=>?_]
  .exact ha
  .rcases E4.mp q with q | q
   .rw [q,h.top] at ha;cases ha
   .obtain ⟨ys,hy⟩:=h.live q;rw [hy] at ha;cases ha
theorem aiT{α β:Type}{F:α->β->Prop}{m:List β}(h:Paired F [] m):m=[]:=by cases h;rfl
theorem vK{α:Type}{l:List α}(h:l≠[]):∃ l' x,l=l'++[x]:=⟨l.dropLast,l.getLast h,(List.dropLast_concat_getLast h).symm⟩
noncomputable def vL (C:Addr):Sp:=fun vs H Q _=>∃ (x j ll ml md:Addr) (z:Str) (g:Str->Str) (R:List Rl) (L M:List Str),vs=[.ref x,.str z]/\IsOrd C H x j ll ml md g R L M/\(F9 R).length<=1000/\z.length<=500/\aO (hasW R "figures") (F9 R) z/\(∀ y,(stepY R L M y).length<=15)/\
 ∀ l H',H l=none->Same H H'->IsUn H' l (U6 (stepY R L M) (cutF (hasW R "figures") (F9 R) z.cps.toList).2)->Q (.ref l) H'
noncomputable def vM (n:Nat) (fr:St) (Pv:Nat->List V->Hp->Prop) (i:Nat) (ys:List V) (σ2:St) (H2:Hp):Prop:=i<=n/\ys.length<=i/\(∃ v0 v1 v2 v3,σ2=v0::v1::v2::v3::fr)/\Pv i ys H2
theorem aq5(fr:St)(U3:compStart 4 ixs O=none::none::none::none::fr)(Pv:Addr->Nat->List V->Hp->Prop)(h0:∀ D,H1 D=none->Pv D 0 [] (A0 H1 D (.lst [])))(hl:∀ D i ys H,H1 D=none->i<=xs.length->Pv D i ys H->C7 K H a xs)(hs:∀ D i x ys H,H1 D=none->i<xs.length->xs[i]?=some x->Pv D i ys H->H D=some (.lst ys)->ys.length<=i->∃ t v0 v1 v2 v3,x=.ref t/\C6 K H t [v0,v1,v2,v3]/\c (some v0::some v1::some v2::some v3::fr) H fun b H4=>
   if b=true then te (some v0::some v1::some v2::some v3::fr) H4 fun y H5=>H5 D=some (.lst ys)/\ys.length<sizeLine/\vM xs.length fr (Pv D) (i+1) (ys++[y]) (some v0::some v1::some v2::some v3::fr) (A0 H5 D (.lst (ys++[y])))
   else H4 D=some (.lst ys)/\vM xs.length fr (Pv D) (i+1) ys (some v0::some v1::some v2::some v3::fr) H4)(hd:∀ D ys H,H1 D=none->Pv D xs.length ys H->H D=some (.lst ys)->ys.length<=xs.length->Q (.ref D) H):aM (t9 K a) 4 ixs (gTup K 4 (gCons (gName 0) (gCons (gName 1) (gCons (gName 2) (gCons (gName 3) gNil))))) c te O Q H1:=by
 intro D hD;refine ⟨xs.length,vM xs.length fr (Pv D),⟨F7 _,F7 _,⟨none,none,none,none,U3⟩,h0 D hD⟩,?_⟩;rintro i ys σ2 H2 ⟨hi,hy,⟨w0,w1,w2,w3,rfl⟩,p⟩ hDy;have q:=hl D i ys H2 hD hi p
 by_cases C4:i<xs.length
 .refine .inr ⟨C4,⟨xs,xs[i],q,by simp [C4]⟩,fun x H' y=>?_⟩;obtain ⟨e,y⟩:=y;subst e;obtain ⟨t,v0,v1,v2,v3,rfl,ht,z⟩:=hs D i x ys _ hD C4 (y xs q) p hDy hy;exact ⟨t,_,rfl,ht,rfl,_,_,rfl,_,_,rfl,_,_,rfl,_,_,rfl,rfl,z⟩
 .have e:i=xs.length:=by lia
  subst e;exact .inl ⟨⟨xs,q,B5 _⟩,hd D ys H2 hD p hDy hy⟩
theorem akk{w:Bool}{g:List Str} : ∀ (n:Nat) (l:List Nat),l.length<=n->∀ y∈(cutF w g l).2,1<=y.length
 | 0,l,h,y,hy=>by
  have:l=[]:=bP.mp (by lia)
  subst this;rw [lN] at hy;cases hy
 | n+1,l,h,y,hy=>by
  cases e:partF w g l with
  | none=>rw [lM e] at hy;cases hy
  | some x=>
   obtain ⟨rest,e1,e2,e3⟩:=iU e;rw [e2] at hy
   rcases E4.mp hy with q | q
   .rw [q];exact e3
   .refine akk n rest ?_ y q
    have:=congrArg i0 e1
    rw [C8,lenL] at this;lia
theorem ahi{S:Str->List Tr}(h:ps[i]?=some y):U6 S (ps.take (i+1))=(S y).foldl addS (U6 S (ps.take i)):=by
 unfold U6;rw [J7 h,Z4,aB,g7,List.flatMap_nil,N3]
theorem qJ{S:Str->List Tr}(hs:∀ y,(S y).length<=15):∀ (ps:List Str),(U6 S ps).length<=15*ps.length/\∀ u∈U6 S ps,u.2.2.1.length<=15*ps.length:=fun ps=>by
 have h0:(ps.flatMap S).length<=15*ps.length:=by
  induction ps with
  | nil=>exact B5 _
  | cons p ps ih=>
   rw [g7,C8,G6]
   have:=hs p
   lia
 have h1:=vI (ps.flatMap S) [];have h2:=vJ (ps.flatMap S) [] 0 (by simp);unfold U6;rw [k4] at h1;exact ⟨by lia,fun u hu=>by have:=h2 u hu;lia⟩
theorem agJ{w:Bool}{g:List Str} : ∀ (n:Nat) (l:List Nat),l.length<=n->∀ y∈(cutF w g l).2,y.length<=l.length
 | 0,l,h,y,hy=>by
  have:l=[]:=bP.mp (by lia)
  subst this;rw [lN] at hy;cases hy
 | n+1,l,h,y,hy=>by
  cases e:partF w g l with
  | none=>rw [lM e] at hy;cases hy
  | some x=>
   obtain ⟨rest,e1,e2,e3⟩:=iU e;rw [e2] at hy;have hl:=congrArg i0 e1;rw [C8,lenL] at hl
   rcases E4.mp hy with q | q
   .rw [q];lia
   .have:=agJ n rest (by lia) y q
    lia
theorem agK:∀ zs:List Str,(Str.join ⟨#[]⟩ zs).cps.toList=zs.flatMap fun p=>p.cps.toList
 | []=>by simp [Str.join,Str.empty]
 | [z]=>by simp [Str.join]
 | z::y::r=>by
  have e:(Str.join ⟨#[]⟩ (z::y::r)).cps.toList=z.cps.toList++(Str.join ⟨#[]⟩ (y::r)).cps.toList:=by
   show (z++⟨#[]⟩++Str.join ⟨#[]⟩ (y::r)).cps.toList=_;simp only [Str.cps_append,Array.toList_append]
   simp
  rw [e,agK (y::r)];rfl
theorem amI{p:Nat->Bool}{d:Nat} : ∀ {l:List Nat},d∈l.takeWhile p->p d=true
 | [],h=>by cases h
 | c::r,h=>by
  rw [List.takeWhile_cons] at h
  by_cases hc:p c=true
  .rw [if_pos hc] at h
   rcases E4.mp h with q | q
   .rw [q];exact hc
   .exact amI q
  .rw [if_neg hc] at h;cases h
theorem akl{w:Bool}{g:List Str}{l:List Nat}(h:partF w g l=some y):w=true->FigR y:=by
 intro hw hf
 cases l with
 | nil=>cases h
 | cons c r=>
  rw [eR,hw,Bool.true_and] at h
  by_cases hc:figO c=true
  .rw [if_pos hc] at h;obtain rfl:=Option.some.inj h;intro d hd;have hd:d∈(c::r).takeWhile figO:=by simpa using hd
   have:=amI hd
   unfold figO at this;rw [Z7,decide_eq_true_eq,decide_eq_true_eq] at this;exact this
  .exfalso
   rw [if_neg hc] at h;obtain ⟨rest,e,hl⟩:=ae8 h
   have:y.cps.toList.headD 0=c:=by
    cases hy:y.cps.toList with
    | nil=>rw [<- lenL,hy] at hl;simp at hl
    | cons d t=>rw [hy] at e;exact (X8.inj e).1.symm
   rw [this] at hf;exact hc hf
theorem aia{w:Bool}{g:List Str} : ∀ (n:Nat) (l:List Nat),l.length<=n->∀ y∈(cutF w g l).2,w=true->FigR y
 | 0,l,h,y,hy=>by
  have:l=[]:=bP.mp (by lia)
  subst this;rw [lN] at hy;cases hy
 | n+1,l,h,y,hy=>by
  cases e:partF w g l with
  | none=>rw [lM e] at hy;cases hy
  | some x=>
   obtain ⟨rest,e1,e2,e3⟩:=iU e;rw [e2] at hy;have hl:=congrArg i0 e1;rw [C8,lenL] at hl
   rcases E4.mp hy with q | q
   .rw [q];exact akl e
   .exact aia n rest (by lia) y q
end L2
variable {R:List L2.Rl}{U:List L2.E6}{tabs:List (PySem.Addr×PySem.Addr)}
set_option maxRecDepth 100000
namespace L2
open PySem PySem.Spec PyProof.Rows
structure StepL(H:Hp)(r:Addr)(ss:List Tr):Prop where
 ex:∃ ts:List Addr,H r=some (.lst (ts.map V.ref))/\Paired (fun t s=>H t=some (tupT s)) ts ss
noncomputable def IsMk (H:Hp) (d:Addr) (ks:List Str) (F:Str->List Tr):Prop:=∃ ad:Str->Addr,H d=some (.dK (A8 ks fun y=>.ref (ad y)))/\∀ y∈ks,StepL H (ad y) (F y)
structure MkI(H H2:Hp)(d:Addr)(P:List Str)(F:Str->List Tr):Prop where
 same:Same H H2
 made:IsMk H2 d (G8 [] P) F
theorem W3{t:Addr}(hT:C6 K H t xs)(q:∀ p H',Same H H'->C6 K H' p (xs.take 2)->Q (.ref p) H'):rSlR K t none (some 2) H Q:=by
 by_cases h:xs.length<=2
 .refine rSlR.w hT ⟨rfl,?_⟩ (q t H (Same.refl H) (by rw [p9 h];exact hT));rw [show ((2:Int))=((2:Nat):Int) from rfl,HT.sIx_nat];lia
 .refine rSlR.t hT (fun e=>?_) fun p np=>q p _ (Same.new np) (.of ?_)
  .have:=e.2
   rw [show ((2:Int))=((2:Nat):Int) from rfl,HT.sIx_nat] at this;lia
  .rw [A2,show cutV xs none (some 2)=_ from iK xs 2]
noncomputable def UnT (H:Hp) (e:Addr×Addr) (u:E6):Prop:=H e.1=some (.tup [.int u.1,.int u.2.1,.ref e.2,.int u.2.2.2])/\H e.2=some (.tup (u.2.2.1.map V.int))
structure UnJ(H0 H:Hp)(l:Addr)(es:List (Addr×Addr))(U:List E6):Prop where
 same:Same H0 H
 new:H0 l=none
 top:H l=some (.lst (es.map fun e=>V.ref e.1))
 row:Paired (UnT H) es U
noncomputable def RunP (p:Str):Prop:=p.cps.toList≠[]/\∀ c∈p.cps.toList,figO c=true
noncomputable def eS (w:Bool) (ks:List Str) (p:Str):Prop:=p∈ks\/w=true/\RunP p
noncomputable def PcL (w:Bool) (ks:List Str) (p:Str):Prop:=p∈ks\/(w=true/\RunP p)/\p.length<=14
noncomputable abbrev flatP (ps:List Str):List Nat:=ps.flatMap fun p=>p.cps.toList
theorem iV(p:Str)(ps:List Str):flatP (p::ps)=p.cps.toList++flatP ps:=rfl
theorem agL{w:Bool}(dG:w=true->∀ p∈ks,∀ c∈p.cps.toList,figO c=false)(h2:∀ p∈ks,(∃ c,p=one c)\/∃ c d,p=two c d)(hw:w=true):∀ ps:List Str,(∀ p∈ps,eS w ks p)->∃ qs:List Str,(∀ p∈qs,eS w ks p)/\(flatP ps).dropWhile figO=flatP qs
 | [],_=>⟨[],by simp,rfl⟩
 | p::ps,h=>by
  rcases h p L5 with hp | ⟨_,hr⟩
  .refine ⟨p::ps,h,?_⟩
   have:=dG hw p hp
   rcases h2 p hp with ⟨c,rfl⟩ | ⟨c,d,rfl⟩
   .show (c::flatP ps).dropWhile figO=_;rw [List.dropWhile_cons_of_neg (by rw [this c (by show c∈[c];simp)];simp)];rfl
   .show (c::d::flatP ps).dropWhile figO=_;rw [List.dropWhile_cons_of_neg (by rw [this c (by rw [qE];simp)];simp)];rfl
  .obtain ⟨qs,h3,h4⟩:=agL dG h2 hw ps fun q hq=>h q (M3 _ hq)
   refine ⟨qs,h3,?_⟩;rw [iV,List.dropWhile_append_of_pos hr.2];exact h4
theorem afb{w:Bool}(dG:w=true->∀ p∈ks,∀ c∈p.cps.toList,figO c=false)(P:∀ c d e,one c∈ks->two c d∈ks->two d e∈ks->one e∈ks)(h2:∀ p∈ks,(∃ c,p=one c)\/∃ c d,p=two c d):∀ (n:Nat) (ps:List Str),(∀ p∈ps,eS w ks p)->(flatP ps).length<=n->(cutF w ks (flatP ps)).1=(flatP ps).length
 | n,[],_,_=>by rw [show flatP []=[] from rfl,lN];rfl
 | 0,p::ps,hp,hn=>by
  exfalso
  rw [iV,C8] at hn
  rcases hp p L5 with h | ⟨_,h,_⟩
  .rcases h2 p h with ⟨c,rfl⟩ | ⟨c,d,rfl⟩
   .rw [aoe] at hn;simp at hn
   .rw [qE] at hn;simp at hn
  .have:=List.length_pos_iff.mpr h
   lia
 | n+1,p::ps,hp,hn=>by
  have go:∀ (y:Str) (qs:List Str),(∀ q∈qs,eS w ks q)->1<=y.length->flatP (p::ps)=y.cps.toList++flatP qs->partF w ks (flatP (p::ps))=some y->(cutF w ks (flatP (p::ps))).1=(flatP (p::ps)).length:=fun y qs hq M8 el hpf=>by
   obtain ⟨rest,e1,e2,e3⟩:=iU hpf;have er:rest=flatP qs:=List.append_cancel_left (e1.symm.trans el);have ln:=congrArg i0 el;rw [C8,lenL] at ln;have i1:=afb dG P h2 n qs hq (by lia);rw [e2,er];show (cutF w ks _).1+y.length=_;rw [i1];lia
  have pF:∀ c l,one c∈ks\/(∃ d,two c d∈ks)->partF w ks (c::l)=partG ks (c::l):=fun c l h=>by
   rw [eR,if_neg];intro q;rw [Z7] at q
   rcases h with h | ⟨d,h⟩
   .rw [dG q.1 _ h c (by show c∈[c];simp)] at q;exact absurd q.2 (by simp)
   .rw [dG q.1 _ h c (by rw [qE];simp)] at q;exact absurd q.2 (by simp)
  have f8:∀ q∈ps,eS w ks q:=fun q hq=>hp q (M3 _ hq)
  rcases hp p L5 with Y9 | ⟨rT,hr⟩
  .rcases h2 p Y9 with ⟨c,rfl⟩ | ⟨c,d,rfl⟩
   .have ef:flatP (one c::ps)=c::flatP ps:=rfl
    cases ps with
    | nil=>exact go (one c) [] (by simp) (B5 1) rfl (by rw [ef,show flatP []=[] from rfl,pF c [] (.inl Y9),iT,if_pos Y9])
    | cons p2 qs=>
     have jP:∀ q∈qs,eS w ks q:=fun q hq=>f8 q (M3 _ hq)
     rcases f8 p2 L5 with j8 | ⟨rT,hr⟩
     .rcases h2 p2 j8 with ⟨d,rfl⟩ | ⟨d,e,rfl⟩
      .have fN:flatP (one c::one d::qs)=c::d::flatP qs:=rfl
       by_cases P7:two c d∈ks
       .exact go (two c d) qs jP (by show 1<=2;decide) rfl (by rw [fN,pF _ _ (.inl Y9),m5,if_pos P7])
       .exact go (one c) (one d::qs) f8 (B5 1) rfl (by rw [fN,pF _ _ (.inl Y9),m5,if_neg P7,if_pos Y9])
      .have fN:flatP (one c::two d e::qs)=c::d::e::flatP qs:=rfl
       by_cases P7:two c d∈ks
       .have he:=P c d e Y9 P7 j8;exact go (two c d) (one e::qs) (fun q hq=>by rcases E4.mp hq with h | h;rw [h];exact .inl he;exact jP q h) (by show 1<=2;decide) rfl (by rw [fN,pF _ _ (.inl Y9),m5,if_pos P7])
       .exact go (one c) (two d e::qs) f8 (B5 1) rfl (by rw [fN,pF _ _ (.inl Y9),m5,if_neg P7,if_pos Y9])
     .obtain ⟨f,rr,hf⟩:∃ f rr,p2.cps.toList=f::rr:=by
       cases e:p2.cps.toList with
       | nil=>exact absurd e hr.1
       | cons f rr=>exact ⟨f,rr,rfl⟩
      have rV:figO f=true:=hr.2 f (by rw [hf];simp);have fN:flatP (one c::p2::qs)=c::f::(rr++flatP qs):=by rw [iV,iV,hf];rfl
      have P7:two c f∉ks:=fun h=>by
       have:=dG rT _ h f (by rw [qE];simp)
       rw [rV] at this;cases this
      exact go (one c) (p2::qs) f8 (B5 1) rfl (by rw [fN,pF _ _ (.inl Y9),m5,if_neg P7,if_pos Y9])
   .have ef:flatP (two c d::ps)=c::d::flatP ps:=rfl;exact go (two c d) ps f8 (by show 1<=2;decide) rfl (by rw [ef,pF _ _ (.inr ⟨d,Y9⟩),m5,if_pos Y9])
  .obtain ⟨qs,h3,h4⟩:=agL dG h2 rT (p::ps) hp;obtain ⟨f,rr,hf⟩:∃ f rr,p.cps.toList=f::rr:=by
    cases e:p.cps.toList with
    | nil=>exact absurd e hr.1
    | cons f rr=>exact ⟨f,rr,rfl⟩
   have rV:figO f=true:=hr.2 f (by rw [hf];simp);have ef:flatP (p::ps)=f::(rr++flatP ps):=by rw [iV,hf];rfl
   refine go ⟨((flatP (p::ps)).takeWhile figO).toArray⟩ qs h3 ?_ ?_ ?_
   .rw [<- lenL];show 1<=((flatP (p::ps)).takeWhile figO).length;rw [ef,List.takeWhile_cons_of_pos rV]
    simp
   .show flatP (p::ps)=(flatP (p::ps)).takeWhile figO++flatP qs;rw [<- h4,List.takeWhile_append_dropWhile]
   .rw [ef,eR,rT,rV,Bool.and_self,if_pos rfl]
theorem ahj{p:Str}(hp:p∈F9 R):p=" "\/p∈(D0 R).map (·.1):=by
 unfold F9 Y1 at hp
 rcases D4.mp hp with h | h
 .exact .inr ((lH _ _).mp h)
 .by_cases hb:hasW R "blanks"=true
  .rw [if_pos hb] at h;exact .inl (D1.mp h)
  .rw [if_neg hb] at h;cases h
theorem al4{p:Str}(hp:p∈(D0 R).map (·.1)):p∈F9 R:=N6 _ ((lH _ _).mpr hp)
theorem vN:(" " : Str)=one 32:=by decide +kernel
end L2
set_option maxRecDepth 100000
namespace L2
open PySem PySem.Spec PyProof.Rows
noncomputable def tRev (K:PySem.W.Frag) (te:TE) (tk:TO):TE:=fun O H Q=>te O H fun x H1=>tk O H1 fun k H2=>k=some (-1)/\∃ a xs,x=.ref a/\C7 K H2 a xs/\∀ p,H2 p=none->Q (.ref p) (A0 H2 p (.lst xs.reverse))
theorem Vals.rev(r:Vals xs us):Vals xs.reverse us.reverse:=by
 induction r with
 | nil=>exact .nil
 | cons h t ih=>
  rw [List.reverse_cons,List.reverse_cons];exact ih.append (.cons h .nil)
theorem aq6{k:Expr}{tk:TO}{pos:Pos}(he:PE X e te)(hk:PO X (some k) tk):PE X (.Subscript e (.Slice none none (some k) p2) pos) (tRev X.K te tk):=by
 intro pins s O H Q I h;refine Subscript_ (B1 (he pins s O H _ I h) fun v s1 ⟨x,H1,I1,r1,q1⟩=>?_);refine wpAny_Slice ?_;rw [evalPart_none];refine wpAny_pure ?_;refine wpAny_pure ?_;refine B1 (hk pins s1 O H1 _ I1 q1) fun vk s3 ⟨kk,H3,I3,pk,q3⟩=>?_
 obtain ⟨rfl,a,xs,rfl,hx,q⟩:=q3;have I4:Inv X pins O H3 { s3 with heap:=s3.heap.push { cls:=.type "slice",data:=.fields #[.none,.none,vk] } }:=I3.kept (t':=s3.toks) fun b ob q=>Heap.get?_push_of_some _ q
 cases r1
 obtain ⟨its,r,ht,hz⟩:=I4.list hx;have A9:=r.length;show wpAny (model X.prog X.w) X.A (subscriptTail e (.Slice none none (some k) p2) (.ref a) (.ref s3.heap.objs.size)) (EP X pins O Q) X.xe { s3 with heap:=s3.heap.push { cls:=.type "slice",data:=.fields #[.none,.none,vk] } };refine tail_any (ops:=[.ref a,.ref s3.heap.objs.size]) ht.isList.typeIs slot_list_getitem.lookup ?_ (by with_unfolding_all rfl);refine wpAny_getItem_list_slice ht.isList (Heap.IsSliceOf.new ..) .none .none pk (by simp) ?_ (by rw [E7] <;> lia);rw [PySem.W.krv_pick];refine ⟨.ref _,_,I4.laid (o:=.lst xs.reverse) (fun b ob q=>Heap.get?_push_of_some _ q) (B5 _) ?_,rfl,q _ (I4.hok.fresh (B5 _))⟩;exact ⟨by rw [List.length_reverse];exact hz,_,0,Vals.rev r,Heap.get?_push_size _ rfl⟩
theorem aq7{k:Expr}{tk:TO}{pos:Pos}(he:QE X e te)(hk:QO X (some k) tk)(hK:X.K=K:=by rfl):QE X (.Subscript e (.Slice none none (some k) p2) pos) (tRev K te tk):=by subst hK;exact ⟨aq6 he.out hk.out⟩
theorem aof{tk:TO} : tRev K te tk O H Q=te O H fun x H1=>tk O H1 fun k H2=>k=some (-1)/\∃ a xs,x=.ref a/\C7 K H2 a xs/\∀ p,H2 p=none->Q (.ref p) (A0 H2 p (.lst xs.reverse)):=rfl
end L2
set_option maxRecDepth 100000
namespace PySem
section
variable {prog:Program} {w:World} {A:Around} {E:Value->Shared->Prop} {s:Shared}
end
end PySem
namespace L2
open PySem PySem.Spec PyProof.Rows
noncomputable def tLRev (ta:TA):TE:=fun O H Q=>ta O H fun vs H1=>∃ (l:Addr) (xs:List V),vs=[.ref l]/\H1 l=some (.lst xs)/\∀ p,H1 p=none->Q (.ref p) (A0 H1 p (.lst xs.reverse))
theorem aog : tLRev ta O H Q=ta O H fun vs H1=>∃ (l:Addr) (xs:List V),vs=[.ref l]/\H1 l=some (.lst xs)/\∀ p,H1 p=none->Q (.ref p) (A0 H1 p (.lst xs.reverse)):=rfl
end L2
set_option maxRecDepth 100000
namespace L2
open PySem PySem.Spec PyProof.Rows
noncomputable def b9 (k w:Int):List Int:=if k=0 then [1] else if k=1 then [2,w+1] else [w+3]
noncomputable def c9 (U:List E6):List Int:=U.flatMap fun u=>b9 u.1 u.2.1
theorem afc(k w:Int):(b9 k w).length<=2:=by
 unfold b9
 split
 .simp
 .split <;> simp
theorem vO:∀ U:List E6,(c9 U).length<=2*U.length
 | []=>B5 _
 | u::U=>by
  have h1:=vO U;have h2:=afc u.1 u.2.1;show (b9 u.1 u.2.1++c9 U).length<=_;rw [C8,G6];lia
theorem ahk{u:E6}(h:U[i]?=some u):c9 (U.take (i+1))=c9 (U.take i)++b9 u.1 u.2.1:=by
 unfold c9;rw [J7 h,Z4]
 simp
noncomputable def aib:Sp:=fun vs H Q _=>∃ (k w:Int),vs=[.int k,.int w]/\∀ l,H l=none->Q (.ref l) (A0 H l (.lst ((b9 k w).map V.int)))
noncomputable def vP:Sp:=fun vs H Q _=>∃ (a:Addr) (U:List E6),vs=[.ref a]/\IsUn H a U/\U.length<=10000/\∀ l H',H l=none->Same H H'->H' l=some (.lst ((c9 U).map V.int))->Q (.ref l) H'
noncomputable def j3 (U:List E6):List Int:=U.flatMap fun u=>(u.2.2.1.map fun p=>p+2)++[1]
noncomputable def agM:Sp:=fun vs H Q _=>∃ (z:Str),vs=[.str z]/\z.length<=1000/\∀ l H',H l=none->Same H H'->H' l=some (.lst ((z.cps.toList.map fun c:Nat=>(c:Int)).map V.int))->Q (.ref l) H'
noncomputable def Q0 (U:List E6):Nat:=(U.map fun u=>u.2.2.1.length).sum
theorem ahl(U:List E6)(s:Tr):Q0 (addS U s)<=Q0 U+1:=by
 unfold addS
 by_cases h:s.1=0
 .rw [if_pos h]
  by_cases hU:U=[]
  .subst hU;unfold addM Q0
   simp
  .obtain ⟨U',u,rfl⟩:=vK hU;unfold addM;rw [List.getLast?_append,List.getLast?_singleton];simp [Q0];lia
 .rw [if_neg h];simp [Q0]
theorem aeu:∀ (ss:List Tr) (U:List E6),Q0 (ss.foldl addS U)<=Q0 U+ss.length
 | [],U=>B5 _
 | s::ss,U=>by
  rw [List.foldl_cons,G6];have h1:=aeu ss (addS U s);have h2:=ahl U s;lia
theorem agN{S:Str->List Tr}(hs:∀ y,(S y).length<=15)(ps:List Str):Q0 (U6 S ps)<=15*ps.length:=by
 have h0:(ps.flatMap S).length<=15*ps.length:=by
  induction ps with
  | nil=>exact B5 _
  | cons p ps ih=>
   rw [g7,C8,G6]
   have:=hs p
   lia
 have h1:=aeu (ps.flatMap S) [];unfold U6;have h2:Q0 []=0:=rfl;lia
theorem aev(U:List E6):(j3 U).length=Q0 U+U.length:=by
 unfold j3 Q0
 induction U with
 | nil=>rfl
 | cons u U ih=>
  rw [g7,C8,ih,K5,List.sum_cons,G6]
  simp
  lia
theorem afd(U:List E6):Q0 U.reverse=Q0 U:=by
 unfold Q0;rw [List.map_reverse,List.sum_reverse]
noncomputable def agO:Sp:=fun vs H Q _=>∃ (a:Addr) (b:Bool) (U:List E6),vs=[.ref a,.bl b]/\IsUn H a U/\U.length<=10000/\(∀ u∈U,u.2.2.1.length<=10000)/\Q0 U<=100000/\∀ l H',H l=none->Same H H'->H' l=some (.lst ((j3 (if b=true then U.reverse else U)).map V.int))->Q (.ref l) H'
theorem afe{α β:Type}{F:α->β->Prop} : ∀ {as:List α} {bs:List β},Paired F as bs->Paired F as.reverse bs.reverse
 | _,_,.nil=>.nil
 | _,_,.cons h t=>by
  rw [List.reverse_cons,List.reverse_cons];exact Paired.snoc (afe t) h
theorem adR{α β:Type}{F:α->β->Prop} : ∀ {as:List α} {bs:List β} (h:Paired F as bs) (n:Nat),Paired F (as.take n) (bs.take n)
 | _,_,.nil,n=>by rw [List.take_nil,List.take_nil];exact .nil
 | _,_,.cons h t,0=>.nil
 | _,_,.cons h t,n+1=>.cons h (adR t n)
noncomputable def iW (b:Bool) (U:List E6) (z:Str):List (List Int):=[c9 U,j3 (if b=true then U.reverse else U),U.map fun u=>u.2.2.2+1,z.cps.toList.map fun c:Nat=>(c:Int)]
noncomputable def keyF (n:Nat) (b:Bool) (U:List E6) (z:Str):List Int:=((iW b U z).take n).flatMap fun l=>l++[0]
noncomputable def spKey (C:Addr):Sp:=fun vs H Q _=>∃ (x j ll ml md:Addr) (z:Str) (n:Nat) (g:Str->Str) (R:List Rl) (L M:List Str),vs=[.ref x,.str z,.int n]/\n<=4/\IsOrd C H x j ll ml md g R L M/\(F9 R).length<=1000/\z.length<=500/\aO (hasW R "figures") (F9 R) z/\(∀ y,(stepY R L M y).length<=15)/\
 ∀ l H',H l=none->Same H H'->H' l=some (.lst ((keyF n (hasW R "behind") (U6 (stepY R L M) (cutF (hasW R "figures") (F9 R) z.cps.toList).2) z).map V.int))->Q (.ref l) H'
noncomputable def qK (C:Addr):Sp:=fun vs H Q _=>∃ (x j ll ml md:Addr) (z:Str) (g:Str->Str) (R:List Rl) (L M:List Str),vs=[.ref x,.str z]/\IsOrd C H x j ll ml md g R L M/\(F9 R).length<=1000/\z.length<=500/\aO (hasW R "figures") (F9 R) z/\(∀ y,(stepY R L M y).length<=15)/\
 ∀ l H',H l=none->Same H H'->H' l=some (.lst ((c9 (U6 (stepY R L M) (cutF (hasW R "figures") (F9 R) z.cps.toList).2)).map V.int))->Q (.ref l) H'
noncomputable def aic:Sp:=fun vs H Q _=>∃ (a:Addr) (U:List E6),vs=[.ref a]/\IsUn H a U/\U.length<=10000/\∀ l H',H l=none->Same H H'->H' l=some (.lst ((U.map fun u=>u.2.2.2+1).map V.int))->Q (.ref l) H'
noncomputable def StOk (s:Tr):Prop:=(s.1=0\/s.1=1\/s.1=2)/\0<=s.2.1/\0<=s.2.2
noncomputable def EltOk (u:E6):Prop:=(u.1=0\/u.1=1\/u.1=2)/\0<=u.2.1/\(∀ p∈u.2.2.1,0<=p)/\0<=u.2.2.2
theorem al5 : ∀ s∈stepF R L M y,StOk s:=by
 unfold stepF;cases e:(putsL R L M).lookup y with
 | none=>intro s hs;cases hs
 | some t=>
  obtain ⟨l1,l2,el,_⟩:=List.lookup_eq_some_iff.mp e;have hm:(y,t)∈putsL R L M:=by rw [el];simp
  show ∀ s∈t,StOk s;have one:∀ {a:Tr},[a]=t->StOk a->∀ s∈t,StOk s:=fun {a} e h s hs=>by
   rw [<- e] at hs;rw [D1.mp hs];exact h
  unfold putsL at hm
  rcases D4.mp hm with hm | hm
  .rcases D4.mp hm with hm | hm
   .rcases D4.mp hm with hm | hm
    .obtain ⟨a,_,q⟩:=E5.mp hm;exact one (Prod.mk.inj q).2 ⟨.inr (.inr rfl),dY _,bW _⟩
    .obtain ⟨a,_,q⟩:=E5.mp hm;exact one (Prod.mk.inj q).2 ⟨.inl rfl,dY _,bW _⟩
   .obtain ⟨_,_,hm⟩:=g8.mp hm;obtain ⟨a,_,q⟩:=E5.mp hm;exact one (Prod.mk.inj q).2 ⟨.inr (.inr rfl),dY _,dY _⟩
  .unfold lJ at hm;obtain ⟨z,hz,q⟩:=gL.mp hm
   by_cases hw:z.1=("as" : Str)
   .rw [if_pos hw,kQ] at q;obtain ⟨p,_,q⟩:=q;rw [<- (Prod.mk.inj q).2];intro s hs;obtain ⟨b,_,rfl⟩:=E5.mp hs;unfold baseT
    by_cases hb:b∈L
    .rw [if_pos hb];exact ⟨.inr (.inr rfl),dY _,bW _⟩
    .rw [if_neg hb];exact ⟨.inl rfl,dY _,bW _⟩
   .rw [if_neg hw] at q;cases q
theorem al6(y:Str):∀ s∈stepY R L M y,StOk s:=by
 unfold stepY
 split
 .intro s hs;rw [D1.mp hs];exact ⟨.inr (.inl rfl),dY _,bW _⟩
 .exact al5
theorem aoh{s:Tr}(hU:∀ u∈U,EltOk u)(hs:StOk s):∀ u∈addS U s,EltOk u:=by
 unfold addS
 split
 .unfold addM
  split
  .intro u hu;rw [D1.mp hu];exact ⟨.inl rfl,bW _,fun p hp=>by rw [D1.mp hp];exact hs.2.1,bW _⟩
  .rename_i v hv
   have ov:=hU v (List.mem_of_getLast? hv);intro u hu
   rcases D4.mp hu with h | h
   .exact hU u ((List.dropLast_sublist _).subset h)
   .rw [D1.mp h];refine ⟨ov.1,ov.2.1,fun p hp=>?_,ov.2.2.2⟩
    rcases D4.mp hp with h | h
    .exact ov.2.2.1 p h
    .rw [D1.mp h];exact hs.2.1
 .intro u hu
  rcases D4.mp hu with h | h
  .exact hU u h
  .rw [D1.mp h];exact ⟨hs.1,hs.2.1,by simp,hs.2.2⟩
theorem al7{S:Str->List Tr}(hS:∀ y,∀ s∈S y,StOk s)(ps:List Str):∀ u∈U6 S ps,EltOk u:=by
 have gen:∀ (ss:List Tr) (U:List E6),(∀ u∈U,EltOk u)->(∀ s∈ss,StOk s)->∀ u∈ss.foldl addS U,EltOk u:=by
  intro ss
  induction ss with
  | nil=>intro U hU _;exact hU
  | cons s ss ih=>intro U hU hs;exact ih _ (aoh hU (hs s L5)) fun t ht=>hs t (M3 _ ht)
 refine gen _ [] (by simp) fun s hs=>?_
 obtain ⟨y,_,h⟩:=g8.mp hs;exact hS y s h
end L2
set_option maxRecDepth 100000
namespace PySem.SeqAt
open AutoSeq1 (wpAny_loadPart')
open MeetsSeq MeetsSeq2 MeetsSeq3 SeqRoads2
noncomputable def RcLt (A:Around) (s:Shared) (y x:Value) (b:Bool):Prop:=
 ∀ (prog:Program) (w:World) (E:Value->Shared->Prop) (Q:Value->Shared->Prop),Q (.bool b) s->wpAny (model prog w) A (richCompare .Lt y x) Q E s
theorem akm{α:Type}[DecidableEq α][LT α][DecidableLT α](o3:∀ a:α,¬ a<a){xs ys:List α}(h1:i<xs.length)(h2:i<ys.length) :
  decide (xs.drop i<ys.drop i)=if decide (xs[i]=ys[i])=true then decide (xs.drop (i+1)<ys.drop (i+1)) else decide (xs[i]<ys[i]):=by
 rw [gG h1,gG h2]
 by_cases e:xs[i]=ys[i]
 .rw [if_pos (decide_eq_true e)];refine decide_eq_decide.mpr ?_;rw [Z3,e];exact ⟨fun h=>h.elim (fun h=>absurd h (o3 _)) (fun h=>h.2),fun h=>.inr ⟨rfl,h⟩⟩
 .rw [if_neg (by simpa using e)];refine decide_eq_decide.mpr ?_;rw [Z3];exact ⟨fun h=>h.elim id fun h=>absurd h.1 e,.inl⟩
theorem amJ{α:Type}[LT α][DecidableEq α][DecidableLT α]{ys:List α}{m':Nat}(hx:m=m')(hy:n=ys.length)(hi:i=m):decide ([]<ys.drop i)=decide (m<n):=by
 refine decide_eq_decide.mpr ?_;cases e:ys.drop i with
 | nil=>
  have:=List.drop_eq_nil_iff.mp e
  exact ⟨fun h=>absurd h (List.not_lt_nil _),fun h=>by lia⟩
 | cons a r=>
  have:i<ys.length:=by
   rcases V3 i ys.length with h | h
   .exact h
   .rw [kI h] at e;cases e
  exact ⟨fun _=>by lia,fun _=>List.nil_lt_cons _ _⟩
theorem akn{α:Type}[DecidableEq α][LT α][DecidableLT α](o3:∀ a:α,¬ a<a)(l b:Addr)(items items2:Array Value)(n n2:Nat)(dd X3:Option Addr)(sl W3:Array (Option Value))(xs ys:List α)(hx:items.size=xs.length)(hy:items2.size=ys.length)(k:Nat) :
  ∀ i:Nat,items.size-i=k->i<=items.size->i<=items2.size->Meets (Builtin.«list.__eq__.loop» ⟨[.ref l,.ref b,rawInt i,rawInt 0],[]⟩)
   (fun A R s=>s.heap.get? l=some { cls:=.type "list",dict:=dd,data:=.seq items n,slots:=sl }/\s.heap.get? b=some { cls:=.type "list",dict:=X3,data:=.seq items2 n2,slots:=W3 }/\
    (∀ j (h1:j<items.size) (h2:j<items2.size) (g1:j<xs.length) (g2:j<ys.length),EqAt A.in1 s items[j] items2[j] (decide (xs[j]=ys[j]))/\RcLt A.in1 s items[j] items2[j] (decide (xs[j]<ys[j])))/\
    R (.ok (.ret (.bool (decide (xs.drop i<ys.drop i))))) s):=by
 induction k with
 | zero=>
  intro i hk l1 l2 prog w A R s h;obtain ⟨hp,g,d,tk,os⟩:=s;obtain ⟨hl,hb,he,h⟩:=h
  wp_walk using wpAny_loadPart' hl,wpAny_loadPart' hb
  have bA:items[((i:Nat):Int).toNat]?=none:=by simp;lia
  rw [bA]
  wp_walk using wpAny_loadPart' hl,wpAny_loadPart' hb
  show R (.ok (.ret (.bool (decide (items.size<items2.size))))) _;have e:decide (xs.drop i<ys.drop i)=decide (items.size<items2.size):=by
   rw [kI (as:=xs) (by lia)];exact amJ hx hy (by lia)
  rw [e] at h;exact h
 | succ k ih=>
  intro i hk l1 l2 prog w A R s h;obtain ⟨hp,g,d,tk,os⟩:=s;obtain ⟨hl,hb,he,h⟩:=h
  wp_walk using wpAny_loadPart' hl,wpAny_loadPart' hb
  have C4:i<items.size:=by lia
  have bA:items[((i:Nat):Int).toNat]?=some items[i]:=by simp [C4]
  by_cases mV:i<items2.size
  .have f7:items2[((i:Nat):Int).toNat]?=some items2[i]:=by simp [mV]
   have hc:((i:Int)+1)=((i+1:Nat):Int):=by push_cast;rfl
   rw [bA,f7];obtain ⟨h1,h2⟩:=he i C4 mV (by lia) (by lia);rw [akm o3 (by lia) (by lia)] at h;refine wpAny_bind (h1 prog w _ _ ?_);cases X5:decide (xs[i]'(by lia)=ys[i]'(by lia)) with
   | true=>
    rw [X5,if_pos rfl] at h
    wp_walk
    rw [hc];exact ⟨plainId_quiet plain_eq_loop _,codeAny_builtin entry_eq_loop (by
     rw [Around.under_plainId plain_eq_loop _];exact ih (i+1) (by lia) (by lia) (by lia) prog w A R _ ⟨hl,hb,he,h⟩)⟩
   | false=>
    rw [X5,if_neg (by decide)] at h
    wp_walk using wpAny_loadPart' hl,wpAny_loadPart' hb
    rw [bA,f7];refine wpAny_bind (h2 prog w _ _ ?_)
    wp_walk
    exact h
  .have f7:items2[((i:Nat):Int).toNat]?=none:=by simp;lia
   rw [bA,f7]
   wp_walk using wpAny_loadPart' hl,wpAny_loadPart' hb
   show R (.ok (.ret (.bool (decide (items.size<items2.size))))) _;have e:decide (xs.drop i<ys.drop i)=decide (items.size<items2.size):=by
    rw [kI (as:=ys) (by lia)];refine decide_eq_decide.mpr ?_;exact ⟨fun h=>absurd h (List.not_lt_nil _),fun h=>by lia⟩
   rw [e] at h;exact h
theorem list_ltAt{α:Type}[DecidableEq α][LT α][DecidableLT α](o3:∀ a:α,¬ a<a)(l b:Addr)(items items2:Array Value)(n n2:Nat)(dd X3:Option Addr)(sl W3:Array (Option Value))(xs ys:List α)(hx:items.size=xs.length)(hy:items2.size=ys.length) :
  Meets (Builtin.«list.__lt__» ⟨[.ref l,.ref b],[]⟩)
   (fun A R s=>s.heap.get? l=some { cls:=.type "list",dict:=dd,data:=.seq items n,slots:=sl }/\s.heap.get? b=some { cls:=.type "list",dict:=X3,data:=.seq items2 n2,slots:=W3 }/\
    (∀ j (h1:j<items.size) (h2:j<items2.size) (g1:j<xs.length) (g2:j<ys.length),EqAt A.in1 s items[j] items2[j] (decide (xs[j]=ys[j]))/\RcLt A.in1 s items[j] items2[j] (decide (xs[j]<ys[j])))/\
    R (.ok (.ret (.bool (decide (xs<ys))))) s):=by
 intro prog w A R s h;obtain ⟨hp,g,d,tk,os⟩:=s;obtain ⟨hl,hb,he,h⟩:=h;have f3:=AutoSeq1.sub_list_list
 wp_walk using wpAny_loadPart' hl,wpAny_loadPart' hb
 exact ⟨plainId_quiet plain_eq_loop _,codeAny_builtin entry_eq_loop (by
  rw [Around.under_plainId plain_eq_loop _];exact akn o3 l b items items2 n n2 dd X3 sl W3 xs ys hx hy _ 0 rfl (F7 _) (F7 _) prog w A R _ ⟨hl,hb,he,h⟩)⟩
theorem aiU{α:Type}[DecidableEq α][LT α][DecidableLT α](o3:∀ a:α,¬ a<a)(l b:Addr)(items items2:Array Value)(n n2:Nat)(dd X3:Option Addr)(sl W3:Array (Option Value))(xs ys:List α)(hx:items.size=xs.length)(hy:items2.size=ys.length) :
  Meets (Builtin.«tuple.__lt__» ⟨[.ref l,.ref b],[]⟩)
   (fun A R s=>s.heap.get? l=some { cls:=.type "tuple",dict:=dd,data:=.seq items n,slots:=sl }/\s.heap.get? b=some { cls:=.type "tuple",dict:=X3,data:=.seq items2 n2,slots:=W3 }/\
    (∀ j (h1:j<items.size) (h2:j<items2.size) (g1:j<xs.length) (g2:j<ys.length),EqAt A.in1 s items[j] items2[j] (decide (xs[j]=ys[j]))/\RcLt A.in1 s items[j] items2[j] (decide (xs[j]<ys[j])))/\
    R (.ok (.ret (.bool (decide (xs<ys))))) s):=
 .of_wp fun prog w A R s h=>by
  obtain ⟨hp,g,d,tk,os⟩:=s;obtain ⟨hl,hb,he,h⟩:=h;have f2:=AutoSeq1.sub_tuple_tuple;have hZ:(items.toList.zip items2.toList).length=min items.size items2.size:=by simp
  wp_walk using wpAny_loadPart' hl,wpAny_loadPart' hb,wpAny_forIn_list _ (fun rest b s'=>b.1=none/\s'=⟨hp,g,d,tk,os⟩/\∃ i,rest=(items.toList.zip items2.toList).drop i/\i<=min items.size items2.size/\
   R (.ok (.ret (.bool (decide (xs.drop i<ys.drop i))))) ⟨hp,g,d,tk,os⟩) _
  case turn=>
   rintro ⟨y,x⟩ rest b s' ⟨X5,rfl,i,hz,hi,hR⟩;have C4:i<(items.toList.zip items2.toList).length:=by
    rcases V3 i (items.toList.zip items2.toList).length with h' | h'
    .exact h'
    .rw [kH h'] at hz;cases hz
   have hm:i<min items.size items2.size:=hZ ▸ C4;have h1:i<items.size:=O2 hm (Nat.min_le_left _ _);have h2:i<items2.size:=O2 hm (Nat.min_le_right _ _);rw [gG C4] at hz
   injection hz with hyx R7
   have rW:y=items[i]:=by have:=congrArg Prod.fst hyx;simpa using this
   have yR:x=items2[i]:=by have:=congrArg Prod.snd hyx;simpa using this
   subst rW yR;rw [akm o3 (by lia) (by lia)] at hR;obtain ⟨q1,q2⟩:=he i h1 h2 (by lia) (by lia);refine wpAny_bind (q1 prog w _ _ ?_);cases rW:decide (xs[i]'(by lia)=ys[i]'(by lia)) with
   | true=>
    rw [rW,if_pos rfl] at hR
    wp_walk
    exact ⟨rfl,rfl,i+1,R7,hm,hR⟩
   | false=>
    rw [rW,if_neg (by decide)] at hR;refine wpAny_ite_split (fun _=>?_) (fun y3=>absurd rfl y3);refine wpAny_bind (wpAny_rule ?_);refine wpAny_bind (q2 prog w _ _ ?_)
    wp_walk
    exact ⟨_,rfl,hR⟩
  case fin=>
   rintro ⟨b1,b2⟩ s' ⟨X5,rfl,i,hz,hi,hR⟩;simp only at X5;subst X5;have dH:min items.size items2.size<=i:=by
    rcases V3 i (items.toList.zip items2.toList).length with h' | h'
    .rw [gG h'] at hz;cases hz
    .exact hZ ▸ h'
   have e:decide (xs.drop i<ys.drop i)=decide (items.size<items2.size):=by
    by_cases hc:items.size<=i
    .rw [kI (as:=xs) (by lia)];exact amJ hx hy (by lia)
    .rw [kI (as:=ys) (by lia)];refine decide_eq_decide.mpr ?_;exact ⟨fun h=>absurd h (List.not_lt_nil _),fun h=>by lia⟩
   rw [e] at hR
   wp_walk
   exact ⟨_,rfl,by simpa [Builtin.Tuple.tupleCompareSizes] using hR⟩
  case h=>
   exact ⟨rfl,rfl,0,rfl,F7 _,h⟩
section
variable {A:Around} {s:Shared}
theorem RcLt.lists{α:Type}[DecidableEq α][LT α][DecidableLT α](o3:∀ a:α,¬ a<a){l:Addr}{xs ys:List α}(hl:s.heap.IsList l items)(hb:s.heap.IsList b items2)(hx:items.size=xs.length)(hy:items2.size=ys.length)(hu:A.units<cLine)(he:∀ j (h1:j<items.size) (h2:j<items2.size) (g1:j<xs.length) (g2:j<ys.length),EqAt A.in1 s items[j] items2[j] (decide (xs[j]=ys[j]))/\RcLt A.in1 s items[j] items2[j] (decide (xs[j]<ys[j]))):RcLt A s (.ref l) (.ref b) (decide (xs<ys)):=fun prog w E Q h=>by
 obtain ⟨⟨cls,dd,data,sl⟩,ho,hc,n,hd⟩:=id hl;obtain ⟨⟨cls2,X3,data2,W3⟩,j7,P8,n2,Q3⟩:=id hb;simp only at hc hd P8 Q3;subst hc hd P8 Q3;exact richCompare_meets_room (op:=.Lt) ⟨_,ho,rfl⟩ ⟨_,j7,rfl⟩ F.slot_list_lt F.entry_list_lt (F.args_list_lt_2 _ _) (list_ltAt o3 l b items items2 n n2 dd X3 sl W3 xs ys hx hy)
  ⟨ho,j7,he,show Value.bool (decide (xs<ys))≠Value.notImplemented/\Q (.bool (decide (xs<ys))) s from ⟨(fun x=>nomatch x),h⟩⟩ hu
theorem RcLt.tuples{α:Type}[DecidableEq α][LT α][DecidableLT α](o3:∀ a:α,¬ a<a){l:Addr}{xs ys:List α}(hl:s.heap.IsTuple l items)(hb:s.heap.IsTuple b items2)(hx:items.size=xs.length)(hy:items2.size=ys.length)(hu:A.units<cLine)(he:∀ j (h1:j<items.size) (h2:j<items2.size) (g1:j<xs.length) (g2:j<ys.length),EqAt A.in1 s items[j] items2[j] (decide (xs[j]=ys[j]))/\RcLt A.in1 s items[j] items2[j] (decide (xs[j]<ys[j]))):RcLt A s (.ref l) (.ref b) (decide (xs<ys)):=fun prog w E Q h=>by
 obtain ⟨⟨cls,dd,data,sl⟩,ho,hc,n,hd⟩:=id hl;obtain ⟨⟨cls2,X3,data2,W3⟩,j7,P8,n2,Q3⟩:=id hb;simp only at hc hd P8 Q3;subst hc hd P8 Q3;exact richCompare_meets_room (op:=.Lt) ⟨_,ho,rfl⟩ ⟨_,j7,rfl⟩ F.slot_tuple_lt F.entry_tuple_lt (F.args_tuple_lt_2 _ _) (aiU o3 l b items items2 n n2 dd X3 sl W3 xs ys hx hy)
  ⟨ho,j7,he,show Value.bool (decide (xs<ys))≠Value.notImplemented/\Q (.bool (decide (xs<ys))) s from ⟨(fun x=>nomatch x),h⟩⟩ hu
theorem RcLt.int_int(a:Int)(t:Tok)(b:Int)(u:Tok):RcLt A s (.int a t) (.int b u) (decide (a<b)):=fun prog w E Q h=>PySem.P.lt_int h
end
end PySem.SeqAt
namespace L2
open PySem PySem.Spec PyProof.Rows
theorem qL{xs ys:List Int}(r1:Vals (xs.map V.int) its)(r2:Vals (ys.map V.int) its2) :
  ∀ j (h1:j<its.toArray.size) (h2:j<its2.toArray.size) (g1:j<xs.length) (g2:j<ys.length),SeqAt.EqAt A s its.toArray[j] its2.toArray[j] (decide (xs[j]=ys[j]))/\SeqAt.RcLt A s its.toArray[j] its2.toArray[j] (decide (xs[j]<ys[j])):=by
 intro j h1 h2 g1 g2;obtain ⟨t,e1⟩:=pY (oS r1) (j:=j) (z:=xs[j]) (by simp);obtain ⟨u,e2⟩:=pY (oS r2) (j:=j) (z:=ys[j]) (by simp);have q1:its.toArray[j]=.int xs[j] t:=by have:=(F6.mp e1).2;simpa using this
 have q2:its2.toArray[j]=.int ys[j] u:=by have:=(F6.mp e2).2;simpa using this
 rw [q1,q2];refine ⟨?_,SeqAt.RcLt.int_int _ _ _ _⟩
 have:=SeqAt.EqAt.int_int (A:=A) (s:=s) xs[j] t ys[j] u
 rwa [show (xs[j]==ys[j])=decide (xs[j]=ys[j]) by rw [Bool.beq_eq_decide_eq]] at this
noncomputable def rLtR (K:PySem.W.Frag) (a b:Addr) (H:Hp) (Q:VK):Prop:=
 (∃ xs ys:List Int,C7 K H a (xs.map V.int)/\C7 K H b (ys.map V.int)/\Q (.bl (decide (xs<ys))) H)\/
 (∃ xs ys:List Int,C6 K H a (xs.map V.int)/\C6 K H b (ys.map V.int)/\Q (.bl (decide (xs<ys))) H)\/
 ∃ (as bs:List Addr) (xs ys:List (List Int)),C7 K H a (as.map V.ref)/\C7 K H b (bs.map V.ref)/\Paired (fun c x=>C6 K H c (x.map V.int)) as xs/\Paired (fun c x=>C6 K H c (x.map V.int)) bs ys/\Q (.bl (decide (xs<ys))) H
noncomputable def rLtK (K:PySem.W.Frag):V->V->Hp->VK->Prop
 | .int i,.int j,H,Q=>Q (.bl (decide (i<j))) H
 | .str i,.str j,H,Q=>Q (.bl (decide (i.cps.toList<j.cps.toList))) H
 | .ref a,.ref b,H,Q=>rLtR K a b H Q
 | _,_,_,_=>False
theorem q_ltK(hu:X.A.units+64<cLine)(hK:X.K=K:=by rfl):QOp X (compareOp .Lt) (rLtK K):=⟨by
 subst hK;intro pins s O H x y v u Q I rx ry h;have u0:X.A.units<cLine:=by lia
 have u1:X.A.in1.units<cLine:=by rw [show X.A.in1.units=X.A.units+1 from rfl];lia
 have u2:X.A.in1.in1.units<cLine:=by rw [show X.A.in1.in1.units=X.A.units+2 from rfl];lia
 cases x <;> cases y <;> try exact h.elim
 .exact op_lt pins s O H _ _ v u Q I rx ry ⟨_,_,rfl,rfl,h⟩
 .exact af3 pins s O H _ _ v u Q I rx ry ⟨_,_,rfl,rfl,h⟩
 cases rx
 cases ry
 rcases h with ⟨xs,ys,h1,h2,q⟩ | ⟨xs,ys,h1,h2,q⟩ | ⟨as,bs,xs,ys,h1,h2,p1,p2,q⟩
 .obtain ⟨its,r1,l1,_⟩:=I.list h1;obtain ⟨its2,r2,l2,_⟩:=I.list h2;have e1:=r1.length;have e2:=r2.length;rw [A4] at e1 e2;exact SeqAt.RcLt.lists Int.lt_irrefl l1.isList l2.isList (by simpa using e1.symm) (by simpa using e2.symm) u0 (qL r1 r2) _ _ _ _ ⟨.bl _,H,I,rfl,q⟩
 .obtain ⟨its,r1,l1,_⟩:=I.tuple h1;obtain ⟨its2,r2,l2,_⟩:=I.tuple h2;have e1:=r1.length;have e2:=r2.length;rw [A4] at e1 e2;exact SeqAt.RcLt.tuples Int.lt_irrefl l1 l2 (by simpa using e1.symm) (by simpa using e2.symm) u0 (qL r1 r2) _ _ _ _ ⟨.bl _,H,I,rfl,q⟩
 .obtain ⟨its,r1,l1,_⟩:=I.list h1;obtain ⟨its2,r2,l2,_⟩:=I.list h2;have e1:=r1.length;have e2:=r2.length;rw [A4] at e1 e2;have f1:=Paired.length p1;have f2:=Paired.length p2;refine SeqAt.RcLt.lists (xs:=xs) (ys:=ys) (fun a=>List.lt_irrefl a) l1.isList l2.isList (by simp;lia) (by simp;lia) u0 (fun j h1 h2 g1 g2=>?_) _ _ _ _ ⟨.bl _,H,I,rfl,q⟩;have j1:j<as.length:=by lia
  have j2:j<bs.length:=by lia
  obtain ⟨v1,w1,z1⟩:=Vals.get (i:=j) (x:=.ref as[j]) r1 (by simp [j1]);obtain ⟨v2,w2,z2⟩:=Vals.get (i:=j) (x:=.ref bs[j]) r2 (by simp [j2]);have q1:its.toArray[j]=v1:=by have:=(F6.mp w1).2;simpa using this
  have q2:its2.toArray[j]=v2:=by have:=(F6.mp w2).2;simpa using this
  rw [q1,q2];obtain ⟨x1,y1,t1⟩:=Paired.at p1 (i:=j) (a:=as[j]) (by simp [j1]);obtain ⟨x2,y2,t2⟩:=Paired.at p2 (i:=j) (a:=bs[j]) (by simp [j2]);have o1:xs[j]=x1:=(F6.mp y1).2;have o2:ys[j]=x2:=(F6.mp y2).2;rw [o1,o2]
  constructor
  .obtain ⟨c1,us1,d1⟩:=(Dn.tup t1 eE).reads I rfl z1;obtain ⟨c2,us2,d2⟩:=(Dn.tup t2 eE).reads I rfl z2
   have:=SeqAt.eqAt_reads _ _ X.A.in1 s v1 v2 _ _ d1 d2 c1 c2 (by
    have hd:∀ zs:List Int,(PyData.tuple (zs.map PyData.int)).depth=1:=fun zs=>by rw [PyData.depth,pI]
    have ui:X.A.in1.units=X.A.units+1:=rfl;rw [hd,hd];lia)
   rwa [k7,pB] at this
  .cases z1
   cases z2
   obtain ⟨i1,s1,m1,_⟩:=I.tuple t1;obtain ⟨i2,s2,m2,_⟩:=I.tuple t2;have k1:=s1.length;have k2:=s2.length;rw [A4] at k1 k2;exact SeqAt.RcLt.tuples Int.lt_irrefl m1 m2 (by simpa using k1.symm) (by simpa using k2.symm) u1 (qL s1 s2)⟩
section
variable {K:PySem.W.Frag} {H:Hp} {Q:VK}
theorem aq8{i j:Int} : rLtK K (.int i) (.int j) H Q=Q (.bl (decide (i<j))) H:=rfl
theorem aq9{i j:Str} : rLtK K (.str i) (.str j) H Q=Q (.bl (decide (i.cps.toList<j.cps.toList))) H:=rfl
theorem ara : rLtK K (.ref a) (.ref b) H Q=rLtR K a b H Q:=rfl
end
end L2
set_option maxRecDepth 100000
namespace L2
open PySem PySem.Spec PyProof.Rows
noncomputable def iDict (tl:TE):TI:=fun O H R=>tl O H fun x H1=>∃ a kvs,x=.ref a/\H1 a=some (.dK kvs)/\∀ o,R (eO a o kvs) (A0 H1 a (.frz o (.dK kvs)))
theorem al8{R:It->Hp->Prop} : iDict tl O H R=tl O H fun x H1=>∃ a kvs,x=.ref a/\H1 a=some (.dK kvs)/\∀ o,R (eO a o kvs) (A0 H1 a (.frz o (.dK kvs))):=rfl
noncomputable def tThaw (te:TE):TE:=fun O H Q=>∃ a kvs,H a=some (.dK kvs)/\te O H fun v H'=>(∃ o,H' a=some (.frz o (.dK kvs)))/\Q v (A0 H' a (.dK kvs))
theorem aoi(h:QE X e te):QE X e (tThaw te):=⟨by
 intro pins s O H Q I q;obtain ⟨a,kvs,e1,q⟩:=q;have NF:∀ o' v',X.H₀ a≠some (.frz o' v'):=fun o' v' z=>by
  have:=I.base.frzs _ _ _ z
  rw [e1] at this;cases this
 refine B1 (h.out pins s O H _ I q) fun v s1 ⟨x,H1,I1,r1,⟨o,e2⟩,q1⟩=>?_
 exact ⟨x,_,I1.swap e2 (fun _ q=>by cases q) (fun _ q=>by cases q) (fun _ q=>by cases q) NF (I1.hok a _ e2).2,r1,q1⟩⟩
theorem aoj : tThaw te O H Q=∃ a kvs,H a=some (.dK kvs)/\te O H fun v H'=>(∃ o,H' a=some (.frz o (.dK kvs)))/\Q v (A0 H' a (.dK kvs)):=rfl
section
variable {X:Cx} {pos pos':Pos} {tg e elt:Expr} {ifs:List Expr} {wi:TI} {k:Nat} {ixs:List Nat} {sc:Scope} {N':List Str} {g:TG} {tA:TT} {te:TE} {x:Str}
theorem aid(C:CompOk X.N X.env.scope.names sc N' k ixs)(hi:QI X tg e wi)(hg:∀ C zw zt fp pins,QG (L8 X sc N' C zw zt fp pins) tg g)(hc:∀ C zw zt fp pins,QIfs (L8 X sc N' C zw zt fp pins) ifs tA)(he:∀ C zw zt fp pins,QE (L8 X sc N' C zw zt fp pins) elt te)(K0:X.calm=true:=by rfl)(hs:∀ x,foldedSetIterable e X.env x=pure x:=by intro _;rfl):QE X (.ListComp elt [⟨tg,e,ifs,0⟩] sc pos) (tThaw (tComp wi k ixs g tA te)):=aoi (Y0 C hi hg hc he K0 hs)
noncomputable def arb (ts:TS):TS:=fun D O H=>∃ a kvs,H a=some (.dK kvs)/\ts (D.thaw a kvs) O H
theorem al9{ts:TS} : arb ts D O H=∃ a kvs,H a=some (.dK kvs)/\ts (D.thaw a kvs) O H:=rfl
end
end L2
set_option maxRecDepth 100000
namespace L2
open PySem PySem.W PyProof.Rows
noncomputable def M6 {α:Type} (f:Nat->Nat->Bool) (n:Nat) (P:α->Prop):KasT α->Prop
 | .ret a=>P a
 | .ask i j k=>i<n/\j<n/\M6 f n P (k (f i j))
theorem M6.mono{α:Type}{f:Nat->Nat->Bool}{P P':α->Prop}(h:∀ a,P a->P' a):∀ {t:KasT α},M6 f n P t->M6 f n P' t
 | .ret _,q=>h _ q
 | .ask _ _ _,⟨a,b,q⟩=>⟨a,b,M6.mono h q⟩
theorem M6.bind{α β:Type}{f:Nat->Nat->Bool}{P:β->Prop}{g:α->KasT β} : ∀ {t:KasT α},M6 f n (fun a=>M6 f n P (g a)) t->M6 f n P (t.bind g)
 | .ret _,q=>q
 | .ask _ _ _,⟨a,b,q⟩=>⟨a,b,M6.bind q⟩
theorem uag{α:Type}{f:Nat->Nat->Bool}{P:α->Prop}{cmp:Nat->Nat->(Bool->Shared->Prop)->Shared->Prop}{I:Shared->Prop}{G:α->Shared->Prop}(hc:∀ i j (C:Bool->Shared->Prop) s,i<n->j<n->I s->(∀ s',I s'->C (f i j) s')->cmp i j C s)(hG:∀ a s,P a->I s->G a s) :
  ∀ {t:KasT α} {s:Shared},M6 f n P t->I s->t.kasWp cmp G s
 | .ret _,s,q,i=>hG _ s q i
 | .ask _ _ _,s,⟨a,b,q⟩,i=>hc _ _ _ s a b i fun s' i'=>uag hc hG q i'
structure Wk(f:Nat->Nat->Bool):Prop where
 tr:∀ i j k,f j i=false->f k j=false->f k i=false
 as_:∀ i j,f i j=true->f j i=false
theorem Wk.rf{f:Nat->Nat->Bool}(w:Wk f)(i:Nat):f i i=false:=by
 cases h:f i i with
 | false=>rfl
 | true=>have:=w.as_ i i h;rw [h] at this;exact this
theorem Wk.lt_le{f:Nat->Nat->Bool}(w:Wk f)(h1:f i j=true)(h2:f k j=false):f i k=true:=by
 cases h:f i k with
 | true=>rfl
 | false=>have:=w.tr j k i h2 h;rw [h1] at this;cases this
theorem Wk.le_lt{f:Nat->Nat->Bool}(w:Wk f)(h1:f j i=false)(h2:f j k=true):f i k=true:=by
 cases h:f i k with
 | true=>rfl
 | false=>have:=w.tr k i j h h1;rw [h2] at this;cases this
noncomputable def Lx (f:Nat->Nat->Bool) (i j:Nat):Prop:=f j i=false/\(f i j=true\/i<j)
theorem Wk.lx{f:Nat->Nat->Bool}(w:Wk f)(h:f i j=true):Lx f i j:=⟨w.as_ _ _ h,.inl h⟩
noncomputable def Up (f:Nat->Nat->Bool) (q:Nat->Nat) (m:Nat):Prop:=∀ i j,i<j->j<m->Lx f (q i) (q j)
noncomputable def Dw (f:Nat->Nat->Bool) (q:Nat->Nat) (m:Nat):Prop:=∀ i j,i<j->j<m->Lx f (q j) (q i)
noncomputable abbrev gA (p:Array Nat) (i:Nat):Nat:=p.getD i 0
structure Sg(p:Array Nat)(m n:Nat):Prop where
 sz:p.size=n
 pm:p.toList.Perm (P1 n)
 lo:∀ i,i<m->gA p i<m
 id_:∀ i,m<=i->i<n->gA p i=i
theorem Sg.lt{p:Array Nat}(h:Sg p m n)(hm:m<=n)(hi:i<n):gA p i<n:=by
 rcases V3 i m with q | q
 .exact O2 (h.lo i q) hm
 .rw [h.id_ i q hi];exact hi
theorem Sg.succ{p:Array Nat}(h:Sg p m n)(hm:m<n):Sg p (m+1) n:=⟨h.sz,h.pm,fun i hi=>by
 rcases V3 i m with q | q
 .exact Nat.lt_succ_of_lt (h.lo i q)
 .have e:i=m:=by lia
  rw [e,h.id_ m (B5 _) hm];exact Nat.lt_succ_self _,fun i hi hn=>h.id_ i (by lia) hn⟩
theorem j4{p:Array Nat}(hj:j<=p.size)(k:Nat):gA (kas_rev p i j) k=if i<=k/\k<j then gA p (i+j-1-k) else gA p k:=by
 have e:=getElem?_mirror_all (xs:=p) (i:=i) hj k;show (mirror p i j ((j-i) / 2)).getD k 0=_;rw [dX,e]
 split
 .rw [gA,dX]
 .rw [gA,dX]
theorem qM{p:Array Nat}{l:Nat}(hk:k<p.size)(hl:l<=k)(i:Nat):gA (bubble p k (k-l)) i=if i=l then gA p k else if l<i/\i<=k then gA p (i-1) else gA p i:=by
 have e:=getElem?_bubble hk (k-l) (by lia) i;have g:∀ j,gA p j=(p[j]?).getD 0:=fun j=>dX ..
 show (bubble p k (k-l)).getD i 0=_;rw [dX,e,show k-(k-l)=l by lia,g,g,g]
 by_cases q:i=l
 .rw [if_pos q,if_pos q]
 .rw [if_neg q,if_neg q]
  by_cases q2:l<i/\i<=k
  .rw [if_pos q2,if_pos q2]
  .rw [if_neg q2,if_neg q2]
theorem Sg.rev{p:Array Nat}(h:Sg p m n)(hm:m<=n):Sg (kas_rev p i m) m n:=by
 have hz:m<=p.size:=by rw [h.sz];exact hm
 refine ⟨by rw [kas_rev_size,h.sz],?_,fun k hk=>?_,fun k h1 h2=>?_⟩
 .have:(kas_rev p i m).Perm p:=foldl_swaps_perm _ _ _ _
  exact (Array.perm_iff_toList_perm.mp this).trans h.pm
 .rw [j4 hz]
  split
  .exact h.lo _ (by lia)
  .exact h.lo _ hk
 .rw [j4 hz,if_neg (by lia)];exact h.id_ k h1 h2
section
variable {f:Nat->Nat->Bool} (w:Wk f) {n:Nat}
include w
theorem aok{p:Array Nat}(h:Sg p k n)(u:Up f (gA p) k)(h1:1<=k)(hk:k<n)(hf:f (gA p k) (gA p (k-1))=false):Up f (gA p) (k+1):=by
 intro i j P0 hj
 rcases V3 j k with q | q
 .exact u i j P0 q
 .have e:j=k:=by lia
  subst e;refine ⟨?_,.inr ?_⟩
  .rcases V3 i (j-1) with r | r
   .exact w.tr _ _ _ (u i (j-1) r (by lia)).1 hf
   .rw [show i=j-1 by lia];exact hf
  .rw [h.id_ j (B5 _) hk];exact h.lo i P0
theorem vQ{p:Array Nat} : ∀ (fu m:Nat),Sg p m n->Up f (gA p) m->1<=m->m+fu=n->M6 f n (fun m'=>m<=m'/\m'<=n/\Sg p m' n/\Up f (gA p) m'/\(m'<n->f (gA p m') (gA p (m'-1))=true)) (kas_asc p fu m)
 | 0,m,h,u,_,hm=>⟨B5 _,by lia,h,u,fun q=>by lia⟩
 | fu+1,m,h,u,h1,hm=>by
  refine ⟨h.lt (by lia) (by lia),h.lt (by lia) (by lia),?_⟩;cases hc:f (gA p m) (gA p (m-1)) with
  | true=>
   show M6 f n _ (if true=true then _ else _);rw [if_pos rfl];exact ⟨B5 _,by lia,h,u,fun _=>hc⟩
  | false=>
   show M6 f n _ (if false=true then _ else _);rw [if_neg (by simp)];exact (vQ fu (m+1) (h.succ (by lia)) (aok w h u h1 (by lia) hc) (by lia) (by lia)).mono fun a ⟨a1,a2⟩=>⟨by lia,a2⟩
structure Gd(f:Nat->Nat->Bool)(q:Nat->Nat)(m c:Nat):Prop where
 le:c+1<=m
 dn:∀ i j,i<j->j<m->i<m-(c+1)->Lx f (q j) (q i)
 gr:∀ i j,m-(c+1)<=i->i<j->j<m->f (q i) (q j)=false/\f (q j) (q i)=false/\q i<q j
 st:∀ i j,i<m-(c+1)->m-(c+1)<=j->j<m->f (q j) (q i)=true
omit w in
theorem Gd.last{q:Nat->Nat}{c:Nat}(w:Wk f)(g:Gd f q m c)(hi:i<m):f (q i) (q (m-1))=false:=by
 have hle:=g.le
 rcases V3 i (m-(c+1)) with r | r
 .exact w.as_ _ _ (g.st i (m-1) r (by lia) (by lia))
 .rcases V3 i (m-1) with s | s
  .exact (g.gr i (m-1) r s (by lia)).1
  .rw [show i=m-1 by lia];exact w.rf _
theorem Gd.turn{p:Array Nat}{c:Nat}(h:Sg p m n)(hm:m<=n)(g:Gd f (gA p) m c):Dw f (gA (kas_rev p (m-(c+1)) m)) m:=by
 have hz:m<=p.size:=by rw [h.sz];exact hm
 have hle:=g.le;intro i j P0 hj;rw [j4 hz,j4 hz]
 by_cases hi:m-(c+1)<=i
 .rw [if_pos ⟨by lia,hj⟩,if_pos ⟨hi,by lia⟩];obtain ⟨a,b,d⟩:=g.gr (m-(c+1)+m-1-j) (m-(c+1)+m-1-i) (by lia) (by lia) (by lia);exact ⟨b,.inr d⟩
 .rw [if_neg (show ¬ (m-(c+1)<=i/\i<m) from fun q=>hi q.1)]
  by_cases rR:m-(c+1)<=j
  .rw [if_pos ⟨rR,hj⟩];exact w.lx (g.st i _ (by lia) (by lia) (by lia))
  .rw [if_neg (fun q=>rR q.1)];exact g.dn i j P0 hj (by lia)
omit w in
theorem Gd.flat{q:Nat->Nat}(g:Gd f q m 0):Dw f q m:=fun i j P0 hj=>g.dn i j P0 hj (by lia)
theorem vR:∀ (fu:Nat) (p:Array Nat) (m c:Nat),Sg p m n->Gd f (gA p) m c->m+fu=n->M6 f n (fun r=>m<=r.2.1/\r.2.1<=n/\Sg r.1 r.2.1 n/\Gd f (gA r.1) r.2.1 r.2.2) (kas_desc fu p m c)
 | 0,p,m,c,h,g,hm=>⟨B5 _,(by lia:m<=n),h,g⟩
 | fu+1,p,m,c,h,g,hm=>by
  have hle:=g.le;refine ⟨h.lt (by lia) (by lia),h.lt (by lia) (by lia),?_⟩;have hmm:gA p m=m:=h.id_ m (B5 _) (by lia);cases hc:f (gA p m) (gA p (m-1)) with
  | true=>
   show M6 f n _ (if true=true then _ else _);rw [if_pos rfl];have less:∀ i,i<m->f (gA p m) (gA p i)=true:=fun i hi=>w.lt_le hc (g.last w hi)
   have next:∀ p':Array Nat,Sg p' m n->Dw f (gA p') m->(∀ i,i<m->∃ i',i'<m/\gA p' i=gA p i')->gA p' m=gA p m->M6 f n (fun r=>m<=r.2.1/\r.2.1<=n/\Sg r.1 r.2.1 n/\Gd f (gA r.1) r.2.1 r.2.2) (kas_desc fu p' (m+1) 0):=fun p' h' d' dE yS=>by
    have less':∀ i,i<m->f (gA p' m) (gA p' i)=true:=fun i hi=>by
     obtain ⟨i',q1,q2⟩:=dE i hi;rw [q2,yS];exact less i' q1
    refine (vR fu p' (m+1) 0 (h'.succ (by lia)) ⟨by lia,fun i j P0 hj hi=>?_,fun i j q1 q2 q3=>by lia,fun i j q1 q2 q3=>?_⟩ (by lia)).mono fun a ⟨a1,a2⟩=>⟨by lia,a2⟩
    .rcases V3 j m with r | r
     .exact d' i j P0 r
     .rw [show j=m by lia];exact w.lx (less' i (by lia))
    .rw [show j=m by lia];exact less' i (by lia)
   by_cases hq:c > 0
   .rw [if_pos hq];have hz:m<=p.size:=by rw [h.sz];lia
    refine next _ (h.rev (by lia)) (g.turn w h (by lia)) (fun i hi=>?_) ?_
    .rw [j4 hz]
     split
     .exact ⟨_,by lia,rfl⟩
     .exact ⟨i,hi,rfl⟩
    .rw [j4 hz,if_neg (by lia)]
   .rw [if_neg hq];obtain rfl:c=0:=by lia
    exact next p h g.flat (fun i hi=>⟨i,hi,rfl⟩) rfl
  | false=>
   show M6 f n _ (if false=true then _ else _);rw [if_neg (by simp)];refine ⟨h.lt (by lia) (by lia),h.lt (by lia) (by lia),?_⟩;show M6 f n _ (if f (gA p (m-1)) (gA p m)=true then _ else _);cases hd:f (gA p (m-1)) (gA p m) with
   | true=>rw [if_pos rfl];exact ⟨B5 _,(by lia:m<=n),h,g⟩
   | false=>
    rw [if_neg (by simp)];refine (vR fu p (m+1) (c+1) (h.succ (by lia)) ⟨by lia,fun i j P0 hj hi=>?_,fun i j q1 q2 q3=>?_,fun i j q1 q2 q3=>?_⟩ (by lia)).mono fun a ⟨a1,a2⟩=>⟨by lia,a2⟩
    .rcases V3 j m with r | r
     .exact g.dn i j P0 r (by lia)
     .rw [show j=m by lia];exact w.lx (w.le_lt hd (g.st i (m-1) (by lia) (by lia) (by lia)))
    .rcases V3 j m with r | r
     .exact g.gr i j (by lia) q2 r
     .rw [show j=m by lia];have hi:i<m:=by lia
      refine ⟨?_,?_,?_⟩
      .have e1:=g.last w hi;exact w.tr _ _ _ hd e1
      .rcases V3 i (m-1) with s | s
       .exact w.tr _ _ _ (g.gr i (m-1) (by lia) s (by lia)).2.1 hc
       .rw [show i=m-1 by lia];exact hc
      .rw [hmm];exact h.lo i hi
    .rcases V3 j m with r | r
     .exact g.st i j (by lia) (by lia) r
     .rw [show j=m by lia];exact w.le_lt hd (g.st i (m-1) (by lia) (by lia) (by lia))
theorem akp{p:Array Nat}(h:Sg p m n)(d:Dw f (gA p) m)(h1:1<=m)(hm:m<=n):M6 f n (fun r=>1<=r.1/\r.1<=n/\Sg r.2 r.1 n/\Up f (gA r.2) r.1) (kas_tail3 m n p):=by
 have hz:m<=p.size:=by rw [h.sz];exact hm
 refine M6.bind ((vQ w (n-m) m (h.rev (i:=0) hm) (fun i j P0 hj=>?_) h1 (by lia)).mono fun a ⟨a1,a2,a3,a4,_⟩=>⟨by lia,a2,a3,a4⟩);rw [j4 hz,j4 hz,if_pos ⟨by lia,by lia⟩,if_pos ⟨by lia,by lia⟩];exact d _ _ (by lia) (by lia)
theorem akq{p:Array Nat}(h:Sg p m n)(d:Dw f (gA p) m)(hl:∀ i,i<m->f (gA p m) (gA p i)=true)(hm:m<n):M6 f n (fun r=>1<=r.1/\r.1<=n/\Sg r.2 r.1 n/\Up f (gA r.2) r.1) (kas_descPart m n p):=by
 refine M6.bind ((vR w (n-(m+1)) p (m+1) 0 (h.succ hm) ⟨by lia,fun i j P0 hj hi=>?_,fun i j q1 q2 q3=>by lia,fun i j q1 q2 q3=>?_⟩ (by lia)).mono fun r ⟨a1,a2,a3,a4⟩=>?_)
 .rcases V3 j m with r | r
  .exact d i j P0 r
  .rw [show j=m by lia];exact w.lx (hl i (by lia))
 .rw [show j=m by lia];exact hl i (by lia)
 .by_cases hq:r.2.2 > 0
  .rw [if_pos hq];exact akp w (a3.rev a2) (a4.turn w a3 a2) (by lia) a2
  .rw [if_neg hq];have e:r.2.2=0:=by lia
   rw [e] at a4;exact akp w a3 a4.flat (by lia) a2
theorem ama(h1:1<=n){p:Array Nat}(h:Sg p 1 n):M6 f n (fun r=>1<=r.1/\r.1<=n/\Sg r.2 r.1 n/\Up f (gA r.2) r.1) (kas_count n p):=by
 refine M6.bind ((vQ w (n-1) 1 h (fun i j P0 hj=>by lia) (B5 _) (by lia)).mono fun m ⟨a1,a2,a3,a4,a5⟩=>?_)
 by_cases e:(m==n)=true
 .rw [if_pos e];exact ⟨a1,a2,a3,a4⟩
 .rw [if_neg e];have C4:m<n:=by
   have:m≠n:=fun q=>e (by rw [q];exact beq_self_eq_true _)
   lia
  have hz:m<=p.size:=by rw [a3.sz];exact a2
  by_cases e2:m > 1
  .rw [if_pos e2];refine ⟨a3.lt a2 (by lia),a3.lt a2 (by lia),?_⟩;show M6 f n _ (if f (gA p 0) (gA p (m-1))=true then _ else _);cases hc:f (gA p 0) (gA p (m-1)) with
   | true=>rw [if_pos rfl];exact ⟨a1,a2,a3,a4⟩
   | false=>
    rw [if_neg (by simp)];refine akq w (a3.rev a2) (fun i j P0 hj=>?_) (fun i hi=>?_) C4
    .rw [j4 hz,j4 hz,if_pos ⟨by lia,by lia⟩,if_pos ⟨by lia,by lia⟩];exact a4 _ _ (by lia) (by lia)
    .rw [j4 hz,j4 hz,if_neg (by lia),if_pos ⟨by lia,by lia⟩];refine w.lt_le (a5 C4) ?_
     rcases Nat.eq_zero_or_pos (0+m-1-i) with r | r
     .rw [r];exact hc
     .exact w.tr _ _ _ hc (a4 0 _ r (by lia)).1
  .rw [if_neg e2];have e3:m=1:=by lia
   subst e3;exact akq w a3 (fun i j P0 hj=>by lia) (fun i hi=>by rw [show i=1-1 by lia];exact a5 C4) C4
theorem vS{p:Array Nat}(h:Sg p k n)(u:Up f (gA p) k)(hk:k<n):∀ (fu l r:Nat),l<=r->r<=k->r-l<=fu->(∀ i,i<l->f (gA p k) (gA p i)=false)->(∀ i,r<=i->i<k->f (gA p k) (gA p i)=true)->
  M6 f n (fun l'=>l'<=k/\(∀ i,i<l'->f (gA p k) (gA p i)=false)/\∀ i,l'<=i->i<k->f (gA p k) (gA p i)=true) (kas_place p k fu l r)
 | 0,l,r,h1,h2,h3,ha,hb=>⟨by lia,ha,fun i q1 q2=>hb i (by lia) q2⟩
 | fu+1,l,r,h1,h2,h3,ha,hb=>by
  unfold kas_place
  by_cases hl:l≥r
  .rw [if_pos hl];exact ⟨by lia,ha,fun i q1 q2=>hb i (by lia) q2⟩
  .rw [if_neg hl];refine ⟨h.lt (by lia) hk,h.lt (by lia) (by lia),?_⟩;show M6 f n _ (if f (gA p k) (gA p ((l+r) / 2))=true then _ else _);cases hc:f (gA p k) (gA p ((l+r) / 2)) with
   | true=>
    rw [if_pos rfl];refine vS h u hk fu l _ (by lia) (by lia) (by lia) ha fun i q1 q2=>?_
    rcases V3 ((l+r) / 2) i with s | s
    .exact w.lt_le hc (u _ i s q2).1
    .rw [show i=(l+r) / 2 by lia];exact hc
   | false=>
    rw [if_neg (by simp)];refine vS h u hk fu _ r (by lia) h2 (by lia) (fun i q1=>?_) hb
    rcases V3 i ((l+r) / 2) with s | s
    .exact w.tr _ _ _ (u i _ s (by lia)).1 hc
    .rw [show i=(l+r) / 2 by lia];exact hc
theorem amK:∀ (fu:Nat) (p:Array Nat) (k:Nat),Sg p k n->Up f (gA p) k->k+fu=n->M6 f n (fun p'=>Sg p' n n/\Up f (gA p') n) (kas_bin fu p k)
 | 0,p,k,h,u,hk=>by
  obtain rfl:k=n:=by lia
  exact ⟨h,u⟩
 | fu+1,p,k,h,u,hk=>by
  refine M6.bind ((vS w h u (by lia) k 0 k (by lia) (B5 _) (by lia) (fun i q=>by lia) (fun i q1 q2=>by lia)).mono fun l ⟨b1,b2,b3⟩=>?_);have hz:k<p.size:=by rw [h.sz];lia
  have hkk:gA p k=k:=h.id_ k (B5 _) (by lia);refine amK fu _ (k+1) ⟨by rw [bubble_size,h.sz],?_,fun i hi=>?_,fun i q1 q2=>?_⟩ (fun i j P0 hj=>?_) (by lia)
  .exact (Array.perm_iff_toList_perm.mp (bubble_perm p k (k-l))).trans h.pm
  .rw [qM hz b1]
   by_cases q:i=l
   .rw [if_pos q,hkk];lia
   .rw [if_neg q]
    by_cases q2:l<i/\i<=k
    .rw [if_pos q2];exact Nat.lt_succ_of_lt (h.lo _ (by lia))
    .rw [if_neg q2];exact Nat.lt_succ_of_lt (h.lo _ (by lia))
  .rw [qM hz b1,if_neg (by lia),if_neg (by lia)];exact h.id_ i (by lia) q2
  .rw [qM hz b1,qM hz b1]
   rcases gR j l with r | r | r
   .rw [if_neg (by lia),if_neg (by lia),if_neg (by lia),if_neg (by lia)];exact u i j P0 (by lia)
   .rw [if_neg (show ¬ i=l by lia),if_neg (by lia),if_pos r];exact ⟨b2 i (by lia),.inr (by rw [hkk];exact h.lo i (by lia))⟩
   .rw [if_neg (show ¬ j=l by lia),if_pos (show l<j/\j<=k by lia)]
    rcases gR i l with s | s | s
    .rw [if_neg (by lia),if_neg (by lia)];exact u i (j-1) (by lia) (by lia)
    .rw [if_pos s];exact w.lx (b3 (j-1) (by lia) (by lia))
    .rw [if_neg (by lia),if_pos (show l<i/\i<=k by lia)];exact u (i-1) (j-1) (by lia) (by lia)
theorem aol(h1:1<=n):M6 f n (fun p=>p.size=n/\p.toList.Perm (P1 n)/\Up f (gA p) n) (kas_sort n):=by
 have h0:Sg (List.toArray (P1 n)) 1 n:=by
  have e:∀ i,i<n->gA (List.toArray (P1 n)) i=i:=fun i hi=>by
   rw [gA,dX];simp [hi]
  refine ⟨by simp,by simp,fun i hi=>?_,fun i _ hi=>e i hi⟩;rw [show i=0 by lia,e 0 (by lia)];exact Nat.zero_lt_one
 refine M6.bind ((ama w h1 h0).mono fun r ⟨a1,a2,a3,a4⟩=>?_)
 by_cases hq:r.1<n
 .rw [if_pos hq,show max r.1 1=r.1 by lia];exact (amK w (n-r.1) r.2 r.1 a3 a4 (by lia)).mono fun p ⟨b1,b2⟩=>⟨b1.sz,b1.pm,b2⟩
 .rw [if_neg hq];have e:r.1=n:=by lia
  rw [e] at a3 a4;exact ⟨a3.sz,a3.pm,a4⟩
end
end L2
set_option maxRecDepth 100000
namespace L2
open PySem PySem.Spec PyProof.Rows
open PySem.W (CodeHd tabObj envX kla_obj kla_fn)
section
variable {fs ex:List Addr} {Pr:Program} {w:World} {H:Hp} {h h':Heap} {P c:Addr} {ps more:Array Value} {φ:Heap->Prop}
theorem Un.tab(hP:H P=some (.tbl ps))(hl:P<h.objs.size)(hc:h.objs.size<=c)(hn:H c=none)(k:∀ b u,b≠P->h.get? b=some u->h'.get? b=some u)(hP':h'.get? P=some (tabObj (ps++more))) :
  Un fs ex H (A0 (A0 H P (.tbl (ps++more))) c (.ext φ)) h h':=by
 have nP:∀ b,H b=none->b≠P:=fun b n z=>by rw [z,hP] at n;cases n
 have oc:∀ b o,H b=some o->b≠c:=fun b o e z=>by rw [z,hn] at e;cases e
 have hcP:P≠c:=I0 (O2 hl hc);refine ⟨fun b o q n _ _=>k b o (nP b n) q,fun b o q n _ _=>⟨o.slots,k b o (nP b n) q⟩,fun b o q n _=>?_,fun b o q _=>?_,fun b xs q=>?_,fun b o u q=>?_,fun b qs q=>?_⟩
 .rw [A3 (I0 (O2 (Heap.lt_size q) hc)),A3 (nP b n)];exact n
 .by_cases e:b=P
  .rw [e];exact ⟨_,hP'⟩
  .exact ⟨o,k b o e q⟩
 .rw [A3 (oc b _ q),A3 (fun z=>by rw [z,hP] at q;cases q)];exact q
 .rw [A3 (oc b _ q),A3 (fun z=>by rw [z,hP] at q;cases q)];exact q
 .by_cases e:b=P
  .subst e;rw [hP] at q
   cases q
   exact ⟨more,by rw [A3 hcP,A2]⟩
  .exact ⟨#[],by rw [A3 (oc b _ q),A3 e,q];simp⟩
theorem L6.tab(ok:L6 Pr w H h)(hP:H P=some (.tbl ps))(hl:P<h.objs.size)(hc:h.objs.size<=c)(k:∀ b u,b≠P->h.get? b=some u->h'.get? b=some u)(hP':h'.get? P=some (tabObj (ps++more)))(new:ObjOk Pr w (A0 (A0 H P (.tbl (ps++more))) c (.ext φ)) h' c (.ext φ)) :
  L6 Pr w (A0 (A0 H P (.tbl (ps++more))) c (.ext φ)) h':=fun b u q=>by
 have hn:=ok.fresh hc;have oc:∀ b o,H b=some o->b≠c:=fun b o e z=>by rw [z,hn] at e;cases e
 by_cases hb:b=c
 .subst hb;rw [A2] at q;cases q;exact new
 .rw [A3 hb] at q
  by_cases hp:b=P
  .subst hp;rw [A2] at q;cases q;exact hP'
  .rw [A3 hp] at q;refine (ok b u q).stay (fun d v hd r=>k d v ?_ r) (fun d r=>?_) fun d xs r=>?_
   .rcases hd with rfl | hd
    .exact hp
    .intro z;rw [z,hP] at hd;cases hd
   .rw [A3 (oc d _ r),A3 (fun z=>by rw [z,hP] at r;cases r)];exact r
   .rw [A3 (oc d _ r),A3 (fun z=>by rw [z,hP] at r;cases r)];exact r
end
noncomputable def cdIs (c:Addr) (q:Str):Heap->Prop:=fun h=>h.CodeRec (.ref c) q
noncomputable def tabC (pos:Pos) (c:Addr):Array Value:=#[rawInt pos.line,rawInt pos.col,.ref c]
noncomputable def TabOk (H:Hp) (P:Addr) (pos:Pos) (q:Str):Prop:=H P=some (.tbl #[])\/∃ c,H P=some (.tbl (tabC pos c))/\H c=some (.ext (cdIs c q))
noncomputable def TabIn (H:Hp) (P c:Addr) (pos:Pos) (q:Str):Prop:=H P=some (.tbl (tabC pos c))/\H c=some (.ext (cdIs c q))
theorem TabIn.ok{P c:Addr}{pos:Pos}(h:TabIn H P c pos q):TabOk H P pos q:=.inr ⟨c,h⟩
noncomputable def SameP (P:Addr) (H H':Hp):Prop:=∀ b o,b≠P->H b=some o->H' b=some o
theorem SameP.of{P:Addr}(h:Same H H'):SameP P H H':=fun b o _ e=>h b o e
theorem SameP.trans{P:Addr}(a:SameP P H H1)(b:SameP P H1 H2):SameP P H H2:=fun x o n e=>b x o n (a x o n e)
theorem TabOk.same{P:Addr}{pos:Pos}(h:TabOk H P pos q)(S:Same H H'):TabOk H' P pos q:=by
 rcases h with h | ⟨c,h1,h2⟩
 .exact .inl (S _ _ h)
 .exact .inr ⟨c,S _ _ h1,S _ _ h2⟩
structure LamB(X:Cx)(c P:Addr):Prop where
 code:X.env.code=.ref c
 hd:CodeHd X.base c P
 bi:X.base.BuiltinsAt X.mg P
 nb:X.base.get? P=none
noncomputable def lamQ (X:Cx):Str:=X.env.qual++"<lambda>"
noncomputable abbrev lamO (X:Cx) (args:Arguments) (body:Expr) (sc:Scope) (c:Addr) (ctv:Value):Obj:=kla_obj "<lambda>" (lamQ X) args body sc (cloOf X.env.cells sc.names []) ((X.mg "__name__").getD .none) c ctv
structure LamM(X:Cx)(pins:List (Addr×Obj))(O:St)(P:Addr)(args:Arguments)(body:Expr)(sc:Scope)(pos:Pos)(H:Hp)(f c:Addr)(ctv:Value)(H':Hp)(s':Shared):Prop where
 inv:Inv X (pins++[(f,lamO X args body sc c ctv)]) O H' s'
 kp:SameP P H H'
 tab:TabIn H' P c pos (lamQ X)
section
variable {X:Cx} {sc:Scope} {N':List Str} {k:Nat} {ixs:List Nat} {pins:List (Addr×Obj)} {O:St} {H:Hp} {s:Shared} {c P:Addr} {args:Arguments} {body:Expr} {pos:Pos}
theorem amb(I:Inv X pins O H s)(C:CompOk X.N X.env.scope.names sc N' k ixs)(B:LamB X c P)(T:TabOk H P pos (lamQ X))(o4:defaultsOf args X.env=([],[])){Q:Value->Shared->Prop}(h:∀ f c' ctv H' s',LamM X pins O P args body sc pos H f c' ctv H' s'->Q (.ref f) s'):wpAny (model X.prog X.w) X.A (eval (.Lambda args body sc pos) X.env) Q E s:=by
 have bC:closureFor sc X.env=pure (cloOf X.env.cells sc.names []):=tU fun x hx hf=>I.ok.has x.1 (C.free x hx hf)
 have hg:s.heap.Ns mainGlobals X.mg:=I.ok.mod.glob.keeps I.bk;have hC:=B.hd.keeps I.bk;have hbi:=B.bi.keeps I.bk;have hHP:∃ ps,H P=some (.tbl ps):=by
  rcases T with T | ⟨c',T,_⟩
  .exact ⟨_,T⟩
  .exact ⟨_,T⟩
 have hgP:mainGlobals≠P:=fun q=>by
  obtain ⟨o,es,ep,e,hd,_⟩:=I.ok.mod.glob;rw [q,B.nb] at e;cases e
 have pinF:∀ {f c':Addr} {ctv:Value} {h':Heap} {tk:Nat} {H':Hp},Inv X pins O H' { s with heap:=h',toks:=tk }->s.heap.objs.size<=f->H' f=none->h'.get? f=some (lamO X args body sc c' ctv)->Inv X (pins++[(f,lamO X args body sc c' ctv)]) O H' { s with heap:=h',toks:=tk }:=fun {f c' ctv h' tk H'} J hf hn hg=>J.pins_of fun p hp=>by
  rcases D4.mp hp with hp | hp
  .exact J.pin p (M0 _ hp)
  .rw [D1.mp hp];exact ⟨hg,hn,i3 (O2 I.lt hf),I.nofs hf,fun v z=>by cases z⟩
 refine PySem.W.kla_eval o4 ?_
 rcases T with T | ⟨c',T,Tc⟩
 .have hP:s.heap.get? P=some (tabObj #[]):=I.hok P _ T;have hPl:=Heap.lt_size hP;refine PySem.W.kla_makeFunction (mg:=X.mg) bC I.ok.glob hg B.code hC hP trivial rfl hgP hbi fun c' ctv h' tk hx dH C4 bD htb=>?_
  have hcn:H c'=none:=I.hok.fresh dH;have kx:∀ b u,b≠P->s.heap.get? b=some u->(h'.push (lamO X args body sc c' ctv)).get? b=some u:=fun b u hb e=>Heap.get?_push_of_some _ (hx b u hb e)
  have mW:(h'.push (lamO X args body sc c' ctv)).get? P=some (tabObj (#[]++tabC pos c')):=Heap.get?_push_of_some _ htb;have hec:∃ o,(h'.push (lamO X args body sc c' ctv)).get? c'=some o:=by
   obtain ⟨c2,o,vs,t,e1,e2,_⟩:=bD;cases e1;exact ⟨o,Heap.get?_push_of_some _ e2⟩
  have J:Inv X pins O (A0 (A0 H P (.tbl (#[]++tabC pos c'))) c' (.ext (cdIs c' (lamQ X)))) { s with heap:=h'.push (lamO X args body sc c' ctv),toks:=tk }:=by
   refine I.un (Un.tab T hPl dH hcn kx mW) (I.hok.tab T hPl dH kx mW ⟨bD.push _,hec,fun h1 h2 p1 kk=>?_⟩);obtain ⟨c2,o,vs,t,e1,e2,e3⟩:=p1;cases e1;exact ⟨_,o,vs,t,rfl,kk o e2,e3⟩
  have hcP:P≠c':=I0 (O2 hPl dH);have fO:s.heap.objs.size<=h'.objs.size:=K6 dH (dW C4);refine h h'.objs.size c' ctv _ _ ⟨pinF J fO ?_ (Heap.get?_push_size _ rfl),fun b o hb e=>?_,?_,?_⟩
  .rw [A3 (i3 C4),A3 (i3 (O2 hPl fO))];exact I.hok.fresh fO
  .rw [A3 (fun z=>by rw [z,hcn] at e;cases e),A3 hb];exact e
  .rw [A3 hcP,A2];simp
  .exact A2
 .have hP:s.heap.get? P=some (tabObj (tabC pos c')):=I.hok P _ T;refine PySem.W.kla_makeFunctionHit (mg:=X.mg) (cv:=.ref c') bC I.ok.glob hg B.code hC hP (by simp [TriplesOk,tabC,rawInt]) (by simp [codeAmong,tabC,rawInt]) hbi fun ctv h' tk hk hsz=>?_
  have kx:∀ b u,s.heap.get? b=some u->(h'.push (lamO X args body sc c' ctv)).get? b=some u:=fun b u e=>Heap.get?_push_of_some _ (hk b u e)
  exact h h'.objs.size c' ctv H _ ⟨pinF (I.kept kx) hsz (I.hok.fresh hsz) (Heap.get?_push_size _ rfl),fun b o _ e=>e,T,Tc⟩
end
noncomputable def qN (X:Cx) (sc:Scope) (L f c:Addr):Env:=envX (lamQ X) sc L f (.ref c) (cloOf X.env.cells sc.names [])
noncomputable def lamCx (X:Cx) (sc:Scope) (N':List Str) (f c:Addr) (A:Around) (s:Shared) (H:Hp):Cx:=
 {prog:=X.prog,w:=X.w,K:=X.K,mg:=X.mg,base:=X.base,A:=A.deeper (qN X sc s.heap.objs.size f c),N:=N',s₀:=s,H₀:=H,
  env:=qN X sc s.heap.objs.size f c,outer:=X.stack,stack:=qN X sc s.heap.objs.size f c::X.stack,ex:=[],fn:=fun _=>false,calm:=true,
  pn:=[],xe:=fun _ _=>False }
noncomputable def aP (ixs:List Nat) (O:St) (x:V):St:=some x::ixs.map fun i=>(O[i]?).join
section
variable {X:Cx} {sc:Scope} {N':List Str} {ixs:List Nat} {pins:List (Addr×Obj)} {O:St} {H:Hp} {s:Shared} {f c:Addr} {A:Around}
theorem aom(C:CompOk X.N X.env.scope.names sc N' 1 ixs)(I:Inv X pins O H s)(hA:A.frames=some X.stack)(hh:A.handled=none)(hy:N'[0]?=some y)(M8:sc.names.lookup y=some .local){x:V}(r:RelV x u)(hn:h'.Ns s.heap.objs.size fun z=>[(y,u)].reverse.lookup z)(hk:∀ b o,s.heap.get? b=some o->h'.get? b=some o):Inv (lamCx X sc N' f c A s H) [] (aP ixs O x) H { s with heap:=h',toks:=t' } where
 ok:={
  mod:=I.ok.mod
  kind:=C.kind
  glob:=rfl
  blt:=rfl
  above:=B5 _
  inj:=fun x y c e1 e2=>I.ok.inj x y c (v6 C I e1).1 (v6 C I e2).1
  has:=fun x hx=>by
   have hm:(x,NameKind.free)∈sc.names:=by
    have yR:sc.names.lookup x=some .cell\/sc.names.lookup x=some .free:=hx
    rcases yR with z | z
    .exact absurd rfl (C.cell _ (kZ z))
    .exact kZ z
   obtain ⟨c,h1,_⟩:=pA C I hm;exact ⟨c,h1⟩
  cab:=fun x c h _=>by cases h
  hd:=fun _=>hh
  frames:=Around.frames_deeper hA
  stk:=.inr ⟨rfl,rfl⟩
  exf:=fun b z=>absurd (show b∈([]:List Addr) from z) (by simp)
  bs:=I.bs
  bsz:=K6 I.ok.bsz I.sz
  noex:=fun b o e z=>absurd (show b∈([]:List Addr) from z) (by simp)
  exfs:=fun b z=>absurd (show b∈([]:List Addr) from z) (by simp)
  funs:=I.stack
  frf:=I.stkFree }
 os:=rfl
 bare:=I.bare
 base:=Un.kept hk
 loc:=by
  refine ⟨_,hn,fun i z v e1 e2 e3=>?_⟩;have e1:N'[i]?=some z:=e1;have e2:(aP ixs O x)[i]?=some (some v):=e2
  cases i with
  | zero=>
   rw [hy] at e1;cases e1;have e2:some (some x)=some (some v):=e2;cases e2;exact ⟨u,r,.inl ⟨M8,by simp⟩⟩
  | succ i=>
   have e2:(ixs.map fun i=>(O[i]?).join)[i]?=some (some v):=e2;rw [O1] at e2;cases e4:ixs[i]? with
   | none=>rw [e4] at e2;cases e2
   | some j=>
    rw [e4] at e2;have e5:(O[j]?).join=some v:=Option.some.inj e2;have e6:O[j]?=some (some v):=by
     cases e7:O[j]? with
     | none=>rw [e7] at e5;cases e5
     | some o=>rw [e7] at e5;exact congrArg some e5
    have ed:(N'.drop 1)[i]?=some z:=by rw [List.getElem?_drop,Nat.add_comm];exact e1
    have n3:(z,NameKind.free)∈sc.names:=C.fr z (K4 ed);have n2:X.N[j]?=some z:=by
     have q:=congrArg (fun l=>l[i]?) C.at_;simp only [O1,e4,ed,Option.map_some] at q;exact Option.some.inj q
    obtain ⟨m0,hn0,fC⟩:=I.loc;have n6:X.env.scope.names.lookup z=some .cell\/X.env.scope.names.lookup z=some .free:=C.free _ n3 rfl;obtain ⟨u',r',l⟩:=fC j z v n2 e6 (.inr n6);refine ⟨u',r',.inr ⟨.inr (C.clean _ n3 rfl),?_⟩⟩
    rcases l with ⟨l,_⟩ | ⟨_,c,hc,J8⟩
    .have l':X.env.scope.names.lookup z=some .local:=l
     rcases n6 with q | q
     .rw [l'] at q;cases q
     .rw [l'] at q;cases q
    .obtain ⟨c',h1,h2⟩:=pA C I n3;rw [hc] at h2;cases h2;exact ⟨c,h1,J8.keeps hk⟩
 cell:=fun x c e=>by
  obtain ⟨v,z⟩:=I.cell x c (v6 C I e).1;exact ⟨v,z.keeps hk⟩
 free:=I.hok.fresh (B5 _)
 freeC:=fun x c e=>I.freeC x c (v6 C I e).1
 pin:=fun p hp=>absurd (show p∈([]:List (Addr×Obj)) from hp) (by simp)
 hok:=I.hok.kept hk
 len:=by
  show (aP ixs O x).length=N'.length;rw [C.len];simp [aP,Nat.add_comm]
theorem amc{args:Arguments}{x:V}(C:CompOk X.N X.env.scope.names sc N' 1 ixs)(I:Inv X pins O H s)(hA:A.frames=some X.stack)(hh:A.handled=none)(mX:A.depth<recursionLimit)(hf:(f,lamO X args body sc c ctv)∈X.pn++pins)(hc:H c=some (.ext (cdIs c (lamQ X))))(hy:N'[0]?=some y)(M8:sc.names.lookup y=some .local)(yT:sc.isCoroutine=false)(fP:sc.isGenerator=false)(V8:∀ (q:Str) (cl:List (Str×Addr)) (pm cd ct u:Value),bindArgs (kla_fn "<lambda>" q args body sc cl pm cd ct) ⟨[u],[]⟩=pure [(y,u)])(yU:PE (lamCx X sc N' f c A s H) body te)(r:RelV x u)(h:te (aP ixs O x) H Q) :
  wpAny (model X.prog X.w) A (call (.ref f) [u]) (EP X pins O Q) E s:=by
 have hfo:=(I.pin _ hf).1;have bD:s.heap.CodeRec (.ref c) (lamQ X):=(I.hok c _ hc).1;refine wpAny_call (codeAny_mono (R:=fun r s'=>match r with | .ok (.ret v)=>CE X.stack X.prog X.w H s Q v s' | _=>False) ?_ fun r s' hq=>?_)
 .refine PySem.W.kla_callFunE mX hfo rfl yT fP rfl bD ?_;rw [V8];refine wpAny_pure (wpAny_newFunctionEnv C.cell (fun z hz=>by rw [D1.mp hz];exact M8) (fun zr n8 jO=>⟨(I.nolimit).fresh _ jO,?_⟩) C.kind);have zg:∀ b o,s.heap.get? b=some o->zr.get? b=some o:=fun b o e=>jO.extBut b o (I0 (Heap.lt_size e)) (Heap.get?_push_of_some _ e)
  have J:=aom (f:=f) (c:=c) C I hA hh hy M8 (t':=s.toks+1) r n8 zg;show codeAny _ _ (.expr body (qN X sc s.heap.objs.size f c)) _ _;refine PySem.W.kla_codeExpr (wpAny_mono (yU [] _ _ H Q J h) (fun v s' hv=>?_) fun _ _ z=>z.elim);obtain ⟨v',H',J',rv,q⟩:=hv;exact ⟨v',H',J'.os,J'.bare,J'.base,J'.hok,rv,q⟩
 .cases r with
  | error e=>exact hq.elim
  | ok fl=>
   cases fl with
   | ret u=>exact I.after hq
   | next=>exact hq.elim
   | brk=>exact hq.elim
   | cont=>exact hq.elim
end
end L2
set_option maxRecDepth 100000
namespace L2
open PySem PySem.Spec PyProof.Rows
open PySem.W (CodeHd tabObj envX kla_obj kla_fn)
theorem qO:∀ xs ys:List Int,xs=ys\/xs<ys\/ys<xs
 | [],[]=>.inl rfl
 | [],_::_=>.inr (.inl (List.nil_lt_cons _ _))
 | _::_,[]=>.inr (.inr (List.nil_lt_cons _ _))
 | x::xs,y::ys=>by
  rcases Int.lt_trichotomy x y with h | h | h
  .exact .inr (.inl (Z3.mpr (.inl h)))
  .subst h
   rcases qO xs ys with h | h | h
   .exact .inl (by rw [h])
   .exact .inr (.inl (Z3.mpr (.inr ⟨rfl,h⟩)))
   .exact .inr (.inr (Z3.mpr (.inr ⟨rfl,h⟩)))
  .exact .inr (.inr (Z3.mpr (.inl h)))
theorem qP{xs ys zs:List Int}(h1:xs<ys)(h2:ys<zs):xs<zs:=List.lt_trans h1 h2
noncomputable def keyB (kz:List (List Int)) (i j:Nat):Bool:=decide (kz.getD i []<kz.getD j [])
theorem aon(kz:List (List Int)):Wk (keyB kz) where
 tr:=fun i j k h1 h2=>by
  unfold keyB at *;rw [decide_eq_false_iff_not] at *;intro h
  rcases qO (kz.getD j []) (kz.getD i []) with e | e | e
  .exact h2 (by rw [e];exact h)
  .exact h1 e
  .exact h2 (qP h e)
 as_:=fun i j h=>by
  unfold keyB at *;rw [decide_eq_true_iff] at h;rw [decide_eq_false_iff_not];intro h2;exact List.lt_irrefl _ (qP h h2)
structure Srt(kz:List (List Int))(p:List Nat):Prop where
 pm:p.Perm (P1 kz.length)
 up:∀ i j a b:Nat,i<j->p[i]?=some a->p[j]?=some b->Lx (keyB kz) a b
section
variable {prog:Program} {w:World} {A:Around} {E:Value->Shared->Prop} {s:Shared}
theorem aoo{x y:Addr}{xs ys:List Int}{Q:Bool->Shared->Prop}(hu:A.units<cLine)(hx:s.heap.IsList x its.toArray)(hy:s.heap.IsList y its2.toArray)(r1:Vals (xs.map V.int) its)(r2:Vals (ys.map V.int) its2)(h:Q (decide (xs<ys)) s) :
  wpAny (model prog w) A (keyLt' oneType' (.ref x) (.ref y)) Q E s:=by
 rw [keyLt'_oneType,oneLt'_eq];simp only [if_true];refine wpAny_bind (wpAny_cRoomFor hu ?_);obtain ⟨⟨cls,dd,data,sl⟩,ho,hc,n,hd⟩:=id hx;obtain ⟨⟨cls2,X3,data2,W3⟩,j7,P8,n2,Q3⟩:=id hy;simp only at hc hd P8 Q3;subst hc hd P8 Q3;have l1:its.toArray.size=xs.length:=by rw [E7,<- r1.length,A4]
 have l2:its2.toArray.size=ys.length:=by rw [E7,<- r2.length,A4]
 refine wpAny_bind (wpAny_callSpecialIfBound?_slot ⟨_,ho,rfl⟩ F.slot_list_lt (call_meets F.slot_list_lt ⟨_,ho,rfl⟩ F.entry_list_lt (F.args_list_lt_2 _ _) (SeqAt.list_ltAt (fun a=>Int.lt_irrefl a) x y its.toArray its2.toArray n n2 dd X3 sl W3 xs ys l1 l2) ⟨ho,j7,qL r1 r2,?_⟩));exact wpAny_truthy_bool h
theorem ahn{T:String}{d:Addr}{P:Nat->Value->Prop}{OK:Heap->Prop}{Q:List Value->Shared->Prop}(Ks:PySem.W.KdlSrc prog w T r d n P OK)(hh:A.handled=none)(hok:OK s.heap)(hn:n<=sizeLine)(hQ:∀ h' tk (vs:List Value),(∀ b o,s.heap.get? b=some o->h'.get? b=some o)->s.heap.objs.size<=h'.objs.size->vs.length=n->(∀ j v,vs[j]?=some v->P j v)->Q vs { s with heap:=h',toks:=tk }) :
  wpAny (model prog w) A (collect (.ref r)) Q E s:=by
 unfold collect;refine wpAny_bind (wpAny_runValue (codeAny_builtin entry_proto_collect' ?_));show wpAny _ _ (do again (.builtin "list.__iadd__" ⟨[<- newList [],.ref r],[]⟩)) _ _ s;have C4:=Ks.there _ hok;have hS:(s.heap.push (seqObj "list" #[] 0)).get? s.heap.objs.size=some { cls:=.type "list",data:=.seq #[] 0 }:=Heap.get?_push_size _ rfl;refine wpAny_bind (wpAny_newList (wpAny_pure ⟨Code.quiet_builtin _ (by decide +kernel),codeAny_builtin entry_list_iadd' ?_⟩));rw [Around.under_plainId (show plainId "list.__iadd__"=true by decide +kernel) _];show wpAny _ _ (Builtin.List.listExtendWith (.ref s.heap.objs.size) (.ref r) (.ref s.heap.objs.size)) _ _ { s with heap:=s.heap.push (seqObj "list" #[] 0) };refine PySem.W.kdl_extend (R:=fun r s'=>match r with | .ok (.ret v)=>wpAny (model prog w) A (match v with | .ref a=>(do let o <- load a;match o.data with | .seq xs _=>pure xs.toList | _=>unsupported "internal:collect") | _=>unsupported "internal:collect") Q E s' | .ok _=>False | .error e=>E e s') (s:={ s with heap:=s.heap.push (seqObj "list" #[] 0) }) (A:=A) Ks hh (Ks.keep _ _ hok fun b _ o e=>Heap.get?_push_of_some _ e) _ (i3 C4.1) (i3 C4.2) _ 0 hS (fun h' tk acc' c' hk hS' U1=>?_) hn;show wpAny (model prog w) A (do
   let o <- load s.heap.objs.size
   match o.data with
   | .seq xs _=>pure xs.toList
   | _=>unsupported "internal:collect") Q E { s with heap:=h',toks:=tk }
 refine wpAny_bind (wpAny_load hS' ?_);exact wpAny_pure (hQ h' tk acc'.toList (fun b o e=>hk b o (I0 (Heap.lt_size e)) (Heap.get?_push_of_some _ e)) (dW (Heap.lt_size hS')) (by rw [t8];exact U1.1) fun j v e=>U1.2 j v (by rw [<- oM];exact e))
end
section
variable {X:Cx} {pins:List (Addr×Obj)} {O:St} {H:Hp} {s:Shared}
theorem Inv.track{o:HO}(I:Inv X pins O H s)(ha:X.s₀.heap.objs.size<=a)(hn:H a=none)(hL:a≠X.env.locals)(hc:∀ x c,X.env.cells.lookup x=some c->c≠a)(hp:∀ p∈X.pn++pins,p.1≠a)(new:ObjOk X.prog X.w (A0 H a o) s.heap a o):Inv X pins O (A0 H a o) s:=by
 have ne:∀ b u,H b=some u->b≠a:=fun b u e z=>by rw [z,hn] at e;cases e
 refine ⟨I.ok,I.os,I.bare,⟨I.base.keep,I.base.slot,fun b u e n hx=>?_,I.base.there,fun b xs e=>?_,fun b u v e=>?_,fun b ps e=>?_⟩,I.loc,I.cell,by rw [A3 (Ne.symm hL)];exact I.free,fun x c e=>by rw [A3 (hc x c e)];exact I.freeC x c e,fun p mY=>?_,fun b u e=>?_,I.len⟩
 .rw [A3 (I0 (O2 (Heap.lt_size e) ha))];exact I.base.free b u e n hx
 .have:=I.base.tups b xs e
  rw [A3 (ne b _ this)];exact this
 .have:=I.base.frzs b u v e
  rw [A3 (ne b _ this)];exact this
 .obtain ⟨m,q⟩:=I.base.tbls b ps e;exact ⟨m,by rw [A3 (ne b _ q)];exact q⟩
 .obtain ⟨q1,q2,q3⟩:=I.pin p mY;exact ⟨q1,by rw [A3 (hp p mY)];exact q2,q3⟩
 .by_cases z:b=a
  .subst z;rw [A2] at e;cases e;exact new
  .rw [A3 z] at e;exact (I.hok b u e).stay (fun _ _ _ q=>q) (fun c q=>by rw [A3 (ne c _ q)];exact q) fun c xs q=>by rw [A3 (ne c _ q)];exact q
theorem Inv.pinNew(I:Inv X pins O H s)(ha:s.heap.get? a=some ob)(hn:H a=none)(hL:a≠X.env.locals)(hf:a∉X.fs)(hd:∀ v,ob.data≠.cell v):Inv X (pins++[(a,ob)]) O H s:=I.pins_of fun p hp=>by
 rcases D4.mp hp with hp | hp
 .exact I.pin p (M0 _ hp)
 .rw [D1.mp hp];exact ⟨ha,hn,hL,hf,hd⟩
end
noncomputable def Items (K:PySem.W.Frag) (calm:Bool) (H:Hp) (v:V) (xs:List V):Prop:=∃ a,v=.ref a/\(C7 K H a xs\/(calm=true/\∃ kvs,Rd H a (.dK kvs)/\xs=kvs.map fun kv=>kV kv.1))
noncomputable def vT (K:PySem.W.Frag) (calm:Bool) (P:Addr) (pos:Pos) (q:Str) (ta:TA) (ixs:List Nat) (te:TE):TE:=fun O H Q=>ta O H fun vs H1=>∃ v xs,vs=[v]/\Items K calm H1 v xs/\xs.length<64/\TabOk H1 P pos q/\
 ∀ c H2,SameP P H1 H2->TabIn H2 P c pos q->∃ W:Nat->List V->Hp->Prop,W 0 [] H2/\
  (∀ i ks H3 x,xs[i]?=some x->W i ks H3->H3 c=some (.ext (cdIs c q))/\te (aP ixs O x) H3 fun y H4=>W (i+1) (ks++[y]) H4)/\
  ∀ ks H3,W xs.length ks H3->∃ kz:List (List Int),Paired (fun y z=>∃ b,y=V.ref b/\C7 K H3 b (z.map V.int)) ks kz/\kz.length=xs.length/\∀ (D:Addr) (p:List Nat),H3 D=none->Srt kz p->Q (.ref D) (A0 H3 D (.lst (p.map fun i=>xs.getD i .non)))
section
variable {X:Cx} {sc:Scope} {N':List Str} {ixs:List Nat} {pins:List (Addr×Obj)} {O:St}
theorem amd(r:Vals xs us)(h:us[i]?=some u):∃ x,xs[i]?=some x/\RelV x u:=by
 have hi:=(F6.mp h).1;have hx:xs[i]?=some (xs[i]'(by rw [r.length];exact hi)):=G0 _;obtain ⟨u',e,q⟩:=r.get hx;rw [h] at e;cases e;exact ⟨_,hx,q⟩
theorem C7.sameP{P:Addr}{ps:Array Value}(S:SameP P H H')(hP:H P=some (.tbl ps))(h:C7 K H a xs):C7 K H' a xs:=by
 rcases h with h | h
 .rcases h with h | ⟨o,h⟩
  .exact .inl (.inl (S _ _ (fun z=>by rw [z,hP] at h;cases h) h))
  .exact .inl (.inr ⟨o,S _ _ (fun z=>by rw [z,hP] at h;cases h) h⟩)
 .exact .inr h
theorem Rd.sameP{P:Addr}{ps:Array Value}(S:SameP P H H')(hP:H P=some (.tbl ps))(h:Rd H a (.dK kvs)):Rd H' a (.dK kvs):=by
 rcases h with h | ⟨o,h⟩
 .exact .inl (S _ _ (fun z=>by rw [z,hP] at h;cases h) h)
 .exact .inr ⟨o,S _ _ (fun z=>by rw [z,hP] at h;cases h) h⟩
theorem aho:bootBuiltins "sorted"=some (.builtin "sorted"):=by decide +kernel
theorem aks(I:Inv X pins O H s)(hA:X.calm=true->A.handled=none)(h:C7 X.K H a xs\/(X.calm=true/\∃ kvs,Rd H a (.dK kvs)/\xs=kvs.map fun kv=>kV kv.1)){Q:List Value->Shared->Prop}(hQ:∀ h' tk its,(∀ b o,s.heap.get? b=some o->h'.get? b=some o)->s.heap.objs.size<=h'.objs.size->Vals xs its->xs.length<=sizeLine->Q its { s with heap:=h',toks:=tk }):wpAny (model X.prog X.w) A (collect (.ref a)) Q E s:=by
 rcases h with h | ⟨hc,kvs,h,rfl⟩
 .obtain ⟨its,r,pl,hz⟩:=I.list h;refine collect_list pl.isList ?_ (by rw [<- r.length];exact hz);refine hQ _ s.toks its (fun b o e=>?_) (by rw [Heap.size_update,size_push'];exact Nat.le_succ _) r hz;have C4:b<s.heap.objs.size:=Heap.lt_size e;rw [Heap.get?_update_ne _ _ _ _ (I0 C4),Heap.get?_push_ne _ _ _ (I0 C4)];exact e
 .obtain ⟨z,hd,vs,rel,dd⟩:=dk_rd I.hok h;obtain ⟨ep,K3⟩:=dd.dictAt;have hl:=rel.length;refine ahn (PySem.W.kdl_dict (knd:=M7 X.prog X.w) (kvs:=vs) (ep:=ep) hd) (hA hc) K3 (by lia) fun h' tk its kp hsz A9 U1=>hQ h' tk its kp hsz ?_ (by rw [A4];exact z)
  have hk:=rel.keys;have key:∀ (ks:List C1) (us:List Value),us.length=ks.length->(∀ (j:Nat) (v:Value),us[j]?=some v->∃ k,ks[j]?=some k/\keyIs k v=true)->Vals (ks.map kV) us:=by
   intro ks
   induction ks with
   | nil=>intro us h1 _;cases us with
    | nil=>exact .nil
    | cons _ _=>simp at h1
   | cons k ks ih=>
    intro us h1 h2
    cases us with
    | nil=>simp at h1
    | cons u us=>
     obtain ⟨k',e1,e2⟩:=h2 0 u rfl;simp at e1;subst e1;refine .cons ?_ (ih us (by simpa using h1) fun j v hj=>by simpa using h2 (j+1) v (by simpa using hj))
     rcases i6 e2 with ⟨i,t,rfl,rfl⟩ | ⟨x,t,rfl,rfl⟩
     .exact ⟨t,rfl⟩
     .exact ⟨t,rfl⟩
  rw [show (kvs.map fun kv=>kV kv.1)=(kvs.map (·.1)).map kV by rw [g9];rfl];refine key _ _ (by rw [A9,A4];lia) fun j v hj=>?_
  obtain ⟨k,x,hx,fF⟩:=U1 j v hj;refine ⟨k,?_,fF⟩;rw [hk,O1,hx];rfl
theorem Inv.repin{ob':Obj}(I:Inv X (pins++[(a,ob)]) O H s)(y3:X.s₀.heap.objs.size<=a)(bC:∀ x c,X.env.cells.lookup x=some c->c≠a)(hnp:∀ p∈X.pn++pins,p.1≠a)(k:∀ b o,b≠a->s.heap.get? b=some o->h'.get? b=some o)(hd:∀ v,ob'.data≠.cell v)(hg:h'.get? a=some ob'):Inv X (pins++[(a,ob')]) O H { s with heap:=h',toks:=t' }:=by
 obtain ⟨q1,q2,q3,q4,q5⟩:=I.pin (a,ob) (by simp);have J:=(I.unpinned).turned (t':=t') k q2 q3 (.inr y3) bC hnp;exact J.pinNew hg q2 q3 q4 hd
end
section
variable {X:Cx} {sc:Scope} {N':List Str} {ixs:List Nat} {pins:List (Addr×Obj)} {O:St} {A:Around} {E:Value->Shared->Prop}
structure Ours(X:Cx)(pins:List (Addr×Obj))(a:Addr):Prop where
 ab:X.s₀.heap.objs.size<=a
 cl:∀ x c,X.env.cells.lookup x=some c->c≠a
 np:∀ p∈X.pn++pins,p.1≠a
theorem agP{D:Addr}{e:Nat}{kvs out:List Value}{st:SortSt}{P:PySem.Fin->Shared->Prop}(oD:Ours X pins D)(oK:Ours X pins kS)(hDK:D≠kS)(I:Inv X (pins++[(D,seqObj "list" #[] e1)]++[(kS,seqObj "list" kvs.toArray e)]) O H s)(ho:(arrOf st).map (·.2)=out.toArray)(hz:out.length<=1000)(hkz:kvs.length<=1000)(hf:failedOf st=none)(rv:Vals ys out)(h:∀ h',Inv X pins O (A0 H D (.lst ys)) { s with heap:=h' }->P (.done (.ret .none)) { s with heap:=h' }):wpAny (model X.prog X.w) A (ksk_tail D false e1 (.ref kS) st) P E s:=by
 obtain ⟨gK,_⟩:=I.pin (kS,seqObj "list" kvs.toArray e) (by simp);obtain ⟨gD,nD,lD,fD,_⟩:=I.pin (D,seqObj "list" #[] e1) (by simp);have gK:s.heap.get? kS=some (seqObj "list" kvs.toArray e):=gK;have gD:s.heap.get? D=some (seqObj "list" #[] e1):=gD;have s1:=Heap.SameBut.update s.heap kS (Obj.mapSeq fun _=>(#[]:Array Value));have gD1:(s.heap.update kS (Obj.mapSeq fun _=>(#[]:Array Value))).get? D=some (seqObj "list" #[] e1):=(s1.2 D hDK).trans gD;have s2:=Heap.SameBut.update (s.heap.update kS (Obj.mapSeq fun _=>(#[]:Array Value))) D (Obj.mapSeq fun _=>out.toArray);obtain ⟨c2,P8⟩:∃ c2,((s.heap.update kS (Obj.mapSeq fun _=>(#[]:Array Value))).update D (Obj.mapSeq fun _=>out.toArray)).get? D=some (seqObj "list" out.toArray c2):=⟨_,get?_update_seq gD1 fun _=>out.toArray⟩
 have fO:(1000:Nat)<=sizeLine:=by decide
 unfold ksk_tail
 try dsimp only
 rw [ho];refine wpAny_bind (listUpdate_at gK rfl ?_ (by rw [E7];lia) (F7 _));refine wpAny_bind (wpAny_letGo ?_);refine wpAny_bind (seqEpoch_at gD1 rfl ?_);refine wpAny_bind (listUpdate_at gD1 rfl ?_ (F7 _) (by show (if false=true then _ else out.toArray).size<=_;rw [if_neg (by simp),E7];lia));rw [hf];simp only [bne_self_eq_false,kM,if_false];refine wpAny_pure (h _ ?_);have I1:=(I.unpinned).turned (t':=s.toks) (it:=kS) (h':=s.heap.update kS (Obj.mapSeq fun _=>(#[]:Array Value))) (fun b o hb q=>(s1.2 b hb).trans q) (I.pin (kS,seqObj "list" kvs.toArray e) (by simp)).2.1 (I.pin (kS,seqObj "list" kvs.toArray e) (by simp)).2.2.1 (.inr oK.ab) oK.cl (fun p hp=>by
  rcases D4.mp hp with q | q
  .exact oK.np p (N6 _ q)
  .rcases D4.mp q with q | q
   .exact oK.np p (M0 _ q)
   .rw [D1.mp q];exact hDK)
 have I2:=(I1.unpinned).turned (t':=s.toks) (it:=D) (h':=(s.heap.update kS (Obj.mapSeq fun _=>(#[]:Array Value))).update D (Obj.mapSeq fun _=>out.toArray)) (fun b o hb q=>(s2.2 b hb).trans q) nD lD (.inr oD.ab) oD.cl oD.np;exact I2.track oD.ab nD lD oD.cl oD.np ⟨by rw [rv.length];lia,out,c2,rv,P8⟩
theorem ame{D:Addr}{e:Nat}{kvs:List Value}{ks:List V}{kz:List (List Int)}{P:PySem.Fin->Shared->Prop}(oD:Ours X pins D)(oK:Ours X pins kS)(hDK:D≠kS)(hu:A.units<cLine)(I:Inv X (pins++[(D,seqObj "list" #[] e1)]++[(kS,seqObj "list" kvs.toArray e)]) O H s)(rx:Vals xs its)(rk:Vals ks kvs)(hl:ks.length=xs.length)(h64:xs.length<64)(hk:Paired (fun y z=>∃ b,y=V.ref b/\C7 X.K H b (z.map V.int)) ks kz)(h:∀ p h',Srt kz p->Inv X pins O (A0 H D (.lst (p.map fun i=>xs.getD i .non))) { s with heap:=h' }->P (.done (.ret .none)) { s with heap:=h' }):wpAny (model X.prog X.w) A (ksk_end D false its.toArray e1 (.ref kS) kvs.toArray) P E s:=by
 have lx:=rx.length;have lk:=rk.length;have lz:ks.length=kz.length:=Paired.length hk;have outs:∀ (p:List Nat),p.Perm (P1 xs.length)->Vals (p.map fun i=>xs.getD i .non) (p.map fun i=>its.getD i Value.none):=fun p hp=>by
  have hm:∀ i∈p,i<xs.length:=fun i hi=>s0.mp (hp.mem_iff.mp hi)
  clear hp
  induction p with
  | nil=>exact .nil
  | cons i p ih=>
   refine .cons ?_ (ih fun j hj=>hm j (M3 _ hj));have hi:=hm i L5;have e1:xs[i]?=some xs[i]:=G0 hi;obtain ⟨u,hu,q⟩:=rx.get e1;show RelV (xs.getD i .non) (its.getD i Value.none);rw [show xs.getD i .non=xs[i] by rw [V1,e1];rfl,show its.getD i Value.none=u by rw [V1,hu];rfl];exact q
 have hn:∀ {P:Prop} (c:Bool),c=false->(¬ c=true):=fun c h z=>by rw [h] at z;cases z
 unfold ksk_end
 try dsimp only
 rw [if_neg (show ¬ (false=true) by simp)]
 by_cases h2:its.toArray.size<2
 .rw [if_pos h2,if_pos h2];rw [E7] at h2;refine wpAny_bind (wpAny_pure ?_);rw [StateT.run_pure];refine wpAny_bind (wpAny_pure ?_)
  try dsimp only
  have yV:((kvs.toArray.zip its.toArray).map (·.2))=its.toArray:=by
   have:kvs.length=its.length:=by lia
   apply Array.toList_inj.mp
   simp [List.map_snd_zip,this]
  refine agP (ys:=xs) (out:=its) oD oK hDK I yV (by lia) (by lia) rfl rx fun h' J=>?_
  have hr:(P1 xs.length).map (fun i=>xs.getD i .non)=xs:=by
   apply List.ext_getElem?
   intro j;rw [O1]
   by_cases hj:j<xs.length
   .rw [List.getElem?_range hj,G0 hj];simp [hj]
   .rw [kJ (by rw [gN];lia),kJ (by lia)];rfl
  refine h (P1 xs.length) h' ⟨by rw [<- lz,hl],fun i j a b P0 ha hb=>?_⟩ (by rw [hr];exact J)
  have:=(F6.mp hb).1
  rw [gN] at this;lia
 .rw [if_neg h2,if_neg h2];rw [E7] at h2;have Q8:∀ i,i<kz.length->∃ b its2,kvs.getD i Value.none=.ref b/\s.heap.IsList b (List.toArray its2)/\Vals ((kz.getD i []).map V.int) its2:=fun i hi=>by
   obtain ⟨y,hy⟩:∃ y,ks[i]?=some y:=⟨_,G0 (by lia)⟩
   obtain ⟨z,hz,b,rfl,hs⟩:=Paired.at hk hy;obtain ⟨u,hu,q⟩:=rk.get hy;obtain rfl:u=.ref b:=q;obtain ⟨its2,r2,pl,_⟩:=I.list hs;refine ⟨b,its2,by rw [V1,hu];rfl,pl.isList,?_⟩;rw [V1,hz];exact r2
  refine wpAny_bind (PySem.W.kas_kind (T:=.type "list") (by lia) (fun v hv=>?_) (by decide) (by decide) ?_)
  .obtain ⟨i,hi⟩:=List.mem_iff_getElem?.mp hv;obtain ⟨b,its2,e2,X4,_⟩:=Q8 i (by have:=(F6.mp hi).1;lia);rw [V1,hi] at e2;have e2:v=.ref b:=e2;obtain ⟨o,ho,hc,_⟩:=X4;rw [e2,<- hc];exact (PySem.W.Looks.ld ho).andThen .now
  have yW:(if (false:Bool)=true then (kvs.toArray.zip its.toArray).reverse else kvs.toArray.zip its.toArray)=kvs.toArray.zip its.toArray:=if_neg (by simp);rw [yW];refine wpAny_bind (wpAny_mono (PySem.W.kat_run (Q:=fun st' s'=>s'=s/\∃ p:Array Nat,p.size=kz.length/\p.toList.Perm (P1 kz.length)/\Up (keyB kz) (gA p) kz.length/\arrOf st'=p.map (PySem.W.kas_item (kvs.toArray.zip its.toArray))/\failedOf st'=none) (G:=fun p s'=>s'=s/\p.size=kz.length/\p.toList.Perm (P1 kz.length)/\Up (keyB kz) (gA p) kz.length) (κ:=oneType') (ks:=kvs) (vs:=its) (by lia) (by lia) (by lia) (fun p st' s' a1 a2 a3 a4=>⟨a4.1,p,a4.2.1,a4.2.2.1,a4.2.2.2,a2,a3⟩) ?_) ?_ fun _ _ z=>z)
  .have e3:its.length=kz.length:=by lia
   rw [e3];refine uag (f:=keyB kz) (n:=kz.length) (I:=fun s'=>s'=s) (fun i j C s' hi hj hs hC=>?_) (fun a s' ha hs=>⟨hs,ha⟩) (aol (aon kz) (by lia)) rfl;subst hs;obtain ⟨b1,t1,q1,q2,q3⟩:=Q8 i hi;obtain ⟨b2,t2,p1,p2,p3⟩:=Q8 j hj;show wpAny _ _ (keyLt' oneType' (kvs.getD i Value.none) (kvs.getD j Value.none)) _ _ _;rw [q1,p1];exact aoo hu q2 p2 q3 p3 (hC _ rfl)
  .rintro ⟨⟨⟩,st'⟩ s' ⟨rfl,p,y7,j8,o5,har,hf⟩
   try dsimp only
   have O0:p.toList.Perm (P1 xs.length):=by rw [show xs.length=kz.length by lia];exact j8
   refine agP (out:=p.toList.map fun i=>its.getD i Value.none) (ys:=p.toList.map fun i=>xs.getD i .non) oD oK hDK I (PySem.W.kat_snds (by lia) har) (by rw [A4,t8];lia) (by lia) hf (outs _ O0) fun h' J=>h p.toList h' ⟨j8,fun i j a b P0 ha hb=>?_⟩ J
   have hj:=(F6.mp hb).1;rw [t8] at hj;have ga:∀ {i a:Nat},p.toList[i]?=some a->gA p i=a:=fun {i a} q=>by
    rw [gA,dX,<- oM,q];rfl
   have:=o5 i j P0 (by lia)
   rw [ga ha,ga hb] at this;exact this
end
section
variable {X:Cx} {sc:Scope} {N':List Str} {ixs:List Nat} {pins:List (Addr×Obj)} {O:St} {E:Value->Shared->Prop}
structure LamK(X:Cx)(sc:Scope)(N':List Str)(ixs:List Nat)(args:Arguments)(body:Expr)(te:TE):Prop where
 ok:CompOk X.N X.env.scope.names sc N' 1 ixs
 par:∃ y,N'[0]?=some y/\sc.names.lookup y=some .local/\∀ (q:Str) (cl:List (Str×Addr)) (pm cd ct u:Value),bindArgs (kla_fn "<lambda>" q args body sc cl pm cd ct) ⟨[u],[]⟩=pure [(y,u)]
 co:sc.isCoroutine=false
 gen:sc.isGenerator=false
 run:∀ f c s H,PE (lamCx X sc N' f c X.A.in1.in1 s H) body te
theorem akt{D c:Addr}{args:Arguments}{W:Nat->List V->Hp->Prop}{P:PySem.Fin->Shared->Prop}(L:LamK X sc N' ixs args body te)(oD:Ours X pins D)(oK:Ours X pins kS)(hDK:D≠kS)(U3:X.A.frames=some X.stack)(hh:X.A.handled=none)(hr:X.A.depth<recursionLimit)(hu:X.A.units+10<cLine)(hf:(f,lamO X args body sc c ctv)∈X.pn++pins)(I:Inv X (pins++[(D,seqObj "list" #[] e1)]++[(kS,seqObj "list" #[] 0)]) O H2 s)(rx:Vals xs its)(h64:xs.length<64)(w0:W 0 [] H2)(step:∀ i ks H3 x,xs[i]?=some x->W i ks H3->H3 c=some (.ext (cdIs c (lamQ X)))/\te (aP ixs O x) H3 fun y H4=>W (i+1) (ks++[y]) H4)(fin:∀ ks H3,W xs.length ks H3->∃ kz:List (List Int),Paired (fun y z=>∃ b,y=V.ref b/\C7 X.K H3 b (z.map V.int)) ks kz/\kz.length=xs.length/\∀ p s',Srt kz p->Inv X pins O (A0 H3 D (.lst (p.map fun i=>xs.getD i .non))) s'->H3 D=none->P (.done (.ret .none)) s') :
  wpAny (model X.prog X.w) X.A.in1.in1 (ksk_rest D (.ref f) false its.toArray e1 (.ref kS)) P E s:=by
 obtain ⟨y,hy,M8,V8⟩:=L.par;have lx:=rx.length;have fO:(1000:Nat)<=sizeLine:=by decide
 unfold ksk_rest;refine wpAny_bind (wpAny_rule ?_)
 first
  | rw [List.forIn_toArray]
  | (rw [<- Array.forIn_toList];simp only [List.toList_toArray])
  | rw [<- Array.forIn_toList]
 refine wpAny_bind (ksk_fold (fun i s'=>∃ (ks:List V) (kvs:List Value) (e:Nat) (H3:Hp),Inv X (pins++[(D,seqObj "list" #[] e1)]++[(kS,seqObj "list" kvs.toArray e)]) O H3 s'/\Vals ks kvs/\W i ks H3/\ks.length=i) its 0 s ⟨[],[],0,H2,I,.nil,w0,rfl⟩ (fun j x s' hx ⟨ks,kvs,e,H3,I3,rk,hw,hl⟩=>?_) fun s' ⟨ks,kvs,e,H3,I3,rk,hw,hl⟩=>?_)
 .rw [Nat.zero_add] at hw hl;rw [Nat.zero_add];obtain ⟨xv,rX,rxv⟩:=amd rx hx;have hj:=(F6.mp rX).1;obtain ⟨hc3,yX⟩:=step j ks H3 xv rX hw;refine wpAny_bind (wpAny_attempt (wpAny_mono (amc (E:=fun _ _=>False) L.ok I3 U3 hh hr (by
   rcases D4.mp hf with q | q
   .exact N6 _ q
   .exact M0 _ (N6 _ (N6 _ q))) hc3 hy M8 L.co L.gen V8 (L.run f c s' H3) rxv yX) (fun k s'' hk=>?_) fun _ _ z=>z.elim))
  obtain ⟨yv,H4,I4,ry,hw'⟩:=hk
  try dsimp only
  obtain ⟨gK,_⟩:=I4.pin (kS,seqObj "list" kvs.toArray e) (by simp);have gK:s''.heap.get? kS=some (seqObj "list" kvs.toArray e):=gK;have lk:=rk.length;have s1:=Heap.SameBut.update s''.heap kS (Obj.mapSeq (·.push k));have ea:kvs.toArray.push k=(kvs++[k]).toArray:=by simp
  obtain ⟨c2,P8⟩:∃ c2,(s''.heap.update kS (Obj.mapSeq (·.push k))).get? kS=some (seqObj "list" (kvs++[k]).toArray c2):=⟨_,by rw [<- ea];exact get?_update_seq gK (·.push k)⟩
  refine wpAny_bind (listUpdate_at gK rfl ?_ (by rw [E7];lia) (K6 (Nat.le_of_eq (Array.size_push ..)) (by rw [E7];lia)));refine wpAny_pure ⟨rfl,ks++[yv],kvs++[k],c2,H4,?_,rk.append (.cons ry .nil),hw',by rw [C8,hl];rfl⟩;exact I4.repin (t':=s''.toks) oK.ab oK.cl (fun p hp=>by
   rcases D4.mp hp with q | q
   .exact oK.np p (N6 _ q)
   .rcases D4.mp q with q | q
    .exact oK.np p (M0 _ q)
    .rw [D1.mp q];exact hDK) (fun b o hb q=>(s1.2 b hb).trans q) (fun v z=>by cases z) P8
 .rw [Nat.zero_add,<- lx] at hw hl;obtain ⟨gK,_⟩:=I3.pin (kS,seqObj "list" kvs.toArray e) (by simp);have gK:s'.heap.get? kS=some (seqObj "list" kvs.toArray e):=gK
  try dsimp only
  refine wpAny_bind (listItems_at gK rfl ?_);obtain ⟨kz,hkz,U0,hQ⟩:=fin ks H3 hw;have nD:H3 D=none:=(I3.pin (D,seqObj "list" #[] e1) (by simp)).2.1;exact ame oD oK hDK (by show X.A.units+1+1<cLine;lia) I3 rx rk hl h64 hkz fun p h' hp J=>hQ p _ hp J nD
theorem amf{c P:Addr}{a:Expr}{args:Arguments}{p pos:Pos}(hm:X.mg "sorted"=none)(ha:PA X [a] ta)(L:LamK X sc N' ixs args body te)(B:LamB X c P)(hr:Room k X.A)(o4:defaultsOf args X.env=([],[]))(hg:Gl X "sorted":=by rfl)(h1:L1 a=false:=by rfl) :
  PE X (.Call (.Name "sorted" p) [a] [⟨some "key",.Lambda args body sc lpos,kpos⟩] pos) (vT X.K X.calm P lpos (lamQ X) ta ixs te):=by
 intro pins s O H Q I h;refine wpAny_Call_Name_kw (bX I hg hm aho (PySem.W.callWith_of (P:=fun _=>True) ?_ (fun _ _=>⟨_,.inr (.inl rfl),PySem.W.Looks.of_pure rfl⟩) (PyProof.Rows.evalArgs_kw2 rfl (B1 (ha pos pins s O H _ I h) fun us s1 ⟨vs,H1,I1,r1,q1⟩=>?_) (N0 h1))))
 .rw [N0 h1];rfl
 obtain ⟨v,xs,rfl,⟨a0,rfl,hit⟩,h64,T,cont⟩:=q1;obtain ⟨u1,rfl,fI⟩:=vals1 r1;obtain rfl:u1=.ref a0:=fI;obtain ⟨ps,hPs⟩:∃ ps,H1 P=some (.tbl ps):=by
  rcases T with T | ⟨c',T,_⟩
  .exact ⟨_,T⟩
  .exact ⟨_,T⟩
 refine kwAll_cons (amb I1 L.ok B T o4 fun f c' ctv H2 s2 M=>kwAll_nil ⟨trivial,?_⟩);obtain ⟨W,w0,step,fin⟩:=cont c' H2 M.kp M.tab;have yY:C7 X.K H2 a0 xs\/(X.calm=true/\∃ kvs,Rd H2 a0 (.dK kvs)/\xs=kvs.map fun kv=>kV kv.1):=by
  rcases hit with h | ⟨hc,kvs,h,e⟩
  .exact .inl (h.sameP M.kp hPs)
  .exact .inr ⟨hc,kvs,h.sameP M.kp hPs,e⟩
 show wpAny _ _ (call (.builtin "sorted") [.ref a0] [(Str.ofString "key",.ref f)]) _ _ _;refine call_function_entry_kw kind_sorted plain_sorted entry_sorted (ksk_s1 _ _) ?_;unfold Builtin.«sorted»;refine wpAny_bind (m:=checkCount "sorted" 1 1 _) (wpAny_pure ?_);have fO:(1000:Nat)<=sizeLine:=by decide
 refine wpAny_bind (aks (A:=X.A.in1) M.inv (fun _=>hr.hd) yY fun h3 t3 its k3 rY rx hz=>?_);have lx:=rx.length;refine wpAny_bind (wpAny_newList ?_ (by lia));have hoD:(h3.push (seqObj "list" its.toArray 0)).get? h3.objs.size=some (seqObj "list" its.toArray 0):=Heap.get?_push_size _ rfl;refine wpAny_bind (wpAny_holding (wpAny_call_entry_kw slot_list_sort ⟨_,hoD,rfl⟩ entry_list_sort ?body (ksk_l1 _ _)))
 case body=>
  rw [ksk_t1];unfold ksk_tree;have sD:=Heap.SameBut.update (h3.push (seqObj "list" its.toArray 0)) h3.objs.size (Obj.mapSeq fun _=>(#[]:Array Value));obtain ⟨e1,ho1⟩:∃ e1,((h3.push (seqObj "list" its.toArray 0)).update h3.objs.size (Obj.mapSeq fun _=>(#[]:Array Value))).get? h3.objs.size=some (seqObj "list" #[] e1):=⟨_,get?_update_seq hoD fun _=>#[]⟩
  refine wpAny_bind (listItems_at hoD rfl ?_);refine wpAny_bind (listUpdate_at hoD rfl ?_ (by rw [E7];lia) (F7 _));refine wpAny_bind (seqEpoch_at ho1 rfl ?_);refine wpAny_bind (wpAny_newTuple ?_ (by show its.length<=_;lia));refine wpAny_bind (wpAny_newList ?_ (F7 _));refine wpAny_holding ?_;have hb:∀ b,s2.heap.objs.size<=b->H2 b=none/\b≠X.env.locals/\b∉X.fs/\Ours X (pins++[(f,lamO X args body sc c' ctv)]) b:=fun b hb=>⟨M.inv.hok.fresh hb,i3 (O2 M.inv.lt hb),M.inv.nofs hb,K6 M.inv.sz hb,fun x c e z=>by
   obtain ⟨v,q⟩:=M.inv.cell x c e;exact absurd q.lt (by rw [z];exact Nat.not_lt.mpr hb),fun p hp z=>by
   exact absurd (Heap.lt_size (M.inv.pin p hp).1) (by rw [z];exact Nat.not_lt.mpr hb)⟩
  have hkS:(((h3.push (seqObj "list" its.toArray 0)).update h3.objs.size (Obj.mapSeq fun _=>(#[]:Array Value))).push (seqObj "tuple" its.toArray 0)).objs.size=h3.objs.size+2:=by rw [size_push',Heap.size_update,size_push']
  have keep:∀ b o,s2.heap.get? b=some o->((((h3.push (seqObj "list" its.toArray 0)).update h3.objs.size (Obj.mapSeq fun _=>(#[]:Array Value))).push (seqObj "tuple" its.toArray 0)).push (seqObj "list" #[] 0)).get? b=some o:=fun b o e=>by
   have e3:=k3 b o e;have C4:=Heap.lt_size e3;refine Heap.get?_push_of_some _ (Heap.get?_push_of_some _ ?_);exact (sD.2 b (I0 C4)).trans (Heap.get?_push_of_some _ e3)
  obtain ⟨d1,d2,d3,oD⟩:=hb h3.objs.size rY;obtain ⟨q1,q2,q3,oK⟩:=hb (h3.objs.size+2) (by lia);have I3:=(M.inv.kept (t':=t3) keep).pinNew (ob:=seqObj "list" #[] e1) (Heap.get?_push_of_some _ (Heap.get?_push_of_some _ ho1)) d1 d2 d3 (fun v z=>by cases z);have I4:=I3.pinNew (a:=h3.objs.size+2) (ob:=seqObj "list" #[] 0) (by rw [<- hkS];exact Heap.get?_push_size _ rfl) q1 q2 q3 (fun v z=>by cases z);rw [hkS];refine akt L oD oK (show h3.objs.size≠h3.objs.size+2 from I0 (Nat.lt_add_of_pos_right (by decide))) I.ok.frames hr.hd hr.depth (by have:=hr.units;lia) (M0 _ (M0 _ (D1.mpr rfl))) I4 rx h64 w0 step fun ks H3 hw=>?_
  obtain ⟨kz,a1,a2,a3⟩:=fin ks H3 hw;exact ⟨kz,a1,a2,fun p s' hp J nD=>⟨_,rfl,wpAny_pure ⟨_,rfl,.ref h3.objs.size,_,J.unpinned,rfl,a3 _ p nD hp⟩⟩⟩
end
end L2
set_option maxRecDepth 100000
namespace L2
open PySem PySem.Spec PyProof.Rows
open PySem.W (CodeHd tabObj)
structure BaseT(mg:Str->Option Value)(base:Heap)(tabs:List (Addr×Addr)):Prop where
 nb:∀ q∈tabs,base.get? q.2=none
 hd:∀ q∈tabs,CodeHd base q.1 q.2
 bm:∃ b o,mg "__builtins__"=some (.ref b)/\b≠builtinsNs/\b≠mainGlobals/\base.get? b=some o/\o.cls=.type "module"/\o.dict=some builtinsNs/\o.data=.plain
theorem BaseT.lam(B:BaseT X.mg X.base tabs){c P:Addr}(hm:(c,P)∈tabs)(hc:X.env.code=.ref c):LamB X c P:=by
 obtain ⟨b,o,h1,h2,h3,h4,h5⟩:=B.bm;exact ⟨hc,B.hd _ hm,⟨b,o,h1,h2,h3,(fun z=>by rw [z,B.nb _ hm] at h4;cases h4),h4,h5⟩,B.nb _ hm⟩
noncomputable def OnlyT (tabs:List (Addr×Addr)) (H:Hp):Prop:=(∀ q∈tabs,H q.2=some (.tbl #[]))/\∀ b,H b=none\/(∃ o xs,H b=some (.frz o (.lst xs)))\/∃ q∈tabs,b=q.2
theorem aku{P:Program}{w:World}{mb:Str->Option Value}{CX:Z8}{zu:Shared}{vs:List Value}(KX:K.In zu.heap)(n8:zu.heap.Ns mainGlobals mg)(hb:zu.heap.Ns builtinsNs mb)(hbb:∀ x:Str,x≠"__name__"->mb x=bootBuiltins x)(yZ:zu.heap.NoLimit)(hg:zu.gens=#[])(hbm:∃ b o,mg "__builtins__"=some (.ref b)/\b≠builtinsNs/\zu.heap.get? b=some o/\o.cls=.type "module"/\o.dict=some builtinsNs/\o.data=.plain)(hT:PySem.W.TabsAt tabs zu.heap)(hK:PySem.W.noTabs K=true)(ha:zu.heap.get? a=some { cls:=.type "list",data:=.seq vs.toArray })(hi:IntsAre vs ns)(hl:ns.length<=sizeLine)(hr:Room k callerA)(F:∀ base:Heap,K.In base->base.Ns mainGlobals mg->BaseT mg base tabs->FnOk P w K mg base CX k fa fd [x] sp)(V8:∀ (s:Shared) (u:Value),BindsTo s fd ⟨[u],[]⟩ [(x,u)])(x9:∀ H:Hp,OnlyT tabs H->C7 K H a (ns.map V.int)->sp [.ref a] H (fun v _=>v=.bl true) fun _ _ _=>False)(hCX:∀ H e s',CX [] H zu (fun _ _ _=>False) e s'->False) :
  codeAny (model P w) callerA (.call (.ref fa) ⟨[.ref a],[]⟩) (fun r s'=>r=.ok (.ret (.bool true))/\OldK zu.heap s'.heap/\s'.os=zu.os/\AllBare s'.gens) zu:=by
 have rv:=age hi;have lenV:=hi.length;obtain ⟨Ha,hHa1,hHa2⟩:∃ Ha:Option HO,(Ha=none/\(∃ o,K.lookup a=some o)\/Ha=some (.frz { cls:=.type "list",data:=.seq vs.toArray } (.lst (ns.map V.int))))/\(Ha≠none->K.lookup a=none):=by
  cases hk:K.lookup a with
  | some o=>exact ⟨none,.inl ⟨rfl,o,rfl⟩,fun z=>absurd rfl z⟩
  | none=>exact ⟨some _,.inr rfl,fun _=>rfl⟩
 obtain ⟨H,hH⟩:∃ H:Hp,∀ b,H b=if b∈tabs.map (·.2) then some (.tbl #[]) else if b=a then Ha else none:=⟨_,fun _=>rfl⟩
 have haT:a∉tabs.map (·.2):=fun z=>by
  obtain ⟨q,hq,e⟩:=E5.mp z
  have:=(hT q hq).2
  rw [e,ha] at this
  cases this
 have onT:∀ q∈tabs,H q.2=some (.tbl #[]):=fun q hq=>by rw [hH,if_pos (E5.mpr ⟨q,hq,rfl⟩)]
 have onA:H a=Ha:=by rw [hH,if_neg haT,if_pos rfl]
 have cases_:∀ b,H b=none\/(b=a/\H b=some (.frz { cls:=.type "list",data:=.seq vs.toArray } (.lst (ns.map V.int))))\/∃ q∈tabs,b=q.2:=fun b=>by
  by_cases h1:b∈tabs.map (·.2)
  .obtain ⟨q,hq,e⟩:=E5.mp h1;exact .inr (.inr ⟨q,hq,e.symm⟩)
  .by_cases h2:b=a
   .subst h2
    rcases hHa1 with ⟨e,_⟩ | e
    .exact .inl (by rw [onA,e])
    .exact .inr (.inl ⟨rfl,by rw [onA,e]⟩)
   .exact .inl (by rw [hH,if_neg h1,if_neg h2])
 have hO:OnlyT tabs H:=⟨onT,fun b=>by
  rcases cases_ b with q | ⟨_,q⟩ | q
  .exact .inl q
  .exact .inr (.inl ⟨_,_,q⟩)
  .exact .inr (.inr q)⟩
 have hok:L6 P w H zu.heap:=fun b u e=>by
  rcases cases_ b with q | ⟨rfl,q⟩ | ⟨t,ht,rfl⟩
  .rw [q] at e;cases e
  .rw [q] at e;cases e;exact ⟨ha,by rw [A4];exact hl,vs,_,rv,ha⟩
  .rw [onT t ht] at e;cases e;exact (hT t ht).2
 have hS:C7 K H a (ns.map V.int):=by
  rcases hHa1 with ⟨e,o,hk⟩ | e
  .have e2:=KX a o hk;rw [ha] at e2;cases e2;exact .inr ⟨_,vs.toArray,_,hk,rfl,rfl,rfl,by rw [E7,lenV];exact hl,by simpa using rv⟩
  .exact .inl (.inr ⟨_,by rw [onA,e]⟩)
 have base_of:∀ {b:Addr} {o:Obj},zu.heap.get? b=some o->H b=none->(hidT zu.heap H).get? b=some o:=fun e n=>akQ e n
 have free:∀ {b:Addr} {o:Obj},zu.heap.get? b=some o->o.data≠.seq vs.toArray 0->o≠tabObj #[]->H b=none:=fun {b o} e h1 h2=>by
  rcases cases_ b with q | ⟨rfl,q⟩ | ⟨t,ht,rfl⟩
  .exact q
  .rw [ha] at e;cases e;exact absurd rfl h1
  .have:=(hT t ht).2
   rw [e] at this;exact absurd (Option.some.inj this) h2
 have nsK:∀ {b:Addr} {m:Str->Option Value},zu.heap.Ns b m->(hidT zu.heap H).Ns b m:=fun {b m} ⟨o,es,ep,e,d,r⟩=>⟨o,es,ep,base_of e (free e (fun z=>by rw [d] at z;cases z) (fun z=>by rw [z] at d;cases d)),d,r⟩
 have hKb:K.In (hidT zu.heap H):=fun b o e=>base_of (KX b o e) (by
  rcases cases_ b with q | ⟨rfl,q⟩ | ⟨t,ht,rfl⟩
  .exact q
  .have:=hHa2 (by rw [<- onA,q];simp)
   rw [this] at e;cases e
  .have e2:=KX _ o e;rw [(hT t ht).2] at e2;have e3:=Option.some.inj e2;have h2:=List.all_eq_true.mp hK (t.2,o) (PySem.W.mem_of_lookupK e);rw [<- e3] at h2;exact absurd (show false=true from h2) L3)
 have hM:Mod K mg (hidT zu.heap H):=⟨hKb,nsK n8,⟨mb,nsK hb,hbb⟩,let ⟨mc,h1,h2⟩:=yZ;⟨mc,nsK h1,h2⟩⟩
 have hB1:∀ q∈tabs,(hidT zu.heap H).get? q.2=none:=fun q hq=>by
  cases e:(hidT zu.heap H).get? q.2 with
  | none=>rfl
  | some o=>
   have:=(ai6 e).2
   rw [onT q hq] at this
   cases this
 have hB2:∀ q∈tabs,CodeHd (hidT zu.heap H) q.1 q.2:=fun q hq=>by
  obtain ⟨o,us,file,tf,flags,tg,inF,text,tt,e1,r1,r2,r⟩:=(hT q hq).1;exact ⟨o,us,file,tf,flags,tg,inF,text,tt,base_of e1 (free e1 (fun z=>by rw [r2] at z;cases z) (fun z=>by rw [z] at r1;cases r1)),r1,r2,r⟩
 have hB:BaseT mg (hidT zu.heap H) tabs:=by
  obtain ⟨b,o,h1,h2,h3,h4,h5,h6⟩:=hbm;refine ⟨hB1,hB2,b,o,h1,h2,fun z=>?_,base_of h3 (free h3 (fun z=>by rw [h6] at z;cases z) (fun z=>by rw [z] at h4;cases h4)),h4,h5,h6⟩;obtain ⟨o2,es,ep,e2,d2,_⟩:=n8;rw [z,e2] at h3;cases h3;rw [d2] at h6;cases h6
 have e0:Env0 P w K mg (hidT zu.heap H) callerA [] zu H:=⟨rfl,hM,fun b o e=>ai6 e,Nat.le_of_eq (ai5 _ _),trivial,fun b hb=>absurd (show b∈([]:List Addr) from hb) (by simp),hok,.of_eq hg⟩
 refine codeAny_mono ((F _ hKb (nsK n8) hB).run callerA [] zu H ⟨[.ref a],[]⟩ [.ref a] [.ref a] _ _ hr e0 (V8 zu (.ref a)) (.cons rfl .nil) (x9 H hO hS)) fun r s' h=>?_
 cases r with
 | error e=>exact (hCX H e s' h).elim
 | ok fl=>
  cases fl with
  | next=>exact False.elim h
  | brk=>exact False.elim h
  | cont=>exact False.elim h
  | ret u=>
   obtain ⟨v,H',os,bare,un,mZ,r',q⟩:=h;have q':v=.bl true:=q;subst q';obtain rfl:u=Value.bool true:=r';have kept:∀ b o,zu.heap.get? b=some o->(∀ t∈tabs,b≠t.2)->s'.heap.get? b=some o:=fun b o e hb=>by
    rcases cases_ b with q | ⟨rfl,q⟩ | ⟨t,ht,z⟩
    .exact un.keep b o e q (by intro z;exact absurd (show b∈([]:List Addr) from z) (by simp)) (by simp)
    .have z2:=un.frzs b _ _ q;obtain ⟨e2,_⟩:=mZ b _ z2;rw [ha] at e;cases e;exact e2
    .exact absurd z (hb t ht)
   have grown:∀ t∈tabs,∃ more,s'.heap.get? t.2=some (tabObj more):=fun t ht=>by
    obtain ⟨more,e⟩:=un.tbls t.2 #[] (onT t ht);exact ⟨#[]++more,mZ t.2 _ e⟩
   refine ⟨rfl,⟨fun b o e=>?_,fun b o e=>?_⟩,os,bare⟩
   .by_cases hb:∃ t∈tabs,b=t.2
    .obtain ⟨t,ht,rfl⟩:=hb;obtain ⟨more,e2⟩:=grown t ht;have e3:=(hT t ht).2;rw [e] at e3;obtain rfl:=Option.some.inj e3;exact .inr (.inl ⟨((hT t ht).1.tab (hT t ht).2).isCodeTable,rfl,#[],more,rfl,by rw [Array.empty_append];exact e2⟩)
    .exact .inl (kept b o e fun t ht z=>hb ⟨t,ht,z⟩)
   .by_cases hb:∃ t∈tabs,b=t.2
    .obtain ⟨t,ht,rfl⟩:=hb;obtain ⟨more,e2⟩:=grown t ht;exact ⟨_,e2⟩
    .exact ⟨o,kept b o e fun t ht z=>hb ⟨t,ht,z⟩⟩
theorem walk_ofT{l:PySem.W.OpenLaw}{q:Program}{XP:(Str->Option Value)->Heap->Prop}{YP:World->Heap->Prop}{d:DefRec}{K:Params->PySem.W.Frag}{CX:World->Z8}{sp:World->Sp}(hn:l.most=some n)(rM:n<=sizeLine)(y0:d.params.defaults=[])(hr:Room k callerA)(hY:∀ (w:World) (h:Heap),YP w h->(K w.params).In h)(hYT:∀ (w:World) (h:Heap),YP w h->PySem.W.TabsAt tabs h)(hK:∀ P,PySem.W.noTabs (K P)=true)(F:∀ (w:World) (mg:Str->Option Value) (fa:Addr) (h:Heap),(K w.params).In h->h.Ns mainGlobals mg->mg d.name=some (.ref fa)->
   ∃ fd:FuncData,(∀ (s:Shared) (u:Value),BindsTo s fd ⟨[u],[]⟩ [(x,u)])/\
    ∀ base:Heap,(K w.params).In base->base.Ns mainGlobals mg->BaseT mg base tabs->FnOk l.prog w (K w.params) mg base (CX w) k fa fd [x] (sp w))(x9:∀ (w:World) (H:Hp) (a:Addr) (ns:List Int),ns.length<=n->OnlyT tabs H->C7 (K w.params) H a (ns.map V.int)->sp w [.ref a] H (fun v _=>v=.bl true) fun _ _ _=>False)(hCX:∀ (w:World) (H:Hp) (s:Shared) (e:Value) (s':Shared),CX w [] H s (fun _ _ _=>False) e s'->False) :
  PySem.W.WalkO q loose XP YP l.row.toRowW d [] (fun f vs=>PySem.call f vs):=by
 refine Att.attach_call hn y0 fun w s₀ zu mg mb fa o pm cd doc a vs ns G Y ho hd P7 mM fB m9 A9 hg=>?_
 have KX:=hY w _ Y;obtain ⟨fd,hb,hF⟩:=F w mg fa _ KX G.T.g mM;obtain ⟨bm,ob,b1,b2,b3,b4,b5,b6⟩:=G.T.bmain;exact aku KX G.T.g G.T.b G.T.builtins G.T.nolimit hg ⟨bm,ob,b1,b2,b3,b4,b5,b6⟩ (hYT w _ Y) (hK _) fB m9 (K6 A9 rM) hr hF hb (fun H hO hS=>x9 w H a ns A9 hO hS) fun H e s'=>hCX w H zu e s'
end L2
set_option maxRecDepth 100000
namespace L2
open PySem PySem.Spec PyProof.Rows
theorem Room.lam(r:Room (k+3) A)(env:Env):Room k (A.in1.in1.deeper env):=((Room.in1 (k:=k+2) r).in1 (k:=k+1)).deeper env
structure FunDL(K:PySem.W.Frag)(x qual:Str)(st:Stmt)(f:Addr)(fd:FuncData)(c:Addr):Prop where
 ex:∃ (oc:Value) (od:Option Addr) (dV kV doc pm:Value) (an:Option Addr) (ct:Value) (osl:Array (Option Value)),
  fd=P3 x qual (Q5 st) (P5 st) (C3 st) dV kV doc pm an (.ref c) ct/\K.lookup f=some ⟨oc,od,.func fd,osl⟩/\T0 K (.ref c) qual=true
theorem FunDL.ok{P:Program}{w:World}{base:Heap}{c:Addr}(F:FunDL K x qual st f fd c)(S:FnScope N ps (C3 st))(len:∀ vs H Q E,sp vs H Q E->vs.length=ps.length)(V5:∀ (A:Around) (outer:List Env) (s:Shared) (H:Hp) (vs:List V) (Q:VK) (E:XK),Room k (A.deeper (envOfC qual (C3 st) s.heap.objs.size f (.ref c)))->sp vs H Q E->
   ∃ t,W2 (cxOf D9 P w K mg base N qual (C3 st) f (.ref c) A outer s H E).nox (P5 st) t/\t { nx:=fun _ H'=>Q .non H',rt:=Q } (start N vs) H):FnOk P w K mg base D9 (k+1) f fd ps sp:=by
 obtain ⟨oc,od,dV,kV,doc,pm,an,ct,osl,rfl,lk,P7⟩:=F.ex;refine fn_of lk P7 S len fun A outer s H vs Q E hr x9=>?_
 obtain ⟨t,h,q⟩:=V5 A outer s H vs Q E hr x9;exact ⟨t,h.nox,q⟩
section
variable {X:Cx} {sc:Scope} {N':List Str} {ixs:List Nat}
theorem amg{c P:Addr}{a:Expr}{args:Arguments}{p pos:Pos}(hm:X.mg "sorted"=none)(hr:Room k X.A)(B:LamB X c P)(ha:QA X [a] ta)(C:CompOk X.N X.env.scope.names sc N' 1 ixs)(run:∀ f c s H,QE (lamCx X sc N' f c X.A.in1.in1 s H) body te)(hy:N'[0]?=some y:=by rfl)(M8:sc.names.lookup y=some .local:=by decide +kernel)(hb:∀ (q:Str) (cl:List (Str×Addr)) (pm cd ct u:Value),bindArgs (PySem.W.kla_fn "<lambda>" q args body sc cl pm cd ct) ⟨[u],[]⟩=pure [(y,u)]:=by exact fun _ _ _ _ _ _=>rfl)(yT:sc.isCoroutine=false:=by rfl)(fP:sc.isGenerator=false:=by rfl)(o4:defaultsOf args X.env=([],[]):=by rfl)(hg:Gl X "sorted":=by rfl)(h1:L1 a=false:=by rfl) :
  QE X (.Call (.Name "sorted" p) [a] [⟨some "key",.Lambda args body sc lpos,kpos⟩] pos) (vT X.K X.calm P lpos (lamQ X) ta ixs te):=
 ⟨amf hm ha.out ⟨C,⟨y,hy,M8,hb⟩,yT,fP,fun f c s H=>(run f c s H).out⟩ B hr o4 hg h1⟩
end
section
variable {O:St} {H:Hp} {Q:VK}
theorem amh{P:Addr}{pos:Pos} : vT K calm P pos q ta ixs te O H Q=ta O H fun vs H1=>∃ v xs,vs=[v]/\Items K calm H1 v xs/\xs.length<64/\TabOk H1 P pos q/\
 ∀ c H2,SameP P H1 H2->TabIn H2 P c pos q->∃ W:Nat->List V->Hp->Prop,W 0 [] H2/\
  (∀ i ks H3 x,xs[i]?=some x->W i ks H3->H3 c=some (.ext (cdIs c q))/\te (aP ixs O x) H3 fun y H4=>W (i+1) (ks++[y]) H4)/\
  ∀ ks H3,W xs.length ks H3->∃ kz:List (List Int),Paired (fun y z=>∃ b,y=V.ref b/\C7 K H3 b (z.map V.int)) ks kz/\kz.length=xs.length/\∀ (D:Addr) (p:List Nat),H3 D=none->Srt kz p->Q (.ref D) (A0 H3 D (.lst (p.map fun i=>xs.getD i .non))):=rfl
theorem akv{c:Addr}(σ0:St)(hσ:(ixs.map fun i=>(O[i]?).join)=σ0)(κ:V->List Int)(hc:H2 c=some (.ext (cdIs c q)))(yU:∀ (H3:Hp) (x:V) (Z:VK),x∈xs->Same H2 H3->(∀ b H4,Same H3 H4->H4 b=some (.lst ((κ x).map V.int))->Z (.ref b) H4)->te (some x::σ0) H3 Z)(hQ:∀ (D:Addr) (H3:Hp) (p:List Nat),Same H2 H3->H3 D=none->Srt (xs.map κ) p->Q (.ref D) (A0 H3 D (.lst (p.map fun i=>xs.getD i .non)))) :
  ∃ W:Nat->List V->Hp->Prop,W 0 [] H2/\
  (∀ i ks H3 x,xs[i]?=some x->W i ks H3->H3 c=some (.ext (cdIs c q))/\te (aP ixs O x) H3 fun y H4=>W (i+1) (ks++[y]) H4)/\
  ∀ ks H3,W xs.length ks H3->∃ kz:List (List Int),Paired (fun y z=>∃ b,y=V.ref b/\C7 K H3 b (z.map V.int)) ks kz/\kz.length=xs.length/\∀ (D:Addr) (p:List Nat),H3 D=none->Srt kz p->Q (.ref D) (A0 H3 D (.lst (p.map fun i=>xs.getD i .non))):=by
 refine ⟨fun i ks H3=>Same H2 H3/\Paired (fun y x=>∃ b,y=V.ref b/\H3 b=some (.lst ((κ x).map V.int))) ks (xs.take i),⟨Same.refl _,.nil⟩,fun i ks H3 x hx ⟨S,hp⟩=>⟨S _ _ hc,?_⟩,fun ks H3 ⟨S,hp⟩=>⟨xs.map κ,?_,by rw [A4],fun D p nD hs=>hQ D H3 p S nD hs⟩⟩
 .show te (some x::(ixs.map fun i=>(O[i]?).join)) H3 _;rw [hσ];refine yU H3 x _ (K4 hx) S fun b H4 S4 hb=>⟨S.trans S4,?_⟩
  rw [g6,hx];exact Paired.snoc (T3 hp fun y x ⟨b,e,h⟩=>⟨b,e,S4 _ _ h⟩) ⟨b,rfl,hb⟩
 .rw [K9] at hp;have go:∀ {ks xs:List V},Paired (fun y x=>∃ b,y=V.ref b/\H3 b=some (.lst ((κ x).map V.int))) ks xs->Paired (fun y z=>∃ b,y=V.ref b/\C7 K H3 b (z.map V.int)) ks (xs.map κ):=by
   intro ks xs h
   induction h with
   | nil=>exact .nil
   | cons h t ih=>exact .cons (let ⟨b,e,q⟩:=h;⟨b,e,.of q⟩) ih
  exact go hp
end
theorem Srt.perm{α:Type}{d:α}{xs:List α}{kz:List (List Int)}{p:List Nat}(h:Srt kz p)(hl:kz.length=xs.length):(p.map fun i=>xs.getD i d).Perm xs:=by
 have h1:=h.pm.map fun i=>xs.getD i d
 rw [hl] at h1;have e:(P1 xs.length).map (fun i=>xs.getD i d)=xs:=by
  apply List.ext_getElem?
  intro j;rw [O1]
  by_cases hj:j<xs.length
  .rw [List.getElem?_range hj,G0 hj];simp [hj]
  .rw [kJ (by rw [gN];lia),kJ (by lia)];rfl
 rw [e] at h1;exact h1
theorem Srt.pw{α:Type}{d:α}{xs:List α}{κ:α->List Int}{p:List Nat}(h:Srt (xs.map κ) p):(p.map fun i=>xs.getD i d).Pairwise fun x y=>¬ κ y<κ x:=by
 rw [List.pairwise_map,bO];intro i j hi hj P0;obtain ⟨q1,_⟩:=h.up i j _ _ P0 (G0 hi) (G0 hj);unfold keyB at q1;rw [decide_eq_false_iff_not] at q1;have hr:∀ {i:Nat} (hi:i<p.length),p[i]<xs.length:=fun hi=>by
  have:=s0.mp (h.pm.mem_iff.mp (gP hi))
  rwa [A4] at this
 have e:∀ {i:Nat} (hi:i<xs.length),(xs.map κ).getD i []=κ (xs.getD i d):=fun {i} hi=>by
  rw [V1,V1,O1,G0 hi];rfl
 rw [e (hr hi),e (hr hj)] at q1;exact q1
end L2
set_option maxRecDepth 100000
namespace L2
open PySem PySem.Spec PyProof.Rows
noncomputable def vwIs (p a:Addr) (h:Heap):Prop:=h.IsValuesView p a
noncomputable def rVals:V->List V->Hp->VK->Prop:=fun x vs H Q=>∃ a kvs,x=.ref a/\vs=[]/\H a=some (.dK kvs)/\∀ p,H p=none->Q (.ref p) (A0 H p (.ext (vwIs p a)))
theorem akw : iD X "dict.values" rVals:=by
 intro pins s O H x vs v us Q I rx rv h;obtain ⟨a,kvs,rfl,rfl,e,q⟩:=h
 cases rx
 have hus:=rv.zero;subst hus;obtain ⟨z,hd,vs,rel,dd⟩:=dk_of I.hok e;refine call_meetsIn PySem.F.slot_dict_values dd.typeIs PySem.F.entry_dict_values (PySem.F.args_dict_values_1 _) (meets_dict_values (M7 X.prog X.w) a hd) ⟨⟨vs,dd⟩,?_⟩;refine ⟨.ref s.heap.objs.size,_,I.laid (o:=.ext (vwIs s.heap.objs.size a)) (t':=s.toks) (fun b u e=>Heap.get?_push_of_some _ e) (B5 _) ⟨⟨_,Heap.get?_push_size _ rfl,rfl,rfl⟩,⟨_,Heap.get?_push_size _ rfl⟩,fun h1 h2 ⟨o,e1,e2,e3⟩ k=>⟨o,k o e1,e2,e3⟩⟩,rfl,q _ I.fresh⟩
theorem aih : QMt X "dict.values" rVals:=⟨akw⟩
theorem arc : rVals (.ref a) [] H Q=∃ kvs,H a=some (.dK kvs)/\∀ p,H p=none->Q (.ref p) (A0 H p (.ext (vwIs p a))):=
 propext ⟨fun ⟨_,kvs,e,_,h⟩=>by cases e;exact ⟨kvs,h⟩,fun ⟨kvs,h⟩=>⟨a,kvs,rfl,rfl,h⟩⟩
noncomputable def Itvw (a:Addr) (o:Obj) (kvs:List (C1×V)):It:=
 ⟨fun i H=>H a=some (.frz o (.dK kvs))/\i<kvs.length,fun i H x H'=>H'=H/\∃ k,kvs[i]?=some (k,x),fun i H=>H a=some (.frz o (.dK kvs))/\kvs.length<=i⟩
theorem akx{P:Program}{w:World}(a it:Addr)(o:Obj)(kvs:List (C1×V))(vs:List (C1×Value))(ep:Nat)(K3:∀ h:Heap,h.get? a=some o->h.DictAt (M7 P w) a vs ep)(rel:KV kvs vs):Turn P w K tg (Itvw a o kvs) [it] it (fun i h=>h.IsValIter it a i vs.length ep) where
 mem:=by simp
 obj:=fun i h st b hb=>by
  have e:b=it:=by simpa using hb
  subst e;obtain ⟨o,e,c,d⟩:=st;exact ⟨o,e,fun v z=>by rw [d] at z;cases z⟩
 keep:=fun i h h' ⟨o,e,r⟩ k=>⟨o,k it (by simp) o e,r⟩
 item:=by
  intro X hP hw hK hc i pins s O H E I hf st hg;subst hP hw hK;obtain ⟨f0,f1,f2,f3,f4,f5⟩:=hf it (by simp);obtain ⟨fK,n9⟩:=hg;have hd:=K3 s.heap (I.hok a _ fK).1;have yQ:i<vs.length:=by rw [<- rel.length];exact n9
  obtain ⟨q,hq,rq⟩:=Paired.at rel (i:=i) (a:=kvs[i]) (G0 n9);refine wpAny_pyNext_values_item st hd (k:=q.1) (v:=q.2) hq fun h' o0 dE=>?_
  have I1:Inv X pins O H { s with heap:=h' }:=I.turned (t':=s.toks) (fun b o hb e=>(dE.2 b hb).trans e) f0 f1 f3 f4 f5;obtain ⟨oi,e,c,d⟩:=id o0;exact ⟨q.2,rfl,go_of (s:={ s with heap:=h' }) e c d (by decide) ⟨kvs[i].2,H,I1,rq.2,⟨rfl,kvs[i].1,by rw [G0 n9]⟩,o0,fun b hb=>(hf b hb).1⟩⟩
 done:=by
  intro X hP hw hK hc i pins s O H E I hf st hg;subst hP hw hK;obtain ⟨f0,f1,f2,f3,f4,f5⟩:=hf it (by simp);obtain ⟨fK,n9⟩:=hg;have hd:=K3 s.heap (I.hok a _ fK).1;exact wpAny_pyNext_values_end (I.ok.hd hc) st hd (by rw [oC,<- rel.length];exact n9) fun h' eb=>⟨rfl,I.turned (t':=s.toks) (fun b o hb e=>eb b o hb e) f0 f1 f3 f4 f5⟩
 self:=fun _ _ _ _ _ st h=>wpAny_pyIter_valiter st h
noncomputable def iVals (tl:TE):TI:=fun O H R=>tl O H fun x H1=>∃ p a kvs,x=.ref p/\H1 p=some (.ext (vwIs p a))/\H1 a=some (.dK kvs)/\∀ o,R (Itvw a o kvs) (A0 H1 a (.frz o (.dK kvs)))
theorem aop{l:Expr}(hl:PE X l tl):PI X tg l (iVals tl):=by
 intro pins s O H R I h;refine B1 (hl pins s O H _ I h) fun v s1 ⟨x,H1,I1,r1,q1⟩=>?_
 obtain ⟨p,a,kvs,rfl,ev,e,q⟩:=q1
 cases r1
 obtain ⟨z,hd,vs,rel,dd⟩:=dk_of I1.hok e;obtain ⟨ep,K3⟩:=dd.dictAt;obtain ⟨o,es,ho,R7⟩:=id K3;have hv:s1.heap.IsValuesView p a:=(I1.hok p _ ev).1;refine wpAny_pyIter_values hv K3 ?_;have NF:∀ o' v',X.H₀ a≠some (.frz o' v'):=fun o' v' z=>by
  have:=I1.base.frzs _ _ _ z
  rw [e] at this;cases this
 have I1':Inv X pins O H1 { s1 with heap:=s1.heap.push { cls:=.type "dict_valueiterator",data:=.fields #[.ref a,.int 0 0,.int vs.length 0,.int ep 0] } }:=I1.kept (t':=s1.toks) fun b u e=>Heap.get?_push_of_some _ e
 have I2:=I1'.swap (u':=.frz o (.dK kvs)) e (fun _ q=>by cases q) (fun _ q=>by cases q) (fun _ q=>by cases q) NF ⟨Heap.get?_push_of_some _ ho,I1'.hok a _ e⟩;have T:Turn X.prog X.w X.K tg (Itvw a o kvs) [s1.heap.objs.size] s1.heap.objs.size (fun i h=>h.IsValIter s1.heap.objs.size a i vs.length ep):=akx a _ o kvs vs ep (fun h e=>⟨o,es,e,R7⟩) rel;have U3:A0 H1 a (.frz o (.dK kvs)) s1.heap.objs.size=none:=by rw [A3 (fun q=>by rw [<- q,I1.fresh] at e;cases e)];exact I1.fresh
 refine ⟨s1.heap.objs.size,[s1.heap.objs.size],_,_,_,rfl,I2,T,⟨_,Heap.get?_push_size _ rfl,rfl,rfl⟩,fun b hb=>?_,q o⟩;have e:b=s1.heap.objs.size:=by simpa using hb
 subst e;exact I1.fpOk (B5 _) U3
theorem aky{K:PySem.W.Frag}{l:Expr}(hl:QE X l tl):QI X tg l (iVals tl):=⟨aop hl.out⟩
theorem ami{R:It->Hp->Prop} : iVals tl O H R=tl O H fun x H1=>∃ p a kvs,x=.ref p/\H1 p=some (.ext (vwIs p a))/\H1 a=some (.dK kvs)/\∀ o,R (Itvw a o kvs) (A0 H1 a (.frz o (.dK kvs))):=rfl
theorem amL{o:Obj}(fr:St)(U3:compStart 1 ixs O=none::fr)(Pv:Addr->Nat->List V->Hp->Prop)(h0:∀ D,H1 D=none->Pv D 0 [] (A0 H1 D (.lst [])))(hl:∀ D i ys H,H1 D=none->i<=kvs.length->Pv D i ys H->H a=some (.frz o (.dK kvs)))(hs:∀ D i k v ys H,H1 D=none->i<kvs.length->kvs[i]?=some (k,v)->Pv D i ys H->H D=some (.lst ys)->ys.length<=i->c (some v::fr) H fun b H4=>
   if b=true then te (some v::fr) H4 fun y H5=>H5 D=some (.lst ys)/\ys.length<sizeLine/\CW kvs.length fr (Pv D) (i+1) (ys++[y]) (some v::fr) (A0 H5 D (.lst (ys++[y])))
   else H4 D=some (.lst ys)/\CW kvs.length fr (Pv D) (i+1) ys (some v::fr) H4)(hd:∀ D ys H,H1 D=none->Pv D kvs.length ys H->H D=some (.lst ys)->ys.length<=kvs.length->Q (.ref D) H):aM (Itvw a o kvs) 1 ixs (gName 0) c te O Q H1:=by
 intro D hD;refine ⟨kvs.length,CW kvs.length fr (Pv D),⟨F7 _,F7 _,⟨none,U3⟩,h0 D hD⟩,?_⟩;rintro i ys σ2 H2 ⟨hi,hy,⟨w0,rfl⟩,p⟩ hDy;have q:=hl D i ys H2 hD hi p
 by_cases C4:i<kvs.length
 .refine .inr ⟨C4,⟨q,C4⟩,fun x H' y=>?_⟩;obtain ⟨e,k,y⟩:=y;subst e;exact hs D i k x ys _ hD C4 y p hDy hy
 .have e:i=kvs.length:=by lia
  subst e;exact .inl ⟨⟨q,B5 _⟩,hd D ys H2 hD p hDy hy⟩
noncomputable def akz (r r' r'':R2) (ta tb tc td:TE):TE:=fun O H Q=>ta O H fun x H1=>tb O H1 fun y H2=>r x y H2 fun z H3=>∃ k,z=.bl k/\
 (if k=true then tc O H3 fun w' H4=>r' y w' H4 fun z' H5=>∃ k',z'=.bl k'/\(if k'=true then td O H5 fun w'' H6=>r'' w' w'' H6 Q else Q (.bl false) H5) else Q (.bl false) H3)
theorem akA{op op' op'':CmpOp}{r r' r'':R2}{a b c d:Expr}{ta tb:TE}{pos:Pos}(ho:QOp X (compareOp op) r)(f6:QOp X (compareOp op') r')(ho'':QOp X (compareOp op'') r'')(ha:QE X a ta)(hb:QE X b tb)(hc:QE X c tc)(hd:QE X d td)(hm:lastMarks [op,op',op''] [b,c,d]=false:=by with_unfolding_all rfl):QT X (.Compare a [op,op',op''] [b,c,d] pos) (tTest (akz r r' r'' ta tb tc td)):=⟨by
 intro pins s O H Q I h;refine isTrue_chain (B1 (ha.out pins s O H _ I h) fun v s1 ⟨x,H1,I1,r1,q1⟩=>test_link (B1 (hb.out pins s1 O H1 _ I1 q1) fun u s2 ⟨y,H2,I2,r2,q2⟩=>
  B1 (ho.out pins s2 O H2 x y v u _ I2 r1 r2 q2) fun d s3 ⟨z,H3,I3,r3,k,e,q3⟩=>?_)) hm
 subst e
 cases r3
 refine wpAny_truthy_bool ?_
 cases k with
 | false=>
  obtain ⟨k',e',q'⟩:=q3;cases e';exact ite_ff ⟨H3,I3,q'⟩
 | true=>
  refine ite_tt (test_link (B1 (hc.out pins s3 O H3 _ I3 q3) fun w' s4 ⟨z',H4,I4,r4,q4⟩=>B1 (f6.out pins s4 O H4 y z' u w' _ I4 r2 r4 q4) fun d' s5 ⟨z2,H5,I5,r5,k2,e2,q5⟩=>?_));subst e2
  cases r5
  refine wpAny_truthy_bool ?_
  cases k2 with
  | false=>
   obtain ⟨k',e',q'⟩:=q5;cases e';exact ite_ff ⟨H5,I5,q'⟩
  | true=>
   refine ite_tt (test_last (B1 (hd.out pins s5 O H5 _ I5 q5) fun w'' s6 ⟨z'',H6,I6,r6,q6⟩=>B1 (ho''.out pins s6 O H6 z' z'' w' w'' _ I6 r4 r6 q6) fun d'' s7 ⟨z3,H7,I7,r7,k3,e3,q7⟩=>?_));subst e3
   cases r7
   exact wpAny_truthy_bool ⟨H7,I7,q7⟩⟩
theorem akB{r r' r'':R2}{ta tb:TE} : akz r r' r'' ta tb tc td O H Q=ta O H fun x H1=>tb O H1 fun y H2=>r x y H2 fun z H3=>∃ k,z=.bl k/\
 (if k=true then tc O H3 fun w' H4=>r' y w' H4 fun z' H5=>∃ k',z'=.bl k'/\(if k'=true then td O H5 fun w'' H6=>r'' w' w'' H6 Q else Q (.bl false) H5) else Q (.bl false) H3):=rfl
end L2
open L2 in
local macro_rules | `(tactic| walk_at "rd")=>`(tactic| simp only [↓ams,↓ap_c,↓anw,↓aqn,↓alq,↓anx,↓anz,↓aqo,↓anA,↓aqp,↓aqq,↓anB,↓ap_op,↓anr,↓ap_tB,↓aql,↓aqk,↓ap_or,↓anu,↓aqm,↓anv,↓ant,↓ap_if,↓alp,↓ap_cb,↓anF,↓aqt,↓anG,↓aqu,↓aqv,↓ap_sl,↓ajD,↓anH,↓aqy,↓anR,↓alu,↓anP,↓anQ,↓alv,↓alw,↓ap_bm,↓aqw,↓aqr,↓anD,↓anC,↓als,↓anE,↓ap_un,↓ap_rU,↓aqs,↓aqx,↓anI,↓anJ,↓anK,↓anL,↓alr,↓anM,↓alt,↓anN,↓ans,anO,anS,alx,aly,alz,↓ad_ii,↓ad_ss,↓ad_rr,↓mu_ii,↓mu_ri,↓eq_ii,↓eq_ss,↓eq_bb,↓eq_rx,↓eq_xr,↓ne_ii,↓ne_ss,↓ne_bb,↓ne_rx,↓ne_xr,↓L2.lt_ii,↓L2.lt_ss,↓le_ii,↓le_ss,↓gt_ii,↓gt_ss,↓ge_ii,↓ge_ss,↓in_xs,↓in_xr,↓sl_s,↓sl_r,↓len_s,↓len_r,↓aqB,↓all_r,↓isi_t,↓ord_s,↓aqG,↓alC,amz,↓alD,↓tup_r,↓anY,↓aqH,↓aqI,↓anZ,↓an0,↓alF,↓alG,↓anT,↓anU,↓amh,↓ami,↓arc,↓akB,↓alW,↓aof,↓aog,↓aoj,↓al9,↓al8,↓aq8,↓aq9,↓ara,↓aq4,↓aq0,↓aqZ,↓an8,↓aj8,↓aq1,↓aq2,↓aq3,↓any_r,↓alQ,↓an5,↓an6,↓aqN,↓an7,↓alR,↓an1,↓alM,↓an3,↓alL,alA,agj,cxK,cxKn,cxKb,cxC,cxCn,cxCb,K5,List.map_nil,G6,k4,Nat.sub_self,Nat.reduceAdd,Nat.reduceSub,Nat.zero_add,Nat.add_one_sub_one,List.replicate_zero,gI,N3,bS,dU,List.getElem?_cons_zero,List.getElem?_cons_succ,List.set_cons_zero,List.set_cons_succ,Option.some.injEq,Option.join_some,Option.join_none,exists_eq_left',exists_eq_left,exists_eq',exists_eq,reduceCtorEq,false_and,and_false,exists_false,exists_const,false_or,or_false,true_and,and_true,V.str.injEq,V.int.injEq,V.bl.injEq,V.ref.injEq,V.ty.injEq,X8.injEq,exists_and_left,exists_and_right,and_assoc,if_true,if_false,kM,Bool.not_true,Bool.not_false,ite_true,ite_false,Int.reduceLT,Int.reduceLE,F7])
namespace K54
open PySem PySem.Spec PyProof.Rows L2
set_option maxRecDepth 100000
set_option maxHeartbeats 4000000
noncomputable def top (i:Nat):Stmt:=PySem.Challenge.pw_sortlore_k54_begins_in_one_stretch.main.body.getD i (.Pass ⟨0,0,0,0⟩)
noncomputable abbrev v9:Stmt:=top 10
noncomputable abbrev Y3:Stmt:=top 11
noncomputable abbrev w5:Stmt:=top 14
noncomputable abbrev Q1:Stmt:=top 17
noncomputable abbrev qQ:Stmt:=top 19
noncomputable abbrev lO:Stmt:=top 29
noncomputable abbrev qR:Stmt:=top 30
noncomputable abbrev cM:Stmt:=top 31
noncomputable abbrev j5:Stmt:=top 32
noncomputable abbrev aQ:Stmt:=top 33
noncomputable abbrev aR:Stmt:=top 34
noncomputable abbrev lP:Stmt:=top 35
noncomputable abbrev cN:Stmt:=top 36
noncomputable abbrev P6:Stmt:=top 37
noncomputable abbrev cO:Stmt:=aJ (top 38) 0
noncomputable abbrev eT:Stmt:=top 20
noncomputable abbrev aS:Stmt:=top 21
noncomputable abbrev s_cut:Stmt:=top 22
noncomputable abbrev eU:Stmt:=aJ (top 38) 4
noncomputable abbrev cP:Stmt:=aJ (top 38) 5
noncomputable abbrev lQ:Stmt:=top 46
noncomputable abbrev lR:Stmt:=top 47
noncomputable abbrev lS:Stmt:=top 48
noncomputable abbrev j6:Stmt:=top 49
noncomputable abbrev w6:Stmt:=top 50
noncomputable abbrev lT:Stmt:=top 40
noncomputable abbrev cQ:Stmt:=top 41
noncomputable abbrev w8:Stmt:=top 42
noncomputable abbrev lU:Stmt:=top 43
noncomputable abbrev lV:Stmt:=top 44
noncomputable abbrev s_key:Stmt:=top 52
noncomputable abbrev lW:Stmt:=top 53
noncomputable abbrev lX:Stmt:=top 57
noncomputable abbrev x0:Stmt:=top 58
noncomputable abbrev O8:Stmt:=top 59
noncomputable abbrev cR:Stmt:=aJ (top 55) 0
noncomputable abbrev x3:Stmt:=aJ (top 55) 1
noncomputable abbrev cS:Stmt:=aJ (top 55) 2
noncomputable abbrev cT:Stmt:=aJ (top 55) 3
noncomputable abbrev e8:Stmt:=aJ (top 55) 6
noncomputable abbrev cU:Stmt:=aJ (top 55) 5
noncomputable abbrev U7:Stmt:=top 62
noncomputable abbrev iX:Stmt:=top 63
noncomputable abbrev U8:Stmt:=top 61
noncomputable abbrev s_law:Stmt:=top 64
noncomputable def visB (S:Scope) (x:Str):Bool:=decide (S.names.lookup x=some .local) || decide (S.names.lookup x=some .cell) || decide (S.names.lookup x=some .free)
theorem qvd{pos:Pos}{S:Scope}(hN:X.N=N)(hs:X.env.scope=S)(h:(decide (N[n]?=some x)&&visB S x && !(x==("__debug__" : Str)) && !(x==("__classdict__" : Str)))=true):QE X (.Name x pos) (tVar n):=by
 subst hN hs;simp only [visB,Z7,Bool.or_eq_true,decide_eq_true_eq,Bool.not_eq_true'] at h;exact qe_v h.1.1.1 (h.1.1.2.elim (fun z=>z.elim .inl fun z=>.inr (.inl z)) fun z=>.inr (.inr z)) h.1.2 h.2
theorem len1{α:Type}{F:List α->Prop}(h:∀ a,F [a]):∀ us:List α,us.length=1->F us
 | [a],_=>h a
theorem len2{α:Type}{F:List α->Prop}(h:∀ a b,F [a,b]):∀ us:List α,us.length=2->F us
 | [a,b],_=>h a b
theorem len3{α:Type}{F:List α->Prop}(h:∀ a b c,F [a,b,c]):∀ us:List α,us.length=3->F us
 | [a,b,c],_=>h a b c
theorem len4{α:Type}{F:List α->Prop}(h:∀ a b c d,F [a,b,c,d]):∀ us:List α,us.length=4->F us
 | [a,b,c,d],_=>h a b c d
theorem len5{α:Type}{F:List α->Prop}(h:∀ a b c d e,F [a,b,c,d,e]):∀ us:List α,us.length=5->F us
 | [a,b,c,d,e],_=>h a b c d e
theorem G2{Q:List Str}{sc:Scope}(h1:sc.kind=.function:=by rfl)(h2:sc.isCoroutine=false:=by rfl)(h3:sc.isGenerator=false:=by rfl)(h4:N.Nodup:=by decide +kernel)(h5:N.take Q.length=Q:=by rfl)(h6:∀ x∈Q,sc.names.lookup x=some .local\/sc.names.lookup x=some .cell:=by decide +kernel)(h7:∀ y∈sc.names,y.2≠.free:=by decide +kernel):FnScope N Q sc:=⟨h1,h2,h3,h4,h5,h6,h7⟩
theorem T9{kn:List (Str×NameKind)}{sc:Scope}(h1:sc.kind=.function:=by rfl)(h2:∀ x∈sc.names,x.2≠.cell:=by decide +kernel)(h3:∀ x∈sc.names,x.2=.local->sc.names.lookup x.1=some .local:=by decide +kernel)(h4:∀ x∈sc.names,x.2=.free->kn.lookup x.1=some .cell\/kn.lookup x.1=some .free:=by decide +kernel)(h5:∀ x∈sc.names,x.2=.free->sc.names.lookup x.1=some .free:=by decide +kernel)(h6:N'.length=k+ixs.length:=by rfl)(h7:ixs.map (fun i=>N[i]?)=(N'.drop k).map some:=by decide +kernel)(h8:∀ x∈N'.drop k,(x,NameKind.free)∈sc.names:=by decide +kernel):CompOk N kn sc N' k ixs:=⟨h1,h2,h3,h4,h5,h6,h7,h8⟩
theorem hm(r:Room k A)(h:j<=k:=by decide):Room j A:=r.mono h
structure DF(K:PySem.W.Frag)(n:Str)(s:Stmt):Prop where
 ex:∃ (f:Addr) (oc:Value) (od:Option Addr) (kV dc pm:Value) (an:Option Addr) (cd ct:Value) (sl:Array (Option Value)),O4 K mainGlobals n=some (some (.ref f))/\K.lookup f=some ⟨oc,od,.func (P3 n n (Q5 s) (P5 s) (C3 s) .none kV dc pm an cd ct),sl⟩/\T0 K cd n=true/\Q4 K (.ref f)=true
theorem df_mk{n:Str}{s:Stmt}{kV dc:Value}{sl:Array (Option Value)}(a:O4 K mainGlobals n=some (some (.ref f)))(l:K.lookup f=some ⟨oc,od,.func (P3 n n (Q5 s) (P5 s) (C3 s) .none kV dc pm an cd ct),sl⟩)(c:T0 K cd n=true)(k:Q4 K (.ref f)=true):DF K n s:=⟨f,oc,od,kV,dc,pm,an,cd,ct,sl,a,l,c,k⟩
theorem DF.go{P:Program}{w:World}{base:Heap}{n:Str}{s:Stmt}(d:DF K n s)(X:K.In h)(G:h.Ns mainGlobals mg)(_:K.In base)(ok:∀ {f fd},FunD K n n s f fd->FnOk P w K mg base D9 k f fd ps sp)(hl:∀ (kV dc pm:Value) (an:Option Addr) (cd ct:Value) (us:List Value),us.length=ps.length->bindArgs (P3 n n (Q5 s) (P5 s) (C3 s) .none kV dc pm an cd ct) ⟨us,[]⟩=pure (ps.zip us):=by first | exact fun _ _ _ _ _ _=>len1 fun _=>rfl | exact fun _ _ _ _ _ _=>len2 fun _ _=>rfl | exact fun _ _ _ _ _ _=>len3 fun _ _ _=>rfl | exact fun _ _ _ _ _ _=>len4 fun _ _ _ _=>rfl | exact fun _ _ _ _ _ _=>len5 fun _ _ _ _ _=>rfl):FO P w K mg base k n ps [] sp:=by
 obtain ⟨f,oc,od,kV,dc,pm,an,cd,ct,sl,a,l,c,kp⟩:=d.ex;exact ⟨_,_,ok (i8 (st:=s) l c),i4 X G a,kp,[],.all (hl kV dc pm an cd ct),.nil⟩
structure Txt(P:Program)(w:World)(K:PySem.W.Frag)(mg:Str->Option Value)(C:Addr)(C_Shelf:Addr):Prop where
 cl:Cls K C
 na_figures:NoAttr K C "figures"
 na_behind:NoAttr K C "behind"
 na_jobs:NoAttr K C "jobs"
 na_letter_line:NoAttr K C "letter_line"
 na_mark_line:NoAttr K C "mark_line"
 na_made:NoAttr K C "made"
 cl_Shelf:Cls K C_Shelf
 na_order:NoAttr K C_Shelf "order"
 na_kept:NoAttr K C_Shelf "kept"
 b_any:mg "any"=none
 b_bool:mg "bool"=none
 b_dict:mg "dict"=none
 b_enumerate:mg "enumerate"=none
 b_int:mg "int"=none
 b_isinstance:mg "isinstance"=none
 b_len:mg "len"=none
 b_list:mg "list"=none
 b_min:mg "min"=none
 b_ord:mg "ord"=none
 b_range:mg "range"=none
 b_sorted:mg "sorted"=none
 b_tuple:mg "tuple"=none
 b_zip:mg "zip"=none
 g_MARK:∃ t,mg "MARK"=some (.int 0 t)
 g_LETTER:∃ t,mg "LETTER"=some (.int 2 t)
 g_FIGURES:∃ t,mg "FIGURES"=some (.int 1 t)
 x_JOBS:∃ a,mg "JOBS"=some (.ref a)/\ModD P w K a [((Sum.inr ("row" : Str):C1),V.str "letter"),((Sum.inr ("marks" : Str):C1),V.str "mark"),((Sum.inr ("great" : Str):C1),V.str "great"),((Sum.inr ("as" : Str):C1),V.str "as"),((Sum.inr ("over" : Str):C1),V.str "over")]
 x_AGAIN:∃ a,mg "AGAIN"=some (.ref a)/\∀ H:Hp,C6 K H a [V.str "letter",V.str "mark",V.str "over"]
theorem aii{α:Type} : ∀ {l:List (Str×α)} {p:Str} {j:α},(l.map (·.1)).Nodup->(p,j)∈l->l.lookup p=some j
 | [],_,_,_,h=>by cases h
 | (y,t)::l,p,j,nd,h=>by
  rw [K5,V2] at nd;rw [List.lookup_cons]
  rcases E4.mp h with h | h
  .obtain ⟨rfl,rfl⟩:=Prod.mk.inj h
   simp
  .have:p≠y:=fun e=>nd.1 (E5.mpr ⟨_,h,e⟩)
   have e:(p==y)=false:=by simpa using this
   rw [e];exact aii nd.2 h
noncomputable def stepS:List Int:=[1,2,4,5,7,8,10,11,13,22,44,80]
noncomputable def e9 (n:Int):Int:=(K7 stepS (n / 93 % 12)).getD 0
noncomputable def x5 (w:Bool) (n k:Int):Nat:=(K7 (listF (!w)) ((n+k*e9 n) % lenF (!w))).getD 33
theorem vU(n:Int):K7 (stepS.map V.int) (n / 93 % 12)=some (.int (e9 n))/\e9 n∈stepS:=by
 obtain ⟨v,h1,h2⟩:=tX (xs:=stepS) (i:=n / 93 % 12) (by lia) (by show _<((12:Nat):Int);lia);have e:e9 n=v:=by unfold e9;rw [h1];rfl
 rw [e];refine ⟨?_,h2⟩;obtain ⟨j,hj⟩:∃ j:Nat,n / 93 % 12=(j:Int):=⟨(n / 93 % 12).toNat,by lia⟩
 rw [hj] at h1 ⊢
 have:=gX (n / 93) (show (0:Int)<12 by decide)
 have hl:j<stepS.length:=by show j<12;lia
 have e2:=G7 (xs:=stepS) (j:=j) (v:=stepS[j]) (G0 hl);rw [e2] at h1;rw [<- Option.some.inj h1];exact G7 (by rw [O1,G0 hl];rfl)
theorem aoq(n:Int):0<e9 n/\e9 n<=80:=(show ∀ s∈stepS,0<s/\s<=80 by decide) _ (vU n).2
theorem amM(w:Bool)(n k:Int):K7 (listF (!w)) ((n+k*e9 n) % lenF (!w))=some (x5 w n k)/\x5 w n k∈listF (!w):=by
 have hp:=uV (!w);obtain ⟨v,h1,h2⟩:=tX (xs:=listF (!w)) (i:=(n+k*e9 n) % lenF (!w)) (gY _ (by lia)) (by rw [uT];exact gX _ hp.1);have e:x5 w n k=v:=by unfold x5;rw [h1];rfl
 rw [e];exact ⟨h1,h2⟩
noncomputable def m6 (w:Bool) (c:Nat):Prop:=signB c=true/\(w=true->figO c=false)
theorem ard(w:Bool)(n k:Int):m6 w (x5 w n k):=by
 have h:=(amM w n k).2
 cases w with
 | true=>exact ⟨(LA_ok _ h).1,fun _=>(LA_ok _ h).2⟩
 | false=>exact ⟨LB_ok _ h,fun z=>by cases z⟩
theorem agQ:(∀ s∈stepS,∃ t∈(P1 83).map Int.ofNat,s*t % 83=1)/\∀ s∈stepS,∃ t∈(P1 93).map Int.ofNat,s*t % 93=1:=by decide +kernel
theorem aor{w:Bool}{n k l:Int}(h0:0<=k)(h1:k<83)(h2:0<=l)(h3:l<83)(h:x5 w n k=x5 w n l):k=l:=by
 have hp:=uV (!w);have hq:83<=lenF (!w):=by cases w <;> decide
 have nd:(listF (!w)).Nodup:=by
  cases w
  .exact LB_nd
  .exact LA_nd
 have hl:=uT (!w);have e:=aqS nd (i:=(n+k*e9 n) % lenF (!w)) (j:=(n+l*e9 n) % lenF (!w)) (gY _ (by lia)) (by rw [hl];exact gX _ hp.1) (gY _ (by lia)) (by rw [hl];exact gX _ hp.1) h;obtain ⟨t,ht⟩:∃ t:Int,e9 n*t % lenF (!w)=1:=by
  have:=(vU n).2
  cases w
  .obtain ⟨t,_,ht⟩:=agQ.2 _ this;exact ⟨t,ht⟩
  .obtain ⟨t,_,ht⟩:=agQ.1 _ this;exact ⟨t,ht⟩
 exact aiH ht e h0 (by lia) h2 (by lia)
noncomputable def numF (ns:List Int) (k:Int):Int:=cellF ns k*48271 % 2147483647
noncomputable def vV (K:PySem.W.Frag):Sp:=fun vs H Q _=>∃ (a:Addr) (ns:List Int) (k:Int),vs=[.ref a,.int k]/\C7 K H a (ns.map V.int)/\0<=k/\Q (.int (numF ns k)) H
noncomputable def akE:Sp:=fun vs H Q _=>∃ (n k:Int) (w:Bool),vs=[.int n,.int k,.bl w]/\0<=k/\∀ H',Same H H'->Q (.str (one (x5 w n k))) H'
noncomputable def x6 (ls ms:List Str) (a f g x q o:Str):List Rl:=[(("row" : Str),ls),(("marks" : Str),ms),(("great" : Str),[a,f,g]),(("as" : Str),[x,a,q]),(("over" : Str),[o])]
noncomputable def U9 (w:Str) (b:Bool):List Rl:=if b=true then [(w,[])] else []
noncomputable def G3 (ls ms:List Str) (a f g x q o:Str) (b1 b2 b3:Bool):List Rl:=x6 ls ms a f g x q o++U9 "figures" b1++U9 "blanks" b2++U9 "behind" b3
structure Sh5(ls ms:List Str)(a f g x q o:Str)(w:Bool):Prop where
 al:a∈ls
 qm:q∈ls++ms
 l1:ls.length=5
 m1:ms.length=2
 nd:(ls++(ms++[f,g,x,o])).Nodup
 on:∀ p∈ls++(ms++[f,g,x,o]),(∃ c,p=one c/\m6 w c)\/∃ c d,p=two c d/\m6 w c/\m6 w d/\one d∈ls
theorem vW{w:Str}{b:Bool}{z:Rl}(h:z∈U9 w b):b=true/\z=(w,[]):=by
 unfold U9 at h
 split at h
 .exact ⟨by assumption,D1.mp h⟩
 .cases h
theorem iY{a f g:Str}{z:Rl}(h:z∈G3 ls ms a f g x q o b1 b2 b3):z=(("row" : Str),ls)\/z=(("marks" : Str),ms)\/z=(("great" : Str),[a,f,g])\/z=(("as" : Str),[x,a,q])\/z=(("over" : Str),[o])\/z.2=[]/\flagW z.1:=by
 unfold G3 at h
 rcases D4.mp h with h | h
 .rcases D4.mp h with h | h
  .rcases D4.mp h with h | h
   .unfold x6 at h;simp only [E4,Z6,or_false] at h
    rcases h with h | h | h | h | h
    .exact .inl h
    .exact .inr (.inl h)
    .exact .inr (.inr (.inl h))
    .exact .inr (.inr (.inr (.inl h)))
    .exact .inr (.inr (.inr (.inr (.inl h))))
   .rw [(vW h).2];exact .inr (.inr (.inr (.inr (.inr ⟨rfl,.inl rfl⟩))))
  .rw [(vW h).2];exact .inr (.inr (.inr (.inr (.inr ⟨rfl,.inr (.inr rfl)⟩))))
 .rw [(vW h).2];exact .inr (.inr (.inr (.inr (.inr ⟨rfl,.inr (.inl rfl)⟩))))
theorem aos(ls ms:List Str)(a f g x q o:Str)(b1 b2 b3:Bool):(G3 ls ms a f g x q o b1 b2 b3).length<=8:=by
 unfold G3 x6 U9
 cases b1 <;> cases b2 <;> cases b3 <;> simp
theorem vX{w:Str}{b:Bool}(hw:flagW w):D0 (U9 w b)=[]:=by
 unfold U9
 split
 .unfold D0;rw [g7,aiO hw];rfl
 .rfl
theorem lY(ls ms:List Str)(a f g x q o:Str)(b1 b2 b3:Bool):D0 (G3 ls ms a f g x q o b1 b2 b3)=(ls.map fun p=>(p,("letter" : Str)))++((ms.map fun p=>(p,("mark" : Str)))++[(f,("great" : Str)),(g,("great" : Str)),(x,("as" : Str)),(o,("over" : Str))]):=by
 have e:∀ X Y,D0 (X++Y)=D0 X++D0 Y:=fun X Y=>by unfold D0;rw [Z4]
 unfold G3 x6;rw [e,e,e,vX (.inl rfl),vX (.inr (.inr rfl)),vX (.inr (.inl rfl)),N3,N3,N3,eQ,m4.2.2 (.inl rfl),eQ,m4.2.2 (.inr (.inl rfl)),eQ,m4.1 rfl,eQ,m4.2.1 rfl,eQ,m4.2.2 (.inr (.inr rfl))];rfl
theorem qS(ls ms:List Str)(a f g x q o:Str)(b1 b2 b3:Bool):(D0 (G3 ls ms a f g x q o b1 b2 b3)).map (·.1)=ls++(ms++[f,g,x,o]):=by
 rw [lY];simp [Function.comp_def]
theorem vY(ls ms:List Str)(a f g x q o:Str)(b1 b2 b3:Bool):hasW (G3 ls ms a f g x q o b1 b2 b3) "figures"=b1/\hasW (G3 ls ms a f g x q o b1 b2 b3) "blanks"=b2/\hasW (G3 ls ms a f g x q o b1 b2 b3) "behind"=b3:=by
 have e:∀ X Y w,hasW (X++Y) w=(hasW X w || hasW Y w):=fun X Y w=>by unfold hasW;rw [List.any_append]
 have e1:∀ (u w:Str) b,hasW (U9 u b) w=(b&&decide (u=w)):=fun u w b=>by
  unfold U9 hasW
  cases b <;> simp
 have e0:∀ w:Str,flagW w->hasW (x6 ls ms a f g x q o) w=false:=fun w hw=>by
  obtain ⟨n1,n2,n3,n4,n5⟩:=hw.no;unfold hasW x6;simp only [t7,List.any_nil,Bool.or_false,Bool.or_eq_false_iff,decide_eq_false_iff_not];exact ⟨fun h=>n1 h.symm,fun h=>n2 h.symm,fun h=>n3 h.symm,fun h=>n4 h.symm,fun h=>n5 h.symm⟩
 have d:∀ {u w:Str},u≠w->decide (u=w)=false:=fun h=>decide_eq_false h
 unfold G3;simp only [e,e1];rw [e0 _ (.inl rfl),e0 _ (.inr (.inr rfl)),e0 _ (.inr (.inl rfl)),d (show ("blanks" : Str)≠"figures" by decide +kernel),d (show ("behind" : Str)≠"figures" by decide +kernel),d (show ("figures" : Str)≠"blanks" by decide +kernel),d (show ("behind" : Str)≠"blanks" by decide +kernel),d (show ("figures" : Str)≠"behind" by decide +kernel),d (show ("blanks" : Str)≠"behind" by decide +kernel)]
 simp
theorem iZ(ls ms:List Str)(a f g x q o:Str)(b1 b2 b3:Bool):rowsW (G3 ls ms a f g x q o b1 b2 b3) "row"=[ls]/\rowsW (G3 ls ms a f g x q o b1 b2 b3) "marks"=[ms]:=by
 have e:∀ X Y w,rowsW (X++Y) w=rowsW X w++rowsW Y w:=fun X Y w=>by unfold rowsW;rw [q0,D6]
 have e3:∀ {u w:Str} {b:Bool},u≠w->rowsW (U9 u b) w=[]:=fun {u w b} n=>by
  unfold U9 rowsW
  cases b
  .rfl
  .rw [if_pos rfl,aA (by simpa using n)];rfl
 have e1:∀ {w u:Str} {zs:List Str} {R:List Rl},u≠w->rowsW ((u,zs)::R) w=rowsW R w:=fun {w u zs R} n=>by
  unfold rowsW;rw [aA (by simpa using n)]
 have e2:∀ {w:Str} {zs:List Str} {R:List Rl},rowsW ((w,zs)::R) w=zs::rowsW R w:=fun {w zs R}=>by
  unfold rowsW;rw [bQ (by simp)];rfl
 unfold G3 x6;rw [e,e,e,e,e,e,e3 (by decide +kernel),e3 (by decide +kernel),e3 (by decide +kernel),e3 (by decide +kernel),e3 (by decide +kernel),e3 (by decide +kernel),e2,e1 (by decide +kernel),e1 (by decide +kernel),e1 (by decide +kernel),e1 (by decide +kernel),e1 (by decide +kernel),e2,e1 (by decide +kernel),e1 (by decide +kernel),e1 (by decide +kernel)];exact ⟨rfl,rfl⟩
theorem Sh5.ndl{a f g:Str}(h:Sh5 ls ms a f g x q o b1):ls.Nodup:=(Z5.mp h.nd).1
theorem Sh5.ndm{a f g:Str}(h:Sh5 ls ms a f g x q o b1):ms.Nodup:=(Z5.mp (Z5.mp h.nd).2.1).1
theorem Sh5.good{a f g:Str}(h:Sh5 ls ms a f g x q o b1):GoodR (gOf (G3 ls ms a f g x q o b1 b2 b3)) (ls.idxOf ·) (ms.idxOf ·) (G3 ls ms a f g x q o b1 b2 b3):=by
 have Y6:=h.l1;have rZ:=h.m1;have nd:=h.nd;rw [<- qS ls ms a f g x q o b1 b2 b3] at nd;have on:=h.on;rw [<- qS ls ms a f g x q o b1 b2 b3] at on;have hB:=aos ls ms a f g x q o b1 b2 b3;have O0:(D0 (G3 ls ms a f g x q o b1 b2 b3)).length=11:=by rw [lY];simp only [C8,A4,G6,k4];lia
 have lt:∀ p∈ls,(p,("letter" : Str))∈D0 (G3 ls ms a f g x q o b1 b2 b3):=fun p hp=>by rw [lY];exact N6 _ (E5.mpr ⟨p,hp,rfl⟩)
 have mk:∀ p∈ms,(p,("mark" : Str))∈D0 (G3 ls ms a f g x q o b1 b2 b3):=fun p hp=>by rw [lY];exact M0 _ (N6 _ (E5.mpr ⟨p,hp,rfl⟩))
 have no:∀ {z:Rl} {w:Str},z.2=[]/\flagW z.1->z.1=w->¬ (w="row"\/w="marks"\/w="great"\/w="as"\/w="over"):=fun {z w} hz e hw=>by
  obtain ⟨n1,n2,n3,n4,n5⟩:=hz.2.no;rw [e] at n1 n2 n3 n4 n5
  rcases hw with h | h | h | h | h <;> contradiction
 refine ⟨by lia,by lia,?_,?_,fun z hz=>?_,fun z hz hw=>?_,fun z hz hw p hp=>?_,fun z hz hw p hp=>?_,fun z hz hw p hp=>?_,?_,?_,fun e he=>?_,fun e he=>?_⟩
 .intro i p j hi;have hm:=K4 hi;have sA:=on p (E5.mpr ⟨_,hm,rfl⟩);refine ⟨?_,fun hq=>?_,fun hf c hc=>?_,?_⟩
  .unfold gOf;rw [aii nd hm];rfl
  .exfalso
   obtain ⟨⟨p',j'⟩,yS,e0⟩:=E5.mp hq;obtain ⟨m,hmk,e⟩:=List.mem_take_iff_getElem.mp yS;obtain ⟨f7,e2⟩:=F6.mp hi;rw [p8,List.pairwise_map,bO] at nd;refine nd m i (by lia) f7 (by lia) ?_;rw [e,e2];exact e0
  .rw [(vY ls ms a f g x q o b1 b2 b3).1] at hf
   rcases sA with ⟨c',rfl,R6⟩ | ⟨c',d,rfl,R6,hd,_⟩
   .rw [D1.mp (show c∈[c'] from hc)];exact R6.2 hf
   .rcases E4.mp (show c∈[c',d] from hc) with e | e
    .rw [e];exact R6.2 hf
    .rw [D1.mp e];exact hd.2 hf
  .rcases sA with ⟨c',rfl,R6⟩ | ⟨c',d,rfl,R6,hd,_⟩
   .show 1<=1000;decide
   .show 2<=1000;decide
 .intro hb
  rcases on _ hb with ⟨c,e,hc⟩ | ⟨c,d,e,_⟩
  .have e1:[32]=[c]:=congrArg (fun z:Str=>z.cps.toList) e;rw [<- List.singleton_inj.mp e1] at hc;exact absurd hc.1 (by decide)
  .have e1:[32]=[c,d]:=congrArg (fun z:Str=>z.cps.toList) e;cases e1
 .rcases iY hz with rfl | rfl | rfl | rfl | rfl | hz
  .show ls.length<=1000;lia
  .show ms.length<=1000;lia
  .show 3<=1000;decide
  .show 3<=1000;decide
  .show 1<=1000;decide
  .rw [hz.1];show 0<=1000;decide
 .rcases iY hz with rfl | rfl | rfl | rfl | rfl | hz
  .intro e;rw [show ls=[] from e] at Y6;cases Y6
  .intro e;rw [show ms=[] from e] at rZ;cases rZ
  .exact List.cons_ne_nil _ _
  .exact List.cons_ne_nil _ _
  .exact List.cons_ne_nil _ _
  .rcases hw with hw | hw
   .exact absurd (.inr (.inr (.inr (.inl rfl)))) (no hz hw)
   .exact absurd (.inr (.inr (.inl rfl))) (no hz hw)
 .rcases iY hz with rfl | rfl | rfl | rfl | rfl | hz
  .exact absurd (show Str.ofString "row"=_ from hw) (by decide +kernel)
  .exact absurd (show Str.ofString "marks"=_ from hw) (by decide +kernel)
  .rw [D1.mp (show p∈[a] from hp)];exact lt a h.al
  .exact absurd (show Str.ofString "as"=_ from hw) (by decide +kernel)
  .exact absurd (show Str.ofString "over"=_ from hw) (by decide +kernel)
  .exact absurd (.inr (.inr (.inl rfl))) (no hz hw)
 .rcases iY hz with rfl | rfl | rfl | rfl | rfl | hz
  .exact absurd (show Str.ofString "row"=_ from hw) (by decide +kernel)
  .exact absurd (show Str.ofString "marks"=_ from hw) (by decide +kernel)
  .exact absurd (show Str.ofString "great"=_ from hw) (by decide +kernel)
  .rw [D1.mp (show p∈[a] from hp)];exact lt a h.al
  .exact absurd (show Str.ofString "over"=_ from hw) (by decide +kernel)
  .exact absurd (.inr (.inr (.inr (.inl rfl)))) (no hz hw)
 .rcases iY hz with rfl | rfl | rfl | rfl | rfl | hz
  .exact absurd (show Str.ofString "row"=_ from hw) (by decide +kernel)
  .exact absurd (show Str.ofString "marks"=_ from hw) (by decide +kernel)
  .exact absurd (show Str.ofString "great"=_ from hw) (by decide +kernel)
  .rw [D1.mp (show p∈[q] from hp)];exact (D4.mp h.qm).imp (lt q) (mk q)
  .exact absurd (show Str.ofString "over"=_ from hw) (by decide +kernel)
  .exact absurd (.inr (.inr (.inr (.inl rfl)))) (no hz hw)
 .rw [(iZ ls ms a f g x q o b1 b2 b3).1];simp;lia
 .rw [(iZ ls ms a f g x q o b1 b2 b3).2];simp;lia
 .rw [(iZ ls ms a f g x q o b1 b2 b3).1] at he;exact agE h.ndl (by simpa [edges] using he)
 .rw [(iZ ls ms a f g x q o b1 b2 b3).2] at he;exact agE h.ndm (by simpa [edges] using he)
theorem Sh5.lets{a f g:Str}(h:Sh5 ls ms a f g x q o b1)(hL:Y2 (G3 ls ms a f g x q o b1 b2 b3) "row" L)(hM:Y2 (G3 ls ms a f g x q o b1 b2 b3) "marks" M):L=ls/\M=ms:=by
 unfold Y2 at hL hM;rw [(iZ ls ms a f g x q o b1 b2 b3).1] at hL;rw [(iZ ls ms a f g x q o b1 b2 b3).2] at hM;refine ⟨akf h.ndl (iM _) hL.1 hL.2 (fun p=>?_) fun e he=>?_,akf h.ndm (iM _) hM.1 hM.2 (fun p=>?_) fun e he=>?_⟩
 .rw [vC];simp
 .simpa [edges] using he
 .rw [vC];simp
 .simpa [edges] using he
theorem Sh5.known{a f g:Str}(h:Sh5 ls ms a f g x q o b1){p:Str}(hp:p∈F9 (G3 ls ms a f g x q o b1 b2 b3)):p=one 32\/p∈ls++(ms++[f,g,x,o]):=by
 rcases ahj hp with e | e
 .exact .inl (e.trans vN)
 .rw [qS] at e;exact .inr e
theorem Sh5.two{a f g:Str}(h:Sh5 ls ms a f g x q o b1){p:Str}(hp:p∈F9 (G3 ls ms a f g x q o b1 b2 b3)):(∃ c,p=one c/\0<c/\(b1=true->figO c=false))\/∃ c d,p=two c d/\m6 b1 c/\m6 b1 d/\one d∈ls:=by
 rcases h.known hp with e | e
 .exact .inl ⟨32,e,by decide,fun _=>by decide⟩
 .rcases h.on p e with ⟨c,e,hc⟩ | e
  .refine .inl ⟨c,e,?_,hc.2⟩
   have:=hc.1
   unfold signB at this;simp only [Z7,decide_eq_true_eq] at this;lia
  .exact .inr e
theorem Sh5.kin{a f g:Str}(h:Sh5 ls ms a f g x q o b1){p:Str}(hp:p∈ls++(ms++[f,g,x,o])):p∈F9 (G3 ls ms a f g x q o b1 b2 b3):=al4 (by rw [qS];exact hp)
theorem Sh5.whole{a f g:Str}(h:Sh5 ls ms a f g x q o b1)(hz:z.cps.toList=flatP ps)(hp:∀ p∈ps,eS b1 (F9 (G3 ls ms a f g x q o b1 b2 b3)) p):aO b1 (F9 (G3 ls ms a f g x q o b1 b2 b3)) z:=by
 unfold aO;rw [hz,afb (ks:=F9 (G3 ls ms a f g x q o b1 b2 b3)) (fun hw p hp c hc=>?_) (fun c d e _ _ h3=>?_) (fun p hp=>(h.two hp).imp (by rintro ⟨c,e,_⟩;exact ⟨c,e⟩) fun ⟨c,d,e,_⟩=>⟨c,d,e⟩) _ ps hp (B5 _),<- hz,lenL]
 .rcases h.two hp with ⟨c',rfl,_,R6⟩ | ⟨c',d,rfl,R6,hd,_⟩
  .rw [D1.mp (show c∈[c'] from hc)];exact R6 hw
  .rcases E4.mp (show c∈[c',d] from hc) with e | e
   .rw [e];exact R6.2 hw
   .rw [D1.mp e];exact hd.2 hw
 .rcases h.two h3 with ⟨c',e',_⟩ | ⟨c',d',e',_,_,hd⟩
  .have e1:[d,e]=[c']:=congrArg (fun z:Str=>z.cps.toList) e';cases e1
  .have e1:[d,e]=[c',d']:=congrArg (fun z:Str=>z.cps.toList) e';rw [(X8.inj (X8.inj e1).2).1];exact h.kin (N6 _ hd)
theorem Sh5.knownL{a f g:Str}(h:Sh5 ls ms a f g x q o b1):(F9 (G3 ls ms a f g x q o b1 b2 b3)).length<=1000:=by
 unfold F9;rw [C8];have h1:=uR (D0 (G3 ls ms a f g x q o b1 b2 b3));have h2:=(h.good (b2:=b2) (b3:=b3)).plen;have h4:(D0 (G3 ls ms a f g x q o b1 b2 b3)).length=11:=by
  have Y6:=h.l1;have rZ:=h.m1;rw [lY];simp only [C8,A4,G6,k4];lia
 have h3:(Y1 (G3 ls ms a f g x q o b1 b2 b3)).length<=1:=by unfold Y1;split <;> simp
 lia
theorem Sh5.steps{a f g:Str}(h:Sh5 ls ms a f g x q o b1)(L M:List Str)(y:Str):(stepY (G3 ls ms a f g x q o b1 b2 b3) L M y).length<=15:=by
 unfold L2.stepY
 split
 .show 1<=15;decide
 unfold stepF;cases e:(putsL (G3 ls ms a f g x q o b1 b2 b3) L M).lookup y with
 | none=>simp
 | some s=>
  obtain ⟨l1,l2,el,_⟩:=List.lookup_eq_some_iff.mp e;have hp:(y,s)∈putsL (G3 ls ms a f g x q o b1 b2 b3) L M:=by rw [el];simp
  show s.length<=15;unfold putsL at hp
  rcases D4.mp hp with hp | hp
  .rcases D4.mp hp with hp | hp
   .rcases D4.mp hp with hp | hp
    .obtain ⟨e,_,q⟩:=E5.mp hp;rw [<- (Prod.mk.inj q).2];exact Nat.le_add_left 1 14
    .obtain ⟨e,_,q⟩:=E5.mp hp;rw [<- (Prod.mk.inj q).2];exact Nat.le_add_left 1 14
   .obtain ⟨w,_,hp⟩:=g8.mp hp;obtain ⟨e,_,q⟩:=E5.mp hp;rw [<- (Prod.mk.inj q).2];exact Nat.le_add_left 1 14
  .unfold lJ at hp;obtain ⟨z,hz,qq⟩:=gL.mp hp
   split at qq
   .obtain ⟨p',_,qq⟩:=kQ.mp qq;rw [<- (Prod.mk.inj qq).2,A4];have Y6:=h.l1;have rZ:=h.m1
    rcases iY hz with rfl | rfl | rfl | rfl | rfl | hz
    .show (ls.drop 1).length<=15;rw [q9];lia
    .show (ms.drop 1).length<=15;rw [q9];lia
    .show 2<=15;decide
    .show 2<=15;decide
    .show 0<=15;decide
    .rw [hz.1];show 0<=15;decide
   .cases qq
noncomputable def cV (c:Nat->Nat) (i:Nat) (pc:Nat->Str):Prop:=∀ k,pc k=one (c k)\/k∈([4,8,9]:List Nat).take i/\∃ t,t<4/\pc k=two (c k) (c t)
noncomputable def Y4 (pc:Nat->Str):List V:=(P1 10).map fun k=>V.str (pc k)
theorem jA(pc:Nat->Str)(hk:k<10):(Y4 pc)[k]?=some (V.str (pc k)):=by
 unfold Y4;rw [O1,List.getElem?_range hk];rfl
theorem aot(pc:Nat->Str)(hk:k<10)(z:Str):(Y4 pc).set k (V.str z)=Y4 fun j=>if j=k then z else pc j:=by
 unfold Y4
 apply List.ext_getElem?
 intro j;rw [List.getElem?_set,O1,O1,A4,gN]
 by_cases hj:j<10
 .rw [List.getElem?_range hj]
  by_cases e:k=j
  .subst e;rw [if_pos rfl,if_pos hk]
   simp
  .rw [if_neg e];simp [Ne.symm e]
 .rw [kJ (by rw [gN];lia),if_neg (by lia)];rfl
noncomputable def R5 (c:Nat->Nat):List Str:=[one (c 0),one (c 1),one (c 2),one (c 3)]
noncomputable def rowS (c:Nat->Nat) (j t:Nat):List Str:=([one (c 0),one (c 1),one (c 2),one (c 3)].take t)++[two (c 0) (c j)]++([one (c 0),one (c 1),one (c 2),one (c 3)].drop t)
theorem rowS_mem{c:Nat->Nat}{t:Nat}{p:Str} : p∈rowS c j t↔p=two (c 0) (c j)\/p∈[one (c 0),one (c 1),one (c 2),one (c 3)]:=by
 unfold rowS;rw [D4,D4,D1]
 constructor
 .rintro ((h | h) | h)
  .exact .inr (oI h)
  .exact .inl h
  .exact .inr (List.mem_of_mem_drop h)
 .rintro (h | h)
  .exact .inl (.inr h)
  .rw [<- j9 t [one (c 0),one (c 1),one (c 2),one (c 3)]] at h
   rcases D4.mp h with h | h
   .exact .inl (.inl h)
   .exact .inr h
theorem pl_hd{c:Nat->Nat}{pc:Nat->Str}(P:cV c i pc)(k:Nat):∃ r,(pc k).cps.toList=c k::r:=by
 rcases P k with e | ⟨_,t,_,e⟩
 .rw [e];exact ⟨[],rfl⟩
 .rw [e];exact ⟨[c t],rfl⟩
theorem are{c:Nat->Nat}{pc:Nat->Str}(P:cV c i pc)(inj:∀ k<10,∀ l<10,c k=c l->k=l){l:Nat}(hk:k<10)(hl:l<10)(e:pc k=pc l):k=l:=by
 obtain ⟨r,h1⟩:=pl_hd P k;obtain ⟨s,h2⟩:=pl_hd P l;rw [e,h2] at h1;exact inj k hk l hl (X8.inj h1).1.symm
theorem arf{c:Nat->Nat}{w:Bool}{pc:Nat->Str}(ok:∀ k,m6 w (c k))(inj:∀ k<10,∀ l<10,c k=c l->k=l)(P:cV c i pc){t:Nat}(hj:j<4)(ht:t<=4)(hq:q=pc 4\/q=one (c 1)) :
  Sh5 (rowS c j t) [pc 4,pc 5] (one (c 0)) (pc 6) (pc 7) (pc 8) q (pc 9) w:=by
 have low:∀ k,k<4->one (c k)∈rowS c j t:=fun k hk=>by
  rw [rowS_mem]
  right
  have:k=0\/k=1\/k=2\/k=3:=by lia
  rcases this with rfl | rfl | rfl | rfl <;> simp
 have pm:(rowS c j t++([pc 4,pc 5]++[pc 6,pc 7,pc 8,pc 9])).Perm (two (c 0) (c j)::([one (c 0),one (c 1),one (c 2),one (c 3)]++[pc 4,pc 5,pc 6,pc 7,pc 8,pc 9])):=by
  rw [<- dU];refine List.Perm.append ?_ (List.Perm.refl _);unfold rowS;rw [W8];refine List.Perm.trans List.perm_middle (List.Perm.cons _ ?_);show (List.take t [one (c 0),one (c 1),one (c 2),one (c 3)]++List.drop t [one (c 0),one (c 1),one (c 2),one (c 3)]).Perm _;rw [j9]
 have one_i:∀ {x y:Nat},one x=one y->x=y:=fun {x y} e=>List.singleton_inj.mp (congrArg (fun z:Str=>z.cps.toList) e)
 refine ⟨low 0 (by decide),?_,?_,rfl,?_,fun p hp=>?_⟩
 .rcases hq with rfl | rfl
  .exact M0 _ L5
  .exact N6 _ (low 1 (by decide))
 .unfold rowS;simp only [C8,L0,q9,G6,k4];lia
 .rw [pm.nodup_iff,V2];have e:[one (c 0),one (c 1),one (c 2),one (c 3)]++[pc 4,pc 5,pc 6,pc 7,pc 8,pc 9]=(P1 10).map (fun k=>if k<4 then one (c k) else pc k):=rfl;have P':cV c i (fun k=>if k<4 then one (c k) else pc k):=fun k=>by
   show (if k<4 then one (c k) else pc k)=_\/_/\∃ t,t<4/\(if k<4 then one (c k) else pc k)=two (c k) (c t)
   by_cases hk:k<4
   .rw [if_pos hk];exact .inl rfl
   .rw [if_neg hk]
    rcases P k with e | ⟨h1,t,h2,e⟩
    .exact .inl e
    .exact .inr ⟨h1,t,h2,e⟩
  refine ⟨fun h=>?_,?_⟩
  .rw [e] at h;obtain ⟨k,hk,e1⟩:=E5.mp h;have hk:=s0.mp hk;obtain ⟨r,e2⟩:=pl_hd P' k;have e3:(two (c 0) (c j)).cps.toList=c k::r:=by rw [<- e1];exact e2
   have k0:=inj 0 (by decide) k hk (X8.inj (show [c 0,c j]=c k::r from e3)).1;subst k0;have e4:[c 0]=[c 0,c j]:=congrArg (fun z:Str=>z.cps.toList) e1;cases e4
  .rw [e,p8,List.pairwise_map];refine List.Pairwise.imp_of_mem ?_ (p8.mp List.nodup_range);intro a b ha hb n e;exact n (are P' inj (s0.mp ha) (s0.mp hb) e)
 .have eK:∀ k,(∃ x,pc k=one x/\m6 w x)\/∃ x d,pc k=two x d/\m6 w x/\m6 w d/\one d∈rowS c j t:=fun k=>by
   rcases P k with e | ⟨_,t,ht,e⟩
   .exact .inl ⟨_,e,ok k⟩
   .exact .inr ⟨_,_,e,ok k,ok t,low t ht⟩
  rcases D4.mp hp with hp | hp
  .rcases rowS_mem.mp hp with rfl | hp
   .exact .inr ⟨_,_,rfl,ok 0,ok j,low j hj⟩
   .simp only [E4,Z6,or_false] at hp
    rcases hp with rfl | rfl | rfl | rfl <;> exact .inl ⟨_,rfl,ok _⟩
  .simp only [dU,bS,E4,Z6,or_false] at hp
   rcases hp with rfl | rfl | rfl | rfl | rfl | rfl <;> exact eK _
theorem cV.step{c:Nat->Nat}{pc:Nat->Str}(P:cV c i pc)(hk:([4,8,9]:List Nat)[i]?=some k)(b:Bool){t:Nat}(ht:t<4):pc k=one (c k)/\cV c (i+1) fun j=>if j=k then (if b=true then two (c k) (c t) else one (c k)) else pc j:=by
 have hi:=(F6.mp hk).1;have e:([4,8,9]:List Nat).take (i+1)=([4,8,9]:List Nat).take i++[k]:=J7 hk;have y8:pc k=one (c k):=by
  rcases P k with e | ⟨h,_⟩
  .exact e
  .exfalso
   have nd:(([4,8,9]:List Nat).take (i+1)).Nodup:=List.Nodup.sublist (List.take_sublist _ _) (by decide);rw [e,Z5] at nd;exact nd.2.2 k h k (D1.mpr rfl) rfl
 refine ⟨y8,fun j=>?_⟩;rw [e];show (if j=k then (if b=true then two (c k) (c t) else one (c k)) else pc j)=_\/_/\∃ t',t'<4/\(if j=k then (if b=true then two (c k) (c t) else one (c k)) else pc j)=two (c j) (c t')
 by_cases hj:j=k
 .subst hj;rw [if_pos rfl]
  cases b with
  | true=>exact .inr ⟨M0 _ (D1.mpr rfl),t,ht,rfl⟩
  | false=>exact .inl rfl
 .rw [if_neg hj];exact (P j).imp id fun ⟨h,t,ht,e⟩=>⟨N6 _ h,t,ht,e⟩
theorem mulB(c:Nat)(b:Bool):MulOk (one c) (if b=true then 1 else 0)/\Txt.mul (one c) (if b=true then 1 else 0)=if b=true then one c else Str.empty:=by
 cases b with
 | true=>exact ⟨⟨by decide,fun _ h=>(by cases h),fun _ h=>(by cases h)⟩,rfl⟩
 | false=>exact ⟨⟨by decide,fun h=>absurd (by decide) h,fun h=>absurd (by decide) h⟩,rfl⟩
noncomputable def vZ (w b:Bool) (tp:List Str) (p:Str):Prop:=p∈tp\/(w=true/\RunP p/\1<=p.length/\p.length<=3)\/b=true/\p=one 32
theorem amj:∀ p∈([Str.ofString "7",Str.ofString "12",Str.ofString "007",Str.ofString "0"]:List Str),RunP p/\1<=p.length/\p.length<=3:=by
 intro p hp;simp only [E4,Z6,or_false] at hp
 rcases hp with rfl | rfl | rfl | rfl <;> exact ⟨⟨by decide +kernel,by decide +kernel⟩,by decide +kernel,by decide +kernel⟩
theorem afg{k:Addr}{ts:List Addr}{o:HO}(h:RulesAt H0 H a ts R)(hk:H k=some (.lst xs))(hka:k≠a)(n:H0 k=none):RulesAt H0 (A0 H k o) a ts R:=by
 refine h.put (fun hm=>?_) n
 rcases E4.mp hm with e | e
 .exact hka e
 .obtain ⟨i,hi,e2⟩:=X7.mp e;obtain ⟨z,_,hz⟩:=Paired.at h.rows.row (i:=i) (a:=k) (by rw [G0 hi,e2]);rw [hk] at hz;cases hz
noncomputable def wA (w:Bool) (R:List Rl) (ks:List Str):Prop:=ks≠[]/\ks.length<=16/\∀ p∈ks,PcL w (F9 R) p/\p.length<=3/\p≠Str.ofString ""
noncomputable def amN:Sp:=fun vs H Q _=>∃ (n:Int),vs=[.int n]/\∀ (l r k:Addr) (ts:List Addr) (ls ms ks:List Str) (a f g x q o:Str) (b1 b2 b3:Bool) (H':Hp),Same H H'->H r=none->H k=none->H' l=some (.tup [.ref r,.ref k])->IsRules H' r ts (G3 ls ms a f g x q o b1 b2 b3)->Sh5 ls ms a f g x q o b1->
 H' k=some (.lst (ks.map V.str))->wA b1 (G3 ls ms a f g x q o b1 b2 b3) ks->Q (.ref l) H'
theorem Sh5.pks{a f g:Str}(h:Sh5 ls ms a f g x q o b1)(h0:ks≠[])(h1:ks.length<=16)(hk:∀ p∈ks,vZ b1 b2 (ls++(ms++[f,g,x,o])) p):wA b1 (G3 ls ms a f g x q o b1 b2 b3) ks:=by
 refine ⟨h0,h1,fun p hp=>?_⟩;have ne:∀ {p:Str},1<=p.length->p≠Str.ofString "":=fun h e=>by rw [e] at h;exact absurd h (by decide)
 rcases hk p hp with e | ⟨e1,e2,e3,e4⟩ | ⟨e1,e2⟩
 .have hl:1<=p.length/\p.length<=3:=by
   rcases h.on p e with ⟨c,rfl,_⟩ | ⟨c,d,rfl,_⟩
   .exact ⟨B5 1,(by decide:1<=3)⟩
   .exact ⟨(by decide:1<=2),(by decide:2<=3)⟩
  exact ⟨.inl (h.kin e),hl.2,ne hl.1⟩
 .exact ⟨.inr ⟨⟨e1,e2⟩,by lia⟩,e4,ne e3⟩
 .refine ⟨.inl ?_,by rw [e2];exact (by decide:1<=3),by rw [e2];exact ne (B5 1)⟩;unfold F9 Y1;rw [(vY ls ms a f g x q o b1 b2 b3).2.1,if_pos e1,e2,<- vN];exact M0 _ (D1.mpr rfl)
theorem amk(f:Str->V)(z:Str)(nd:ts.Nodup):dropK (A8 ts f) (Sum.inr z:C1)=A8 (ts.erase z) f:=by
 rw [List.Nodup.erase_eq_filter nd];unfold dropK A8;rw [List.filter_map]
 congr 1
 refine List.filter_congr fun t _=>?_
 show decide ((Sum.inr t:C1)≠Sum.inr z)=(t != z)
 by_cases h:t=z
 .subst h;simp
 .have:(t != z)=true:=by simpa using h
  rw [this];exact decide_eq_true (fun e=>h (Sum.inr.inj e))
noncomputable def KeyOf (R:List Rl) (L M:List Str) (z:Str):List Int:=keyF 4 (hasW R "behind") (U6 (stepY R L M) (cutF (hasW R "figures") (F9 R) z.cps.toList).2) z
noncomputable def LetOf (R:List Rl) (L M:List Str) (z:Str):List Int:=c9 (U6 (stepY R L M) (cutF (hasW R "figures") (F9 R) z.cps.toList).2)
structure OrdT(C:Addr)(H:Hp)(x:Addr)(R:List Rl)(L M:List Str):Prop where
 ord:∃ j ll ml md g,IsOrd C H x j ll ml md g R L M
 kn:(F9 R).length<=1000
 st:∀ y,(stepY R L M y).length<=15
theorem OrdT.same{x:Addr}(h:OrdT C H x R L M)(S:Same H H'):OrdT C H' x R L M:=
 let ⟨j,ll,ml,md,g,o⟩:=h.ord
 ⟨⟨j,ll,ml,md,g,o.same S⟩,h.kn,h.st⟩
noncomputable def TxtT (R:List Rl) (z:Str):Prop:=z.length<=500/\aO (hasW R "figures") (F9 R) z
theorem OrdT.key{x:Addr}(h:OrdT C H x R L M)(hz:TxtT R z)(q:∀ l H',H l=none->Same H H'->H' l=some (.lst ((KeyOf R L M z).map V.int))->Q (.ref l) H'):spKey C [V.ref x,V.str z,V.int (4:Nat)] H Q E0:=
 let ⟨j,ll,ml,md,g,o⟩:=h.ord
 ⟨x,j,ll,ml,md,z,4,g,R,L,M,rfl,by decide,o,h.kn,hz.1,hz.2,h.st,q⟩
theorem OrdT.lets{x:Addr}(h:OrdT C H x R L M)(hz:TxtT R z)(q:∀ l H',H l=none->Same H H'->H' l=some (.lst ((LetOf R L M z).map V.int))->Q (.ref l) H'):qK C [V.ref x,V.str z] H Q E0:=
 let ⟨j,ll,ml,md,g,o⟩:=h.ord
 ⟨x,j,ll,ml,md,z,g,R,L,M,rfl,o,h.kn,hz.1,hz.2,h.st,q⟩
noncomputable def cW (o d:Addr):List (Str×V):=putF "kept" (.ref d) (putF "order" (.ref o) [])
theorem wB(o d:Addr):(cW o d).lookup ("order" : Str)=some (V.ref o):=by
 unfold cW;rw [L7,if_neg (by decide +kernel),L7,if_pos rfl]
theorem cX(o d:Addr):(cW o d).lookup ("kept" : Str)=some (V.ref d):=by
 unfold cW;rw [L7,if_pos rfl]
theorem jB(o d:Addr){w:Str}(h1:w≠"kept")(h2:w≠"order"):(cW o d).lookup w=none:=by
 unfold cW;rw [L7,if_neg h1,L7,if_neg h2];rfl
structure IsShf(C2:Addr)(H:Hp)(s ds o d:Addr)(ks:List Str)(κ:Str->List Int)(ad:Str->Addr):Prop where
 ob:H s=some (.ins C2 ds (cW o d))
 kp:H d=some (.dK (A8 ks fun z=>.ref (ad z)))
 kl:∀ z∈ks,H (ad z)=some (.lst ((κ z).map V.int))
 nd:ks.Nodup
theorem IsShf.same{s o d:Addr}{κ:Str->List Int}{ad:Str->Addr}(h:IsShf C2 H s ds o d ks κ ad)(S:Same H H'):IsShf C2 H' s ds o d ks κ ad:=
 ⟨S _ _ h.ob,S _ _ h.kp,fun z hz=>S _ _ (h.kl z hz),h.nd⟩
theorem IsShf.put{s o d:Addr}{κ:Str->List Int}{ad:Str->Addr}(h:IsShf C2 H s ds o d ks κ ad){ad':Str->Addr}(nd:ks'.Nodup)(hk:∀ z∈ks',H (ad' z)=some (.lst ((κ z).map V.int))) :
  IsShf C2 (A0 H d (.dK (A8 ks' fun z=>.ref (ad' z)))) s ds o d ks' κ ad':=by
 refine ⟨?_,A2,fun z hz=>?_,nd⟩
 .rw [A3 (fun e=>by have:=h.ob;rw [e,h.kp] at this;cases this)];exact h.ob
 .rw [A3 (fun e=>by have:=hk z hz;rw [e,h.kp] at this;cases this)];exact hk z hz
theorem amO{ad:Str->Addr}(h:z∉ks):putK (A8 ks fun y=>V.ref (ad y)) (Sum.inr z:C1) (V.ref p)=A8 (ks++[z]) fun y=>V.ref (if y=z then p else ad y):=by
 rw [cJ _ h];refine U5 fun t _=>?_
 by_cases e:t=z
 .rw [if_pos e,if_pos e]
 .rw [if_neg e,if_neg e]
theorem keepP{P:Addr}{pos:Pos}(S:SameP P H H')(hT:TabOk H P pos qn){o:HO}(hb:H b=some o)(hn:∀ ps,o≠.tbl ps):H' b=some o:=
 S b o (fun e=>by
  rw [e] at hb
  rcases hT with h | ⟨c,h,_⟩
  .rw [hb] at h;exact hn _ (Option.some.inj h)
  .rw [hb] at h;exact hn _ (Option.some.inj h)) hb
theorem IsShf.keep{s o d:Addr}{κ:Str->List Int}{ad:Str->Addr}{P:Addr}{pos:Pos}(h:IsShf C2 H s ds o d ks κ ad)(S:SameP P H H')(hT:TabOk H P pos qn):IsShf C2 H' s ds o d ks κ ad:=
 ⟨keepP S hT h.ob (by intro ps e;cases e),keepP S hT h.kp (by intro ps e;cases e),fun z hz=>keepP S hT (h.kl z hz) (by intro ps e;cases e),h.nd⟩
noncomputable def wC (C2:Addr):Sp:=fun vs H Q _=>∃ (s ds o:Addr),vs=[.ref s,.ref o]/\H s=some (.ins C2 ds [])/\∀ d H',H d=none->SameBut s H H'->H' s=some (.ins C2 ds (cW o d))->H' d=some (.dK [])->Q .non H'
noncomputable def spPut (C C2:Addr):Sp:=fun vs H Q _=>∃ (s ds o d:Addr) (z:Str) (R:List Rl) (L M ks:List Str) (ad:Str->Addr),vs=[.ref s,.str z]/\IsShf C2 H s ds o d ks (KeyOf R L M) ad/\OrdT C H o R L M/\TxtT R z/\z∉ks/\ks.length<=100/\
 ∀ p H',H p=none->SameBut d H H'->IsShf C2 H' s ds o d (ks++[z]) (KeyOf R L M) (fun y=>if y=z then p else ad y)->Q .non H'
noncomputable def wD (C C2:Addr):Sp:=fun vs H Q _=>∃ (s ds o d:Addr) (z:Str) (R:List Rl) (L M ks:List Str) (ad:Str->Addr),vs=[.ref s,.str z]/\IsShf C2 H s ds o d ks (KeyOf R L M) ad/\OrdT C H o R L M/\TxtT R z/\z∈ks/\ks.length<=100/\
 ∀ H',SameBut d H H'->IsShf C2 H' s ds o d (ks.erase z) (KeyOf R L M) ad->Q .non H'
noncomputable def qT (C2 P:Addr) (pos:Pos) (qn:Str):Sp:=fun vs H Q _=>∃ (s ds o d:Addr) (ks:List Str) (κ:Str->List Int) (ad:Str->Addr),vs=[.ref s]/\IsShf C2 H s ds o d ks κ ad/\ks.length<64/\TabOk H P pos qn/\
 ∀ l H' (zs:List Str),H l=none->SameP P H H'->TabOk H' P pos qn->H' l=some (.lst (zs.map V.str))->zs.Perm ks->zs.Pairwise (fun x y=>¬ κ y<κ x)->Q (.ref l) H'
noncomputable def wE (C2:Addr):Sp:=fun vs H Q _=>∃ (s ds o d a:Addr) (ks:List Str) (κ:Str->List Int) (ad:Str->Addr) (ns:List Int),vs=[.ref s,.ref a]/\IsShf C2 H s ds o d ks κ ad/\H a=some (.lst (ns.map V.int))/\ks.length<=100/\
 ∀ t H' (b c:Nat),b=(ks.filter fun z=>decide (κ z<ns)).length->c=(ks.filter fun z=>decide ((κ z).take ns.length=ns)).length->Same H H'->H' t=some (.tup [.int b,.int ((b:Int)+c)])->Q (.ref t) H'
noncomputable def wF (C C2:Addr):Sp:=fun vs H Q _=>∃ (s ds o d:Addr) (z:Str) (R:List Rl) (L M ks:List Str) (ad:Str->Addr),vs=[.ref s,.str z]/\IsShf C2 H s ds o d ks (KeyOf R L M) ad/\OrdT C H o R L M/\TxtT R z/\ks.length<=100/\
 ∀ t H' (b c:Nat),b=(ks.filter fun y=>decide (KeyOf R L M y<LetOf R L M z)).length->c=(ks.filter fun y=>decide ((KeyOf R L M y).take (LetOf R L M z).length=LetOf R L M z)).length->Same H H'->H' t=some (.tup [.int b,.int ((b:Int)+c)])->Q (.ref t) H'
noncomputable def Kp (H H':Hp):Prop:=∀ b o,H b=some o->(∀ ps,o≠HO.tbl ps)->H' b=some o
theorem Kp.of(S:Same H H'):Kp H H':=fun b o e _=>S b o e
theorem Kp.tr(a:Kp H H1)(b:Kp H1 H2):Kp H H2:=fun x o e n=>b x o (a x o e n) n
theorem Kp.tab{P:Addr}{pos:Pos}(S:SameP P H H')(hT:TabOk H P pos qn):Kp H H':=fun _ _ e n=>keepP S hT e n
theorem Kp.but{d:Addr}(k:Kp H H1)(B:SameBut d H1 H2)(n:H d=none):Kp H H2:=fun b o e m=>B b o (fun q=>by rw [q,n] at e;cases e) (k b o e m)
theorem akG{d:Addr}{o:HO} : SameBut d H (A0 H d o):=fun b u hb e=>by rw [A3 hb];exact e
theorem OrdT.kp{x:Addr}(h:OrdT C H x R L M)(k:Kp H H'):OrdT C H' x R L M:=by
 obtain ⟨j,ll,ml,md,g,o⟩:=h.ord;obtain ⟨dx,e⟩:=o.ob;obtain ⟨ad,m1,m2⟩:=o.made;refine ⟨⟨j,ll,ml,md,g,⟨dx,k _ _ e (by intro ps q;cases q)⟩,k _ _ o.jobs (by intro ps q;cases q),k _ _ o.lets (by intro ps q;cases q),k _ _ o.mrks (by intro ps q;cases q),⟨ad,k _ _ m1 (by intro ps q;cases q),fun y hy=>?_⟩,o.l1,o.l2⟩,h.kn,h.st⟩;obtain ⟨ts,t1,t2⟩:=(m2 y hy).ex;exact ⟨ts,k _ _ t1 (by intro ps q;cases q),T3 t2 fun _ _ e=>k _ _ e (by intro ps q;cases q)⟩
theorem akH{P d:Addr}{pos:Pos}{u:HO}(hT:TabOk H P pos qn)(B:SameBut d H H')(hd:H d=some u)(n1:∀ ps,u≠HO.tbl ps)(n2:∀ φ,u≠HO.ext φ):TabOk H' P pos qn:=by
 rcases hT with h | ⟨c,h,h'⟩
 .exact .inl (B _ _ (fun e=>by rw [e,hd] at h;exact n1 _ (Option.some.inj h)) h)
 .exact .inr ⟨c,B _ _ (fun e=>by rw [e,hd] at h;exact n1 _ (Option.some.inj h)) h,B _ _ (fun e=>by rw [e,hd] at h';exact n2 _ (Option.some.inj h')) h'⟩
structure OnS(C2 P:Addr)(pos:Pos)(qn:Str)(H5 H:Hp)(s ds o d th c0:Addr)(cs:List Int)(ks:List Str)(κ:Str->List Int)(ad:Str->Addr)(zs:List Str):Prop where
 kp:Kp H5 H
 tb:TabOk H P pos qn
 sh:IsShf C2 H s ds o d ks κ ad
 tl:H th=some (.lst (ks.map V.str))
 ct:H c0=some (.lst (cs.map V.int))
 nt:∀ y∈ks,ad y≠th
 sub:∀ y∈ks,y∈zs
theorem OnS.kept{P:Addr}{pos:Pos}{s o d:Addr}{κ:Str->List Int}{ad:Str->Addr}(h:OnS C2 P pos qn H5 H s ds o d th c0 cs ks κ ad zs)(S:SameP P H H')(hT:TabOk H' P pos qn):OnS C2 P pos qn H5 H' s ds o d th c0 cs ks κ ad zs:=
 ⟨h.kp.tr (.tab S h.tb),hT,h.sh.keep S h.tb,keepP S h.tb h.tl (by intro ps e;cases e),keepP S h.tb h.ct (by intro ps e;cases e),h.nt,h.sub⟩
theorem OnS.deed{P:Addr}{pos:Pos}{s o d:Addr}{κ:Str->List Int}{ad ad':Str->Addr}(h:OnS C2 P pos qn H5 H s ds o d th c0 cs ks κ ad zs)(B:SameBut d H H')(sh:IsShf C2 H' s ds o d ks' κ ad')(nt:∀ y∈ks',ad' y≠th)(sub:∀ y∈ks',y∈zs)(n1:H5 d=none)(n2:H5 th=none)(n3:c0≠th) :
  H' th=some (.lst (ks.map V.str))/\OnS C2 P pos qn H5 (A0 H' th (.lst (ks'.map V.str))) s ds o d th c0 cs ks' κ ad' zs:=by
 have hth:th≠d:=fun e=>by have:=h.tl;rw [e,h.sh.kp] at this;cases this
 have hct:c0≠d:=fun e=>by have:=h.ct;rw [e,h.sh.kp] at this;cases this
 have th':=B _ _ hth h.tl;refine ⟨th',(h.kp.but B n1).but akG n2,akH (akH h.tb B h.sh.kp (by intro ps e;cases e) (by intro ps e;cases e)) akG th' (by intro ps e;cases e) (by intro ps e;cases e),⟨?_,?_,fun y hy=>?_,sh.nd⟩,A2,?_,nt,sub⟩
 .rw [A3 (fun e=>by have:=sh.ob;rw [e,th'] at this;cases this)];exact sh.ob
 .rw [A3 hth.symm];exact sh.kp
 .rw [A3 (nt y hy)];exact sh.kl y hy
 .rw [A3 n3];exact B _ _ hct h.ct
noncomputable def qU (ks:List Str) (n:Nat) (z:Str):Prop:=∃ ps:List Str,(∀ p∈ps,p∈ks)/\ps.length<=n/\z.cps.toList=flatP ps
theorem Sh5.txt{a f g:Str}(h:Sh5 ls ms a f g x q o b1)(hP:wA b1 (G3 ls ms a f g x q o b1 b2 b3) ks)(hz:qU ks n z)(hn:n<=100):TxtT (G3 ls ms a f g x q o b1 b2 b3) z:=by
 obtain ⟨ps,h1,h2,h3⟩:=hz;have hl:(flatP ps).length<=3*ps.length:=by
  clear h2 h3
  induction ps with
  | nil=>exact B5 _
  | cons p ps ih=>
   have:=ih fun q hq=>h1 q (M3 _ hq)
   have:=(hP.2.2 p (h1 p L5)).2.1
   rw [iV,C8,lenL,G6];lia
 refine ⟨by rw [<- lenL,h3];lia,?_⟩;rw [(vY ls ms a f g x q o b1 b2 b3).1];exact h.whole h3 fun p hp=>(hP.2.2 p (h1 p hp)).1.imp id And.left
theorem wG(h:ms≠[])(k:Int):0<(ms.length:Int)/\∃ p∈ms,K7 (ms.map V.str) (k % (ms.length:Int))=some (V.str p):=by
 have hl:0<ms.length:=List.length_pos_iff.mpr h;have h0:0<=k % (ms.length:Int):=gY _ (by lia);have h1:k % (ms.length:Int)<(ms.length:Int):=gX _ (by lia);have hi:(k % (ms.length:Int)).toNat<ms.length:=by lia
 refine ⟨by lia,ms[(k % (ms.length:Int)).toNat],gP hi,?_⟩
 have:=G7 (xs:=ms.map V.str) (j:=(k % (ms.length:Int)).toNat) (v:=V.str ms[(k % (ms.length:Int)).toNat]) (by rw [O1,G0 hi];rfl)
 rw [show (((k % (ms.length:Int)).toNat:Nat):Int)=k % (ms.length:Int) by lia] at this;exact this
theorem aiV(h:∀ u∈U,EltOk u):∀ v∈c9 U,0<v:=by
 intro v hv;obtain ⟨u,hu,h1⟩:=g8.mp hv;have o:=h u hu;have o1:=o.2.1;unfold b9 at h1
 split at h1
 .rw [D1.mp h1];decide
 .split at h1
  .rcases E4.mp h1 with e | e
   .rw [e];decide
   .rw [D1.mp e];lia
  .rw [D1.mp h1];lia
theorem amP{rest:List Int} : ∀ {L M:List Int},(∀ v∈M,0<v)->((L++0::rest)<M↔L<M)
 | [],[],_=>by simp
 | [],m::ms,h=>by
  have:=h m L5
  simp [Z3,this]
 | x::L,[],_=>by simp
 | x::L,m::ms,h=>by
  rw [dU,Z3,Z3,amP fun v hv=>h v (M3 _ hv)]
theorem aij{rest:List Int} : ∀ {L M:List Int},(∀ v∈M,0<v)->((L++0::rest).take M.length=M↔L.take M.length=M)
 | L,[],_=>by simp
 | [],m::ms,h=>by
  have:=h m L5
  rw [bS,G6,gH,List.take_nil]
  constructor
  .intro e;have:=(X8.inj e).1;lia
  .intro e;cases e
 | x::L,m::ms,h=>by
  rw [dU,G6,gH,gH,X8.injEq,X8.injEq,aij fun v hv=>h v (M3 _ hv)]
theorem amQ:∀ {a b M:List Int},a<b->b.take M.length=M->a<M\/a.take M.length=M
 | a,b,[],_,_=>.inr (by simp)
 | a,[],m::ms,_,h=>by simp at h
 | [],b::bs,m::ms,_,_=>.inl (by simp)
 | a::as,b::bs,m::ms,h,e=>by
  rw [G6,gH,X8.injEq] at e;rw [Z3] at h
  rcases h with h | ⟨h1,h2⟩
  .left;rw [Z3];left;lia
  .rcases amQ h2 e.2 with q | q
   .left;rw [Z3];right;exact ⟨by lia,q⟩
   .right;rw [G6,gH,q,h1,e.1]
theorem qV:∀ {a M:List Int},a.take M.length=M->¬ a<M
 | a,[],_=>by simp
 | [],m::ms,h=>by simp at h
 | a::as,m::ms,h=>by
  rw [G6,gH,X8.injEq] at h;rw [Z3];rintro (q | ⟨_,q⟩)
  .lia
  .exact qV h.2 q
theorem wH{α:Type}{p:α->Bool} : ∀ {zs:List α},zs.Pairwise (fun x y=>p y=true->p x=true)->∀ {k:Nat} {z:α},zs[k]?=some z->(p z=true↔k<(zs.filter p).length)
 | [],_,k,z,h=>by simp at h
 | x::xs,pw,k,z,h=>by
  rw [List.pairwise_cons] at pw
  by_cases hx:p x=true
  .rw [bQ hx,G6]
   cases k with
   | zero=>simp only [List.getElem?_cons_zero,Option.some.injEq] at h;subst h;simp [hx]
   | succ k=>rw [List.getElem?_cons_succ] at h;rw [wH pw.2 h];lia
  .have e:xs.filter p=[]:=oG.mpr fun y hy q=>hx (pw.1 y hy q)
   rw [aA hx,e];have hz:p z≠true:=by
    cases k with
    | zero=>simp only [List.getElem?_cons_zero,Option.some.injEq] at h;rw [<- h];exact hx
    | succ k=>rw [List.getElem?_cons_succ] at h;exact fun q=>hx (pw.1 z (K4 h) q)
   simp [hz]
theorem wI{α:Type}{p q:α->Bool}(h:∀ x,p x=true->q x=true->False):∀ xs:List α,(xs.filter fun x=>p x || q x).length=(xs.filter p).length+(xs.filter q).length
 | []=>rfl
 | x::xs=>by
  have ih:=wI h xs;rw [gQ,gQ,gQ];cases hp:p x <;> cases hq:q x <;> simp [ih] <;> first | lia | exact absurd hq (by intro hq;exact h x hp hq)
theorem aiW{α:Type}{κ lt:α->List Int}{zs ks:List α}{M:List Int}(hM:∀ v∈M,0<v)(hk:∀ z,∃ rest,κ z=lt z++0::rest)(pm:zs.Perm ks)(pw:zs.Pairwise fun x y=>¬ κ y<κ x){z:α}(hz:zs[k]?=some z) :
  (lt z<M↔k<(ks.filter fun z=>decide (κ z<M)).length)/\((lt z).take M.length=M↔(ks.filter fun z=>decide (κ z<M)).length<=k/\k<(ks.filter fun z=>decide (κ z<M)).length+(ks.filter fun z=>decide ((κ z).take M.length=M)).length):=by
 obtain ⟨rest,e⟩:=hk z;have a1:κ z<M↔lt z<M:=by rw [e];exact amP hM
 have a2:(κ z).take M.length=M↔(lt z).take M.length=M:=by rw [e];exact aij hM
 have c1:=wH (p:=fun z=>decide (κ z<M)) (pw.imp fun {x y} h q=>by
  rw [decide_eq_true_eq] at q ⊢
  rcases qO (κ x) (κ y) with t | t | t
  .rw [t];exact q
  .exact qP t q
  .exact absurd t h) hz
 have c2:=wH (p:=fun z=>decide (κ z<M) || decide ((κ z).take M.length=M)) (pw.imp fun {x y} h q=>by
  rw [Bool.or_eq_true,decide_eq_true_eq,decide_eq_true_eq] at q ⊢
  rcases qO (κ x) (κ y) with t | t | t
  .rw [t];exact q
  .rcases q with q | q
   .exact .inl (qP t q)
   .exact amQ t q
  .exact absurd t h) hz
 rw [(pm.filter _).length_eq] at c1 c2;rw [wI (fun x h1 h2=>qV (of_decide_eq_true h2) (of_decide_eq_true h1))] at c2;rw [decide_eq_true_eq,a1] at c1;rw [Bool.or_eq_true,decide_eq_true_eq,decide_eq_true_eq,a1,a2] at c2;refine ⟨c1,?_⟩;have ne:(lt z).take M.length=M->¬ lt z<M:=qV
 constructor
 .intro h;have h1:=mt c1.mpr (ne h);have h2:=c2.mp (.inr h);exact ⟨by lia,h2⟩
 .rintro ⟨h1,h2⟩
  rcases c2.mpr h2 with q | q
  .have:=c1.mp q;lia
  .exact q
theorem aou(R:List Rl)(L M:List Str)(z:Str):∃ rest,KeyOf R L M z=LetOf R L M z++0::rest:=by
 unfold KeyOf LetOf keyF iW;generalize U6 (stepY R L M) (cutF (hasW R "figures") (F9 R) z.cps.toList).2=U;exact ⟨[j3 (if hasW R "behind"=true then U.reverse else U),U.map fun u=>u.2.2.2+1,z.cps.toList.map fun c:Nat=>(c:Int)].flatMap fun l=>l++[0],by
  show (c9 U++[0])++_=_;rw [W8];rfl⟩
theorem akL(R:List Rl)(L M:List Str)(z:Str):∀ v∈LetOf R L M z,0<v:=aiV (al7 (al6 (R:=R) (L:=L) (M:=M)) _)
structure RwI(H H':Hp)(l:Addr)(rs:List Addr)(pss:List (List Str))(ks:List Str)(n:Nat):Prop where
 same:Same H H'
 new:H l=none
 top:H' l=some (.lst (rs.map V.ref))
 row:Paired (fun r ps=>H' r=some (.lst (ps.map V.str))) rs pss
 nl:l∉rs
 ok:∀ ps∈pss,(∀ p∈ps,p∈ks)/\ps.length<=n
theorem RwI.push{H'':Hp}{l:Addr}{pss:List (List Str)}(h:RwI H H' l rs pss ks n)(S:Same H' H'')(hr:H'' r=some (.lst (ps.map V.str)))(y9:l≠r)(hn:n<=n')(hp:∀ p∈ps,p∈ks)(hl:ps.length<=n') :
  RwI H (A0 H'' l (.lst (rs.map V.ref++[V.ref r]))) l (rs++[r]) (pss++[ps]) ks n':=by
 refine ⟨(h.same.trans S).put h.new,h.new,by rw [A2,D6];rfl,Paired.snoc (eG h.row fun x hx y hy=>?_) ?_,?_,fun qs hq=>?_⟩
 .rw [A3 (fun e=>h.nl (by rw [<- e];exact hx))];exact S _ _ hy
 .rw [A3 y9.symm];exact hr
 .rw [D4,D1];exact fun z=>z.elim h.nl y9
 .rcases D4.mp hq with e | e
  .have:=h.ok qs e;exact ⟨this.1,by lia⟩
  .rw [D1.mp e];exact ⟨hp,hl⟩
noncomputable def aik (K:PySem.W.Frag):Sp:=fun vs H Q _=>∃ (a:Addr) (ns:List Int),vs=[.ref a]/\H a=some (.lst (ns.map V.int))/\(∀ v∈ns,0<v)/\Q (.bl true) H
noncomputable def ail (C C2 P:Addr) (pos:Pos) (qn:Str):Sp:=fun vs H Q _=>∃ (D s1 ds o d:Addr) (z:Str) (R:List Rl) (L M ks ps:List Str) (ad ld:Str->Addr),vs=[.ref D,.ref s1,.str z]/\IsShf C2 H s1 ds o d ks (KeyOf R L M) ad/\OrdT C H o R L M/\TxtT R z/\H D=some (.dK (A8 ps fun y=>.ref (ld y)))/\(∀ y∈ps,H (ld y)=some (.lst ((LetOf R L M y).map V.int)))/\z∈ps/\(∀ y∈ks,y∈ps)/\ks.length<64/\TabOk H P pos qn/\
 ∀ H',SameP P H H'->TabOk H' P pos qn->Q (.bl true) H'
noncomputable def aim (K:PySem.W.Frag):Sp:=fun vs H Q _=>∃ (a k:Addr) (ns:List Int) (ks:List Str),vs=[.ref a,.ref k]/\C7 K H a (ns.map V.int)/\H k=some (.lst (ks.map V.str))/\ks≠[]/\ks.length<=16/\(∀ p∈ks,p.length<=3)/\
 ∀ l H' (zs:List Str),H l=none->Same H H'->H' l=some (.lst (zs.map V.str))->zs≠[]->zs.length<=11->zs.Nodup->(∀ z∈zs,qU ks 30 z)->Q (.ref l) H'
noncomputable def qW (K:PySem.W.Frag) (ts:List Addr):Sp:=fun vs H Q _=>∃ (a:Addr) (ns:List Int),vs=[.ref a]/\C7 K H a (ns.map V.int)/\ns.length<=63/\(∀ t∈ts,H t=some (.tbl #[]))/\∀ H',Q (.bl true) H'
section
variable {P:Program} {w:World} {K:PySem.W.Frag} {mg:Str->Option Value} {base:Heap} {C:Addr} {C_Shelf:Addr}
variable {tabs:List (Addr×Addr)} {cl_Shelf_texts pt_Shelf_texts:Addr}
theorem sc_told:FnScope ["rows", "seen", "row", "piece"] ["rows"] (C3 v9):=G2
abbrev VS(N:List Str)(s:Stmt)(x:Str)(n:Nat):Prop:=∀ {X:Cx} {pos:Pos},X.N=N->X.env.scope=C3 s->QE X (.Name x pos) (tVar n)
theorem vq{s:Stmt}(h:(decide (N[n]?=some x)&&visB (C3 s) x && !(x==("__debug__" : Str)) && !(x==("__classdict__" : Str)))=true:=by decide +kernel):VS N s x n:=fun hN hs=>qvd hN hs h
theorem vi{s:Stmt}{pos:Pos}(h:VS N s x n)(h1:X.N=N:=by rfl)(h2:X.env.scope=C3 s:=by rfl):QE X (.Name x pos) (tVar n):=h h1 h2
abbrev LS(s:Stmt)(x:Str):Prop:=k9 (C3 s) x
theorem lq{s:Stmt}(h:(C3 s).names.lookup x=some .local\/(C3 s).names.lookup x=some .cell:=by decide +kernel):LS s x:=h
abbrev qX:List Str:=["rows", "seen", "row", "piece"]
theorem vaa:VS qX v9 "rows" 0:=vq
theorem vab:VS qX v9 "seen" 1:=vq
theorem vac:VS qX v9 "row" 2:=vq
theorem vad:VS qX v9 "piece" 3:=vq
theorem vae:LS v9 "seen":=lq
theorem vaf:LS v9 "row":=lq
theorem vag:LS v9 "piece":=lq
theorem aov(F:FunD K "told" "told" v9 f fd)(T:Txt P w K mg C C_Shelf):FnOk P w K mg base D9 1 f fd ["rows"] amD:=by
 refine F.ok sc_told ?_ ?_
 .rintro _ _ _ _ ⟨a,rs,zss,rfl,_⟩;rfl
 .intro cdv A outer s H vs Q E hr h;have C5:=hu_of hr;have hu:=hr.units;refine ⟨_,QSs.out (A6 (D3 (n:=1) sc_told.nd rfl vae cE)
   (A6 (N2 PassesOwn.never (O7 (K:=K) (vi vaa)) (D5 (n:=2) sc_told.nd rfl vaf (.inl rfl)) (A7 (N2 PassesOwn.never (O7 (K:=K) (vi vac)) (D5 (n:=3) sc_told.nd rfl vag (.inl rfl)) (A7 (l8 C5 (vi vab) (vi vad) qe_bl)))))
   (A7 (D8 (qe_cT (pQ (K:=K) (calm:=true)) T.b_list lA (qa_c (vi vab) A1)))))),?_⟩
  obtain ⟨a,rs,zss,rfl,hR,hz,q⟩:=h;walk_at "rd";intro d nd;have hlz:∀ n:Nat,n<=100000->n<sizeLine:=fun n h=>G5 (by lia)
  refine ⟨⟨_,.of (C9 hR.top nd)⟩,forL (xs:=rs.map V.ref) (fun i O H2=>∃ (u v:Option V),O=[some (.ref a),some (.ref d),u,v]/\Same H H2/\H2 d=some (.dK (kvOf (toldL (zss.take i)))))
   ⟨none,none,rfl,Same.new nd,by rw [A2];rfl⟩ (by rintro i O H2 _ ⟨_,_,_,S,_⟩;exact .of (S _ _ hR.top)) ?_ ?_⟩
  .rintro i x O H2 hx ⟨u,v,rfl,S,hd⟩;obtain ⟨r,hr,rfl⟩:=G9 hx;obtain ⟨zs,jQ,D7⟩:=Paired.at hR.row hr;have hcount:(toldL (zss.take i)).length+zs.length<=100000:=by
    have h1:zss.take (i+1)=zss.take i++[zs]:=by rw [g6,jQ];rfl
    have h2:=lC (zss.take i);have h3:(zss.take (i+1)).flatten.length<=zss.flatten.length:=by
     conv=>rhs;rw [<- j9 (i+1) zss]
     rw [List.flatten_append,C8];lia
    rw [h1,List.flatten_append,C8] at h3;simp at h3;simp at h2 hz h3 ⊢
    lia
   walk_at "rd";refine ⟨⟨_,.of (S _ _ D7)⟩,forL (xs:=zs.map V.str) (fun j O H3=>∃ (v:Option V),O=[some (.ref a),some (.ref d),some (.ref r),v]/\Same H H3/\H3 d=some (.dK (kvOf (G8 (toldL (zss.take i)) (zs.take j)))))
    ⟨v,rfl,S,hd⟩ (by rintro j O H3 _ ⟨_,_,S3,_⟩;exact .of (S3 _ _ D7)) ?_ ?_⟩
   .rintro j y O H3 hy ⟨v,rfl,S3,X6⟩;obtain ⟨z,zA,rfl⟩:=G9 hy;walk_at "rd";refine ⟨_,v4 (k:=Sum.inr z) X6 ?_,S3.put nd,?_⟩
    .unfold kvOf;rw [A4];refine hlz _ ?_
     have:=lB (zs.take j) (toldL (zss.take i))
     rw [L0] at this;lia
    .rw [A2,agk,alB zA]
   .rintro O H3 ⟨v,rfl,S3,X6⟩;walk_at "rd";refine ⟨S3,?_⟩;rw [X6,ajH jQ,A4,K9]
  .rintro O H2 ⟨u,v,rfl,S,hd⟩;walk_at "rd";refine rListR.d (.of hd) fun l nl=>?_
   refine q l _ (S.free nl) (fun b o h=>C9 (S b o h) nl) ?_;rw [A2,ajI,A4];rw [show rs.length=zss.length from Paired.length hR.row,K9]
theorem sc_followers:FnScope ["rows", "after", "piece", "row", "one", "other"] ["rows"] (C3 Y3):=G2
abbrev jC:List Str:=["rows", "after", "piece", "row", "one", "other"]
theorem vah:VS jC Y3 "rows" 0:=vq
theorem wJ:VS jC Y3 "after" 1:=vq
theorem vaj:VS jC Y3 "piece" 2:=vq
theorem vak:VS jC Y3 "row" 3:=vq
theorem vam:VS jC Y3 "one" 4:=vq
theorem van:VS jC Y3 "other" 5:=vq
theorem vao:LS Y3 "after":=lq
theorem vap:LS Y3 "piece":=lq
theorem vaq:LS Y3 "row":=lq
theorem var:LS Y3 "one":=lq
theorem vas:LS Y3 "other":=lq
theorem agR(F:FunD K "followers" "followers" Y3 f fd)(T:Txt P w K mg C C_Shelf)(G_told:FO P w K mg base 1 "told" ["rows"] [] amD):FnOk P w K mg base D9 2 f fd ["rows"] spFol:=by
 refine F.ok sc_followers ?_ ?_
 .rintro _ _ _ _ ⟨a,rs,zss,rfl,_⟩;rfl
 .intro cdv A outer s H vs Q E hr h;have C5:=hu_of hr;have hu:=hr.units;refine ⟨_,QSs.out (A6 (D3 (n:=1) sc_followers.nd rfl vao cE)
   (A6 (N2 PassesOwn.never (O7 (K:=K) (E8 G_told (hm hr) (qa_c (vi vah) A1))) (D5 (n:=2) sc_followers.nd rfl vap (.inl rfl)) (A7 (l8 C5 (vi wJ) (vi vaj) (N1 A1))))
   (A6 (N2 PassesOwn.never (O7 (K:=K) (vi vah)) (D5 (n:=3) sc_followers.nd rfl vaq (.inl rfl)) (A7 (N2 PassesOwn.never (aqL T.b_zip (qa_c (vi vak) (qa_c (T4 (K:=K) (vi vak) (O6 A5) Z9) A1))) (cH (K:=K) (n:=2) (T6 ((D5 (n:=4) sc_followers.nd rfl var (.inl rfl))) (T6 ((D5 (n:=5) sc_followers.nd rfl vas (.inl rfl))) cG))) (A7 (L9 (qe_mB (K:=K) O3 R9 R8 T7 (X1 C5 (vi wJ) (vi vam)) (qa_c (vi van) A1)))))))
   (A7 (D8 (vi wJ)))))),?_⟩
  obtain ⟨a,rs,zss,rfl,hR,hz,q⟩:=h;walk_at "rd";intro d nd;have S0:Same H (A0 H d (.dK [])):=Same.new nd;refine ⟨a,rs,zss,rfl,hR.same S0,hz,fun l H1 nl S1 hl=>?_⟩;have zB:H1 d=some (.dK []):=S1 _ _ A2;have S01:=S0.trans S1;have A9:(toldL zss).length<=100000:=K6 (lC zss) hz;have tnd:=iM zss;refine ⟨l,rfl,⟨_,.of hl⟩,forL (xs:=(toldL zss).map V.str) (fun i O H2=>∃ (u v w x:Option V) (ad:Str->Addr),O=[some (.ref a),some (.ref d),u,v,w,x]/\SameBut d H1 H2/\H2 d=some (.dK (A8 ((toldL zss).take i) fun t=>.ref (ad t)))/\DL H1 H2 ((toldL zss).take i) ad fun _=>[])
   ⟨none,none,none,none,fun _=>0,rfl,SameBut.refl _ _,zB,⟨fun t h=>by simp at h,fun t h=>by simp at h,fun t h=>by simp at h⟩⟩ (fun i O H2 _ ⟨_,_,_,_,_,_,S,_⟩=>.of (S _ _ (fun e=>by rw [e,zB] at hl;cases hl) hl)) ?_ ?_⟩
  .rintro i x O H2 hx ⟨u,v,w,y,ad,rfl,S,hd,dl⟩;obtain ⟨z,hk,rfl⟩:=G9 hx;have hi:i<(toldL zss).length:=(F6.mp hk).1;have O9:=uN tnd hk;walk_at "rd";refine fun p np=>⟨_,v4 (k:=Sum.inr z) (C9 hd np) (by rw [Q7,L0];exact G5 (by lia)),?_⟩
   have n1:H1 p=none:=S.free np (fun e=>by rw [e,hd] at np;cases np);refine ⟨(S.put n1).at,fun t=>if t=z then p else ad t,?_,?_⟩
   .rw [A2,cJ _ O9,J7 hk];have e:(fun t=>if t=z then V.ref p else V.ref (ad t))=fun t=>V.ref (if t=z then p else ad t):=by funext t;split <;> rfl
    rw [e]
   .rw [J7 hk];exact ((dl.more O9 np n1).congr fun t _=>by split <;> rfl).put zB
  .rintro O H2 ⟨u,v,w,y,ad,rfl,S,hd,dl⟩;rw [A4,K9] at hd dl;have S2:Same H H2:=S.same S01 nd;walk_at "rd";have dl0:DL H H2 (toldL zss) ad fun _=>[]:=dl.old S01
   refine ⟨⟨_,.of (S2 _ _ hR.top)⟩,forL (xs:=rs.map V.ref) (fun i O H3=>∃ (v w x:Option V),O=[some (.ref a),some (.ref d),u,v,w,x]/\Same H H3/\H3 d=some (.dK (A8 (toldL zss) fun t=>.ref (ad t)))/\DL H H3 (toldL zss) ad (E9 (edges (zss.take i))))
    ⟨v,w,y,rfl,S2,hd,dl0⟩ (by rintro i O H3 _ ⟨_,_,_,_,S,_⟩;exact .of (S _ _ hR.top)) ?_ ?_⟩
   .rintro i x O H3 hx ⟨v,w,y,rfl,S3,X6,z8⟩;obtain ⟨r,hr,rfl⟩:=G9 hx;obtain ⟨zs,jQ,D7⟩:=Paired.at hR.row hr;have dI:=S3 _ _ D7;have L4:∀ x∈zs,x∈toldL zss:=fun x hx=>(uL _ _).mpr (List.mem_flatten.mpr ⟨zs,K4 jQ,hx⟩)
    walk_at "rd";refine rSlR.l (.of dI) fun p np=>?_
    have ecut:cutV (zs.map V.str) (some 1) none=zs.tail.map V.str:=by
     have:=eN (zs.map V.str) 1
     rw [show ((1:Nat):Int)=1 from rfl] at this;rw [this,<- List.map_drop,List.drop_one]
    rw [ecut];have np0:H p=none:=S3.free np;have nad:∀ t∈toldL zss,ad t≠p:=fun t ht e=>by have:=z8.row t ht;rw [e,np] at this;cases this
    have nadr:∀ t∈toldL zss,ad t≠r:=fun t ht e=>by have:=z8.new t ht;rw [e,D7] at this;cases this
    have ndp:d≠p:=fun e=>by rw [<- e,X6] at np;cases np
    have nadd:∀ t∈toldL zss,ad t≠d:=fun t ht e=>by have:=z8.row t ht;rw [e,X6] at this;cases this
    refine ⟨p,rfl,⟨_,C9 dI np⟩,⟨_,A2⟩,forZ (xs:=zs.map V.str) (ys:=zs.tail.map V.str) (fun j O H4=>∃ (w x:Option V),O=[some (.ref a),some (.ref d),u,some (.ref r),w,x]/\Same H H4/\H4 p=some (.lst (zs.tail.map V.str))/\H4 d=some (.dK (A8 (toldL zss) fun t=>.ref (ad t)))/\DL H H4 (toldL zss) ad (E9 (edges (zss.take i)++(U4 zs).take j)))
     ⟨w,y,rfl,S3.put np0,A2,C9 X6 np,?_⟩ (by rintro j O H4 ⟨_,_,_,S,hp,_⟩;exact ⟨S _ _ D7,hp⟩) ?_ ?_⟩
    .rw [bT,N3];exact z8.same (Same.new np)
    .rintro j xv yv t O H4 rX hyv ⟨w,v,rfl,S4,bE,Z0,jR⟩ nt;obtain ⟨x,hx,rfl⟩:=G9 rX;obtain ⟨y,hy,rfl⟩:=G9 hyv;have jS:=L4 x (K4 hx);have nt0:H t=none:=S4.free nt;have hlx:=jR.row x jS;have hE:(U4 zs)[j]?=some (x,y):=ags hx hy;walk_at "rd";refine ⟨_,.of A2,rfl,_,_,rfl,_,_,rfl,rfl,V.ref (ad x),.inl ⟨_,Sum.inr x,.inl (C9 Z0 nt),rfl,by rw [N8,if_pos jS]⟩,N7 (C9 hlx nt),appOk (C9 hlx nt) ?_ ⟨(S4.put nt0).put (jR.new x jS),?_,?_,?_⟩⟩
     .rw [A4];refine G5 ?_;have h1:(E9 (edges (zss.take i)++(U4 zs).take j) x).length<=(edges (zss.take i)++(U4 zs).take j).length:=by
       unfold E9;rw [A4];exact oH _ _
      have h2:=agt (zss.take i);have h3:(zss.take i).flatten.length<=zss.flatten.length:=by
       conv=>rhs;rw [<- j9 i zss]
       rw [List.flatten_append,C8];lia
      have h4:zs.length<=zss.flatten.length:=List.Sublist.length_le (List.sublist_flatten_of_mem (K4 jQ));rw [C8,L0,uM] at h1;lia
     .rw [A3 (nad x jS).symm];exact C9 bE nt
     .rw [A3 (nadd x jS).symm];exact C9 Z0 nt
     .have h1:=(jR.same (Same.new (u:=.tup [V.str x,V.str y]) nt)).app jS (E9 (edges (zss.take i)++(U4 zs).take j) x++[y]);rw [D6] at h1;refine h1.congr fun t _=>?_
      rw [J7 hE,<- W8,alN]
      by_cases e:t=x
      .rw [if_pos e,if_pos e.symm,e]
      .rw [if_neg e,if_neg (fun z=>e z.symm)]
    .rintro O H4 ⟨w,x,rfl,S4,bE,Z0,jR⟩;walk_at "rd";refine ⟨S4,Z0,?_⟩;rw [aiF jQ];rw [p9 (l:=U4 zs) (by rw [uM,A4,A4];exact B5 _)] at jR;exact jR
   .rintro O H3 ⟨v,w,y,rfl,S3,X6,z8⟩;rw [A4,show rs.length=zss.length from Paired.length hR.row,K9] at z8;walk_at "rd";exact q d ad H3 nd S3 X6 z8
theorem sc_count_ahead:FnScope ["after", "ahead", "piece", "other"] ["after"] (C3 w5):=G2
abbrev qY:List Str:=["after", "ahead", "piece", "other"]
theorem wK:VS qY w5 "after" 0:=vq
theorem wL:VS qY w5 "ahead" 1:=vq
theorem vav:VS qY w5 "piece" 2:=vq
theorem vaw:VS qY w5 "other" 3:=vq
theorem vax:LS w5 "ahead":=lq
theorem vay:LS w5 "piece":=lq
theorem vaz:LS w5 "other":=lq
theorem aeH(F:FunD K "count_ahead" "count_ahead" w5 f fd)(T:Txt P w K mg C C_Shelf):FnOk P w K mg base D9 1 f fd ["after"] ajV:=by
 refine F.ok sc_count_ahead ?_ ?_
 .rintro _ _ _ _ ⟨d,ts,ad,E,rfl,_⟩;rfl
 .intro cdv A outer s H vs Q E hr h;have C5:=hu_of hr;have hu:=hr.units;refine ⟨_,QSs.out (A6 (D3 (n:=1) sc_count_ahead.nd rfl vax cE)
   (A6 (uI PassesOwn.never (vi wK) (D5 (n:=2) sc_count_ahead.nd rfl vay (.inl rfl)) (A7 (l8 C5 (vi wL) (vi vav) A5)))
   (A6 (uI PassesOwn.never (vi wK) (D5 (n:=2) sc_count_ahead.nd rfl vay (.inl rfl)) (A7 (N2 PassesOwn.never (O7 (K:=K) (X1 C5 (vi wK) (vi vav))) (D5 (n:=3) sc_count_ahead.nd rfl vaz (.inl rfl)) (A7 (ajJ C5 (vi wL) (vi vaw) A5 aqE)))))
   (A7 (D8 (vi wL)))))),?_⟩
  obtain ⟨d,ts,ad,E,rfl,hd,tnd,A9,hElen,D7,hE,q⟩:=h;walk_at "rd";intro c nc;have ndc:d≠c:=fun e=>by rw [e,nc] at hd;cases hd
  refine ⟨_,C9 hd nc,fun o=>forD (fun i O H2=>∃ (u v:Option V),O=[some (.ref d),some (.ref c),u,v]/\H2 d=some (.frz o (.dK (A8 ts fun t=>.ref (ad t))))/\SameBut d H H2/\H2 c=some (.dK (A8 (ts.take i) fun _=>.int 0)))
   ⟨none,none,rfl,A2,(SameBut.put (SameBut.refl _ _) nc).at,by rw [A3 ndc.symm,A2];rfl⟩ (by rintro i O H2 ⟨_,_,_,h,_⟩;exact h) ?_ ?_⟩
  .rintro i k v O H2 hk ⟨u,w,rfl,hf,S,hc⟩;obtain ⟨t,ht,rfl,rfl⟩:=pX hk;have hi:i<ts.length:=(F6.mp ht).1;walk_at "rd";refine ⟨_,v4 (k:=Sum.inr t) hc (by rw [Q7,L0];exact G5 (by lia)),?_,S.put nc,?_⟩
   .rw [A3 ndc];exact hf
   .rw [A2,cJ _ (uN tnd ht),J7 ht];exact congrArg (fun x=>some (HO.dK x)) (U5 fun t _=>by split <;> rfl)
  .rintro O H2 ⟨u,w,rfl,hf,S,hc⟩;rw [Q7,K9] at hc;have S2:Same H (A0 H2 d (.dK (A8 ts fun t=>.ref (ad t)))):=S.thaw hd;have Q3:A0 H2 d (.dK (A8 ts fun t=>.ref (ad t))) d=some (.dK (A8 ts fun t=>.ref (ad t))):=A2;have P8:A0 H2 d (.dK (A8 ts fun t=>.ref (ad t))) c=some (.dK (A8 ts fun _=>.int 0)):=by rw [A3 ndc.symm];exact hc
   generalize A0 H2 d (.dK (A8 ts fun t=>.ref (ad t)))=H3 at S2 Q3 P8;walk_at "rd";refine ⟨_,Q3,fun o=>forD (fun i O H4=>∃ (u v:Option V),O=[some (.ref d),some (.ref c),u,v]/\H4 d=some (.frz o (.dK (A8 ts fun t=>.ref (ad t))))/\SameBut d H H4/\H4 c=some (.dK (A8 ts fun t=>.int (cntIn E (ts.take i) t:Nat))))
    ⟨u,w,rfl,A2,fun b o hb h=>by rw [A3 hb];exact S2 b o h,?_⟩ (by rintro i O H2 ⟨_,_,_,h,_⟩;exact h) ?_ ?_⟩
   .rw [A3 ndc.symm,P8];exact congrArg (fun x=>some (HO.dK x)) (U5 fun t _=>by rw [bT,ajU];rfl)
   .rintro i k v O H4 hk ⟨u,w,rfl,hf,S4,jT⟩;obtain ⟨t,ht,rfl,rfl⟩:=pX hk;have nA:t∈ts:=K4 ht;have hl4:H4 (ad t)=some (.lst ((E9 E t).map V.str)):=S4 _ _ (fun e=>by have:=D7 t nA;rw [e,hd] at this;cases this) (D7 t nA);walk_at "rd";refine ⟨V.ref (ad t),.inl ⟨_,Sum.inr t,.inr ⟨o,hf⟩,rfl,by rw [N8,if_pos nA]⟩,ad t,rfl,⟨_,.of hl4⟩,forL (xs:=(E9 E t).map V.str) (fun j O H5=>∃ (v:Option V),O=[some (.ref d),some (.ref c),some (kV (Sum.inr t)),v]/\H5 d=some (.frz o (.dK (A8 ts fun t=>.ref (ad t))))/\SameBut d H H5/\
     H5 c=some (.dK (A8 ts fun q=>.int (cntIn E (ts.take i) q+((E9 E t).take j).count q:Nat)))) ⟨w,rfl,hf,S4,by rw [jT];rfl⟩ (fun j O H5 _ ⟨_,_,_,S5,_⟩=>.of (S5 _ _ (fun e=>by have:=D7 t nA;rw [e,hd] at this;cases this) (D7 t nA))) ?_ ?_⟩
    .rintro j v5 O H5 zC ⟨v,rfl,zD,S5,Z1⟩;obtain ⟨y,hy2,rfl⟩:=G9 zC;have dJ:y∈ts:=by
      have:=K4 hy2
      unfold E9 at this;obtain ⟨e,he,rfl⟩:=E5.mp this;exact (hE e (W0.mp he).1).2
     walk_at "rd";refine ⟨V.int (cntIn E (ts.take i) y+((E9 E t).take j).count y:Nat),.inl ⟨_,Sum.inr y,.inl Z1,rfl,by rw [N8,if_pos dJ]⟩,_,_,rfl,rfl,_,v4 (k:=Sum.inr y) Z1 (by rw [Q7];exact G5 (by lia)),?_,S5.put nc,?_⟩
     .rw [A3 ndc];exact zD
     .rw [A2,pW _ dJ];refine congrArg (fun x=>some (HO.dK x)) (U5 fun q _=>?_);rw [J7 hy2,List.count_append,List.count_singleton]
      by_cases e:q=y
      .rw [if_pos e,e,if_pos (by simp)];exact congrArg V.int (by lia)
      .rw [if_neg e,if_neg (by simpa using fun z:y=q=>e z.symm)];rfl
    .rintro O H5 ⟨v,rfl,zD,S5,Z1⟩;walk_at "rd";refine ⟨zD,S5,?_⟩;rw [A4,K9] at Z1;rw [Z1];refine congrArg (fun x=>some (HO.dK x)) (U5 fun q _=>?_);rw [J7 ht,aiC (uN tnd ht)]
   .rintro O H4 ⟨u,w,rfl,hf,S4,jT⟩;rw [Q7,K9] at jT;walk_at "rd";refine q c _ nc (S4.thaw hd) ?_;rw [A3 ndc.symm,jT];exact congrArg (fun x=>some (HO.dK x)) (U5 fun t _=>by rw [ajT (fun e he=>(hE e he).1)])
theorem sc_lined_up:FnScope ["rows", "after", "ahead", "pieces", "numbers", "free", "line", "number", "other"] ["rows"] (C3 Q1):=G2
abbrev aT:List Str:=["rows", "after", "ahead", "pieces", "numbers", "free", "line", "number", "other"]
theorem vaA:VS aT Q1 "rows" 0:=vq
theorem wM:VS aT Q1 "after" 1:=vq
theorem vaC:VS aT Q1 "ahead" 2:=vq
theorem lZ:VS aT Q1 "pieces" 3:=vq
theorem vaE:VS aT Q1 "numbers" 4:=vq
theorem qZ:VS aT Q1 "free" 5:=vq
theorem wN:VS aT Q1 "line" 6:=vq
theorem wO:VS aT Q1 "number" 7:=vq
theorem wP:VS aT Q1 "other" 8:=vq
theorem vaJ:LS Q1 "after":=lq
theorem vaK:LS Q1 "ahead":=lq
theorem vaL:LS Q1 "pieces":=lq
theorem vaM:LS Q1 "numbers":=lq
theorem vaN:LS Q1 "free":=lq
theorem vaO:LS Q1 "line":=lq
theorem vaP:LS Q1 "number":=lq
theorem vaQ:LS Q1 "other":=lq
theorem ahs(F:FunD K "lined_up" "lined_up" Q1 f fd)(T:Txt P w K mg C C_Shelf)(G_followers:FO P w K mg base 2 "followers" ["rows"] [] spFol)(G_count_ahead:FO P w K mg base 1 "count_ahead" ["after"] [] ajV):FnOk P w K mg base D9 3 f fd ["rows"] ajW:=by
 refine F.ok sc_lined_up ?_ ?_
 .rintro _ _ _ _ ⟨a,rs,zss,rank,rfl,_⟩;rfl
 .intro cdv A outer s H vs Q E hr h;have C5:=hu_of hr;have hu:=hr.units;refine ⟨_,QSs.out (A6 (D3 (n:=1) sc_lined_up.nd rfl vaJ (E8 G_followers (hm hr) (qa_c (vi vaA) A1)))
   (A6 (D3 (n:=2) sc_lined_up.nd rfl vaK (E8 G_count_ahead (hm hr) (qa_c (vi wM) A1)))
   (A6 (D3 (n:=3) sc_lined_up.nd rfl vaL (qe_cT (pQ (K:=K) (calm:=true)) T.b_list lA (qa_c (vi wM) A1)))
   (A6 (D3 (n:=4) sc_lined_up.nd rfl vaM (qe_cT (ajO (K:=K) (calm:=true)) T.b_dict ajF (qa_c (Y0  (T9:CompOk ["rows", "after", "ahead", "pieces", "numbers", "free", "line", "number", "other"] (C3 Q1).names _ ["number", "piece"] 2 []) (uO T.b_enumerate (qa_c (vi lZ) A1)) (fun _ _ _ _ _=>(cH (K:=K) (n:=2) (T6 (D5 (n:=0) (show List.Nodup (["number", "piece"]:List Str) by decide +kernel) rfl (Or.inl rfl)) (T6 (D5 (n:=1) (show List.Nodup (["number", "piece"]:List Str) by decide +kernel) rfl (Or.inl rfl)) cG)))) (fun _ _ _ _ _=>l9) (fun _ _ _ _ _=>(O5 (qa_c (qv 1) (qa_c (qv 0) A1))))) A1)))
   (A6 (uC (n:=5) sc_lined_up.nd rfl vaN (T9:CompOk ["rows", "after", "ahead", "pieces", "numbers", "free", "line", "number", "other"] (C3 Q1).names _ ["piece", "numbers", "ahead"] 1 [4,2]) (O7 (K:=K) (vi lZ)) (fun _ _ _ _ _=>D5 (n:=0) (show List.Nodup (["piece", "numbers", "ahead"]:List Str) by decide +kernel) rfl (Or.inl rfl)) (fun _ _ _ _ _=>(eJ (J5 (q_eq (K:=K) hu) (X1 C5 (qv 2) (qv 0)) A5))) (fun _ _ _ _ _=>(X1 C5 (qv 1) (qv 0))))
   (A6 (D3 (n:=6) sc_lined_up.nd rfl vaO (N1 A1))
   (A6 (uB PassesOwn.never (R4 (K:=K) (vi qZ)) (A6 (D3 (n:=7) sc_lined_up.nd rfl vaP (qe_cB (aqY (calm:=true)) T.b_min aqA (qa_c (vi qZ) A1)))
   (A6 (L9 (qe_mB (K:=K) O3 PySem.F.slot_list_remove PySem.F.type_list_remove aj9 (vi qZ) (qa_c (vi wO) A1)))
   (A6 (L9 (qe_mB (K:=K) O3 R9 R8 T7 (vi wN) (qa_c (qe_ix (K:=K) (vi lZ) (vi wO)) A1)))
   (A7 (N2 PassesOwn.never (O7 (K:=K) (X1 C5 (vi wM) (qe_ix (K:=K) (vi lZ) (vi wO)))) (D5 (n:=8) sc_lined_up.nd rfl vaQ (.inl rfl)) (A6 (ajJ C5 (vi vaC) (vi wP) A5 aqF)
   (A7 (qs_if (J5 (q_eq (K:=K) hu) (X1 C5 (vi vaC) (vi wP)) A5) (A7 (L9 (qe_mB (K:=K) O3 R9 R8 T7 (vi qZ) (qa_c (X1 C5 (vi vaE) (vi wP)) A1)))) K8)))))))))
   (A6 (qs_if (J5 q_lt (qe_cB (q_len (K:=K)) T.b_len Q6 (qa_c (vi wN) A1)) (qe_cB (q_len (K:=K)) T.b_len Q6 (qa_c (vi lZ) A1))) (A7 iI) K8)
   (A7 (D8 (vi wN))))))))))),?_⟩
  obtain ⟨a,rs,zss,rank,rfl,hR,hz,o6,q⟩:=h;walk_at "rd";have A9:(toldL zss).length<=100000:=K6 (lC zss) hz;have hElen:(edges zss).length<=100000:=K6 (agt zss) hz;have tnd:=iM zss;have etold:∀ e∈edges zss,e.1∈toldL zss/\e.2∈toldL zss:=fun e he=>aiE he
  refine ⟨a,rs,zss,rfl,hR,hz,fun d ad H1 nd S1 hd dl=>?_⟩;generalize nC:toldL zss=ts at *;generalize hEE:edges zss=E at *;refine ⟨d,ts,ad,E,rfl,hd,tnd,A9,hElen,dl.row,etold,fun c H2 nc S2 hc=>?_⟩;walk_at "rd";refine rListR.d (.of (S2 _ _ hd)) fun w nw=>?_
  rw [ah1];have f9:=S1.trans S2;have ncH:H c=none:=S1.free nc;have Q3:=S2 _ _ hd;have ncd:c≠d:=fun e=>by rw [e,hd] at nc;cases nc
  have nac:∀ t∈ts,ad t≠c:=fun t ht e=>by have:=dl.row t ht;rw [e,nc] at this;cases this
  have sB:A0 H2 w (.lst (ts.map V.str)) w=some (.lst (ts.map V.str)):=A2;have Sw:Same H2 (A0 H2 w (.lst (ts.map V.str))):=Same.new nw;generalize A0 H2 w (.lst (ts.map V.str))=H3 at sB Sw ⊢
  have idx:∀ {i:Nat} {z:Str},ts[i]?=some z->ts.idxOf z=i:=fun {i z} h=>by
   obtain ⟨hi,rfl⟩:=F6.mp h;exact List.Nodup.idxOf_getElem tnd i hi
  refine ⟨w,rfl,⟨_,sB⟩,compE (xs:=ts.map V.str) [] rfl (fun D i ys H4=>∃ qs:List Addr,ys=qs.map V.ref/\Same H3 H4/\Paired (fun q t=>H4 q=some (.tup [.str t,.int (ts.idxOf t:Nat)])) qs (ts.take i)) (fun D nD=>⟨[],rfl,Same.new nD,.nil⟩) (by rintro D i ys H4 nD _ ⟨_,_,S,_⟩;exact S _ _ sB) ?_ ?_⟩
  .rintro D i x t ys H4 nD hi hx ⟨qs,rfl,S,P4⟩ hD hy nt;obtain ⟨z,hz,rfl⟩:=G9 hx;rw [A4] at hi hy;walk_at "rd";refine ⟨by decide,fun p np=>⟨C9 (C9 hD nt) np,by rw [A4];exact G5 (by lia),iP.put (by rw [A4];exact hi) (by rw [A4];exact hy) ⟨qs++[p],by rw [D6];rfl,((S.trans (Same.new nt)).trans (Same.new np)).put nD,?_⟩⟩⟩;rw [J7 hz];refine Paired.snoc (T3 P4 fun q t' h=>?_) ?_
   .rw [A3 (fun e=>by rw [e,hD] at h;cases h)];exact C9 (C9 h nt) np
   .rw [A3 (fun e=>by rw [e,C9 hD nt] at np;cases np),A2,idx hz]
  rintro D ys H4 nD ⟨qs,rfl,zE,P4⟩ hD hy;rw [A4,K9] at P4;refine ⟨rfl,D,qs,_,rfl,.of hD,ah4 (f:=fun t=>.int (ts.idxOf t:Nat)) P4,fun nm nnm=>?_⟩;rw [show W5 [] (A8 ts fun t=>V.int (ts.idxOf t:Nat))=A8 ts fun t=>V.int (ts.idxOf t:Nat) from agx (pre:=[]) (by simpa using tnd)];have S5:Same H2 (A0 H4 nm (.dK (A8 ts fun t=>V.int (ts.idxOf t:Nat)))):=(Sw.trans zE).trans (Same.new nnm);have bF:A0 H4 nm (.dK (A8 ts fun t=>V.int (ts.idxOf t:Nat))) w=some (.lst (ts.map V.str)):=C9 (zE _ _ sB) nnm;have zF:A0 H4 nm (.dK (A8 ts fun t=>V.int (ts.idxOf t:Nat))) nm=some (.dK (A8 ts fun t=>V.int (ts.idxOf t:Nat))):=A2;have jT:H4 c=some (.dK (A8 ts fun t=>.int (G1 E [] t:Nat))):=zE _ _ (Sw _ _ hc);have ncn:c≠nm:=fun e=>by rw [<- e,jT] at nnm;cases nnm
  generalize A0 H4 nm (.dK (A8 ts fun t=>V.int (ts.idxOf t:Nat)))=H5 at S5 bF zF ⊢
  have Z1:=S5 _ _ hc;have hd5:=S5 _ _ Q3;have jM:∀ t∈ts,H5 (ad t)=some (.lst ((E9 E t).map V.str)):=fun t ht=>S5 _ _ (S2 _ _ (dl.row t ht))
  have nE:=f9.trans S5;have ncw:c≠w:=fun e=>by rw [e,bF] at Z1;cases Z1
  refine ⟨w,rfl,⟨_,.of bF⟩,compL (xs:=ts.map V.str) [some (.ref nm),some (.ref c)] rfl (fun D i ys H6=>∃ fr:List Int,ys=fr.map V.int/\Same H5 H6/\FS (ts.take i) [] (fun q=>G1 E [] q=0) fr) (fun D nD=>⟨[],rfl,Same.new nD,FS.nil _⟩) (by rintro D i ys H6 nD _ ⟨_,_,S,_⟩;exact .of (S _ _ bF)) ?_ ?_⟩
  .rintro D i x ys H6 nD hi hx ⟨fr,rfl,S,F⟩ hD hy;obtain ⟨z,hz,rfl⟩:=G9 hx;have sC:z∈ts:=K4 hz;have sE:i<ts.length:=(F6.mp hz).1;rw [A4] at hy;have hs:=F.snoc (i:=i) (q:=z) (by rw [L0];lia) (by simp);rw [<- J7 hz] at hs;walk_at "rd";refine ⟨V.int (G1 E [] z:Nat),.inl ⟨_,Sum.inr z,.inl (S _ _ Z1),rfl,by rw [N8,if_pos sC]⟩,?_⟩
   try walk_at "rd"
   refine iteD (fun h0=>⟨V.int (ts.idxOf z:Nat),.inl ⟨_,Sum.inr z,.inl (S _ _ zF),rfl,by rw [N8,if_pos sC]⟩,hD,by rw [A4];exact G5 (by lia),CW.put hi (by rw [A4];exact hy) ⟨fr++[(i:Int)],by rw [D6,idx hz];rfl,S.put nD,hs.1 (by lia)⟩⟩) fun h0=>⟨hD,pH hi (by rw [A4];exact hy) ⟨fr,rfl,S,hs.2 (by lia)⟩⟩
  rintro f ys H6 nf ⟨fr,rfl,zG,F0⟩ zH hy;rw [A4,K9] at F0;intro ln nln;have nln5:H5 ln=none:=zG.free nln;have o7:f≠ln:=fun e=>by rw [e,nln] at zH;cases zH
  have frlen:∀ {line fr z},FS ts line z fr->fr.length<=ts.length:=fun {line fr z} F=>by
   have h1:∀ n∈fr,n∈(P1 ts.length).map fun (n:Nat)=>(n:Int):=fun n hn=>by
    obtain ⟨m,q,e,h2,_⟩:=(F.2 n).mp hn;exact E5.mpr ⟨m,s0.mpr (F6.mp h2).1,e.symm⟩
   have:=ae5 F.1 h1
   simpa using this
  refine uD (fun m O H7=>∃ (u v:Option V) (line:List Str) (fr:List Int),O=[some (.ref a),some (.ref d),some (.ref c),some (.ref w),some (.ref nm),some (.ref f),some (.ref ln),u,v]/\SameBut c H5 H7/\
    H7 c=some (.dK (A8 ts fun t=>.int (G1 E line t:Nat)))/\H7 f=some (.lst (fr.map V.int))/\FS ts line (fun q=>G1 E line q=0) fr/\H7 ln=some (.lst (line.map V.str))/\T8 E ts line/\m=ts.length-line.length) ts.length
   ⟨none,none,[],fr,rfl,fun b o _ h=>C9 (zG _ _ h) nln,C9 (zG _ _ Z1) nln,C9 zH nln,F0,A2,T8.nil _ _,rfl⟩ ?_
  rintro m O H7 ⟨u,v,line,fr,rfl,B7,hc7,sF,F,zI,run,rfl⟩;have S07:Same H H7:=B7.same nE ncH;walk_at "rd";refine ⟨_,uF sF,?_⟩
  by_cases bG:fr=[]
  .have aY:∀ p∈ts,p∈line:=fun p hp=>Classical.byContradiction fun hn=>by
    obtain ⟨q',hq⟩:=alO (line:=line) o6 (fun e he=>(etold e he).1) ⟨p,hp,hn⟩;obtain ⟨h1,h2,h3⟩:=iL hq;obtain ⟨k,hk⟩:=List.mem_iff_getElem?.mp h1
    have:=(F.2 (k:Int)).mpr ⟨k,q',rfl,hk,h2,h3⟩
    rw [bG] at this
    cases this
   have fO:=pV tnd run aY;rw [bG];refine iteF ?_
   try walk_at "rd"
   refine ⟨line.length,.inl ⟨_,.of zI,by rw [A4]⟩,ts.length,.inl ⟨_,.of (B7 _ _ ncw.symm bF),by rw [A4]⟩,?_⟩
   try walk_at "rd"
   exact iteD (fun h=>absurd h (by lia)) fun _=>q ln line H7 (nE.free nln5) S07 zI run aY
  rw [show (!(fr.map V.int).isEmpty)=true by cases fr with | nil=>exact absurd rfl bG | cons=>rfl];refine iteT ⟨fun σ' H'=>∃ (u v:Option V) (line':List Str) (fr:List Int),σ'=[some (.ref a),some (.ref d),some (.ref c),some (.ref w),some (.ref nm),some (.ref f),some (.ref ln),u,v]/\SameBut c H5 H'/\
    H' c=some (.dK (A8 ts fun t=>.int (G1 E line' t:Nat)))/\H' f=some (.lst (fr.map V.int))/\FS ts line' (fun q=>G1 E line' q=0) fr/\H' ln=some (.lst (line'.map V.str))/\T8 E ts line'/\ts.length-line'.length<ts.length-line.length,?_,?_⟩
  .rintro σ' H' ⟨u,v,line',fr',rfl,h1,h2,h3,h4,h5,h6,h7⟩;exact ⟨_,h7,⟨_,_,rfl⟩,h1,line',h2,fr',h3,h4,h5,h6,rfl⟩
  try walk_at "rd"
  refine ⟨fr,sF,bG,fun M hM fM=>?_⟩;obtain ⟨mm,p,rfl,mY,Z2⟩:=ahb F hM fM;obtain ⟨y7,j8,o5⟩:=iL Z2;have zJ:line.length<ts.length:=by
   have h1:(line++[p]).Nodup:=(run.snoc Z2).nodup;have h3:=agu h1 fun x hx=>(run.snoc Z2).sub hx
   rw [C8,R3] at h3;lia
  have F1:=F.take tnd mY
  try walk_at "rd"
  refine ⟨N7 sF,aqX sF hM ?_⟩;have hwf:w≠f:=fun e=>by rw [e,nf] at bF;cases bF
  have zK:c≠f:=fun e=>by rw [e,nf] at Z1;cases Z1
  have bC:c≠ln:=fun e=>by rw [e,nln5] at Z1;cases Z1
  have B8:SameBut c H5 (A0 H7 f (.lst ((fr.erase (mm:Int)).map V.int))):=B7.put nf;have sG:A0 H7 f (.lst ((fr.erase (mm:Int)).map V.int)) ln=some (.lst (line.map V.str)):=by rw [A3 o7.symm];exact zI
  have hf8:A0 H7 f (.lst ((fr.erase (mm:Int)).map V.int)) f=some (.lst ((fr.erase (mm:Int)).map V.int)):=A2;have hc8:A0 H7 f (.lst ((fr.erase (mm:Int)).map V.int)) c=some (.dK (A8 ts fun t=>.int (G1 E line t:Nat))):=by rw [A3 zK];exact hc7
  generalize A0 H7 f (.lst ((fr.erase (mm:Int)).map V.int))=H8 at B8 sG hf8 hc8 ⊢
  have atp:K7 (ts.map V.str) (mm:Int)=some (V.str p):=G7 (by rw [O1,mY];rfl);refine ⟨N7 sG,_,.inl (.of (B8 _ _ ncw.symm bF)),V.str p,atp,appOk sG (by rw [A4];exact G5 (by lia)) ?_⟩;have B9:SameBut c H5 (A0 H8 ln (.lst (line.map V.str++[V.str p]))):=B8.put nln5;have jU:A0 H8 ln (.lst (line.map V.str++[V.str p])) ln=some (.lst ((line++[p]).map V.str)):=by rw [A2,D6];rfl
  have hf9:A0 H8 ln (.lst (line.map V.str++[V.str p])) f=some (.lst ((fr.erase (mm:Int)).map V.int)):=by rw [A3 o7];exact hf8
  have hc9:A0 H8 ln (.lst (line.map V.str++[V.str p])) c=some (.dK (A8 ts fun t=>.int (G1 E line t:Nat))):=by rw [A3 bC];exact hc8
  generalize A0 H8 ln (.lst (line.map V.str++[V.str p]))=H9 at B9 jU hf9 hc9 ⊢
  refine ⟨_,.inl (.of (B9 _ _ ncw.symm bF)),V.str p,atp,V.ref (ad p),.inl ⟨_,Sum.inr p,.inl (B9 _ _ ncd.symm hd5),rfl,by rw [N8,if_pos y7]⟩,ad p,rfl,⟨_,.of (B9 _ _ (nac p y7) (jM p y7))⟩,
   forL (xs:=(E9 E p).map V.str) (fun j O H7=>∃ (x:Option V) (fr:List Int),O=[some (.ref a),some (.ref d),some (.ref c),some (.ref w),some (.ref nm),some (.ref f),some (.ref ln),some (.int (mm:Int)),x]/\SameBut c H5 H7/\
    H7 c=some (.dK (A8 ts fun t=>.int ((G1 E line t:Nat)-(((E9 E p).take j).count t:Nat))))/\H7 f=some (.lst (fr.map V.int))/\FS ts (line++[p]) (fun q=>G1 E line q=((E9 E p).take j).count q) fr/\H7 ln=some (.lst ((line++[p]).map V.str)))
   ⟨v,_,rfl,B9,?_,hf9,F1.congr fun q=>(by simp),jU⟩ (by rintro j O H7 _ ⟨_,_,_,B,_⟩;exact .of (B _ _ (nac p y7) (jM p y7))) ?_ ?_⟩
  .rw [hc9];exact congrArg (fun x=>some (HO.dK x)) (U5 fun t _=>congrArg V.int (by simp))
  .rintro j v5 O V0 zC ⟨x,fr,rfl,B,o8,fQ,F,fR⟩;obtain ⟨y,hy,rfl⟩:=G9 zC;have dJ:y∈ts:=by
    have:=K4 hy
    unfold E9 at this;obtain ⟨e,he,rfl⟩:=E5.mp this;exact (etold e (W0.mp he).1).2
   have fL:((E9 E p).take j).count y<G1 E line y:=by
    have h1:=ahZ (E:=E) (q:=y) j8;have h2:(E9 E p).count y=((E9 E p).take (j+1)).count y+((E9 E p).drop (j+1)).count y:=by rw [<- List.count_append,j9]
    rw [J7 hy,List.count_append,List.count_singleton,if_pos (by simp)] at h2;lia
   have hyb:y∉line++[p]:=fun hm=>by
    rcases D4.mp hm with hm | hm
    .have:=alX run hm;lia
    .rw [D1.mp hm] at fL;lia
   obtain ⟨my,hmy⟩:=List.mem_iff_getElem?.mp dJ;have nF:∀ q,((E9 E p).take (j+1)).count q=((E9 E p).take j).count q+if y=q then 1 else 0:=fun q=>by
    rw [J7 hy,List.count_append,List.count_singleton]
    by_cases e:y=q
    .rw [if_pos e,if_pos (by simpa using e)]
    .rw [if_neg e,if_neg (by simpa using e)]
   have turn:=F.turn (z':=fun q=>G1 E line q=((E9 E p).take (j+1)).count q) tnd (y:=y) (fun q hq=>by rw [nF,if_neg (fun e=>hq e.symm),Nat.add_zero]) (by lia) hmy hyb;have O9:A8 ts (fun t=>V.int (if t=y then (G1 E line y:Nat)-(((E9 E p).take j).count y:Nat)-1 else (G1 E line t:Nat)-(((E9 E p).take j).count t:Nat)))=A8 ts (fun t=>V.int ((G1 E line t:Nat)-(((E9 E p).take (j+1)).count t:Nat))):=U5 fun q _=>by
    rw [nF]
    by_cases e:q=y
    .rw [if_pos e,e,if_pos rfl];exact congrArg V.int (by lia)
    .rw [if_neg e,if_neg (fun z=>e z.symm)];exact congrArg V.int (by lia)
   walk_at "rd";refine ⟨_,.inl ⟨_,Sum.inr y,.inl o8,rfl,by rw [N8,if_pos dJ]⟩,_,_,rfl,rfl,_,v4 (k:=Sum.inr y) o8 (by rw [Q7];exact G5 (by lia)),?_⟩;have bH:A0 V0 c (.dK (putK (A8 ts fun t=>V.int ((G1 E line t:Nat)-(((E9 E p).take j).count t:Nat))) (Sum.inr y) (V.int ((G1 E line y:Nat)-(((E9 E p).take j).count y:Nat)-1)))) c=some (.dK (A8 ts (fun t=>V.int ((G1 E line t:Nat)-(((E9 E p).take (j+1)).count t:Nat))))):=by
    rw [A2,pW _ dJ,<- O9];refine congrArg (fun x=>some (HO.dK x)) (U5 fun q _=>?_)
    by_cases e:q=y
    .rw [if_pos e,if_pos e]
    .rw [if_neg e,if_neg e]
   have B11:SameBut c H5 (A0 V0 c (.dK (putK (A8 ts fun t=>V.int ((G1 E line t:Nat)-(((E9 E p).take j).count t:Nat))) (Sum.inr y) (V.int ((G1 E line y:Nat)-(((E9 E p).take j).count y:Nat)-1))))):=B.at;have bI:A0 V0 c (.dK (putK (A8 ts fun t=>V.int ((G1 E line t:Nat)-(((E9 E p).take j).count t:Nat))) (Sum.inr y) (V.int ((G1 E line y:Nat)-(((E9 E p).take j).count y:Nat)-1)))) f=some (.lst (fr.map V.int)):=by rw [A3 zK.symm];exact fQ
   have fS:A0 V0 c (.dK (putK (A8 ts fun t=>V.int ((G1 E line t:Nat)-(((E9 E p).take j).count t:Nat))) (Sum.inr y) (V.int ((G1 E line y:Nat)-(((E9 E p).take j).count y:Nat)-1)))) ln=some (.lst ((line++[p]).map V.str)):=by rw [A3 bC.symm];exact fR
   generalize A0 V0 c (.dK (putK (A8 ts fun t=>V.int ((G1 E line t:Nat)-(((E9 E p).take j).count t:Nat))) (Sum.inr y) (V.int ((G1 E line y:Nat)-(((E9 E p).take j).count y:Nat)-1))))=fT at bH B11 bI fS ⊢
   refine ⟨V.int ((G1 E line y:Nat)-(((E9 E p).take (j+1)).count y:Nat)),.inl ⟨_,Sum.inr y,.inl bH,rfl,by rw [N8,if_pos dJ]⟩,?_⟩
   try walk_at "rd"
   have zL:=frlen F;refine iteD (fun h0=>⟨N7 bI,V.int (ts.idxOf y:Nat),.inl ⟨_,Sum.inr y,.inl (B11 _ _ ncn.symm zF),rfl,by rw [N8,if_pos dJ]⟩,appOk bI (by rw [A4];exact G5 (by lia)) ?_⟩) fun h0=>?_
   .refine ⟨B11.put nf,?_,fr++[(my:Int)],?_,turn.1 (by lia),?_⟩
    .rw [A3 zK];exact bH
    .rw [A2,D6,idx hmy];rfl
    .rw [A3 o7.symm];exact fS
   .exact ⟨B11,bH,fr,bI,turn.2 (by lia),fS⟩
  .rintro O V0 ⟨x,fr,rfl,B,o8,fQ,F,fR⟩;rw [A4,K9] at o8 F;have dL:∀ q,G1 E line q=G1 E (line++[p]) q+(E9 E p).count q:=fun q=>ahZ (E:=E) (q:=q) j8
   refine ⟨⟨_,_,rfl⟩,B,line++[p],?_,fr,fQ,F.congr fun q=>?_,fR,run.snoc Z2,by rw [C8,R3];lia⟩
   .rw [o8];exact congrArg (fun x=>some (HO.dK x)) (U5 fun q _=>congrArg V.int (by have:=dL q;lia))
   .have:=dL q
    lia
theorem agS:FnScope ["sign"] ["sign"] (C3 qQ):=G2
abbrev aht:List Str:=["sign"]
theorem vaR:VS aht qQ "sign" 0:=vq
theorem agT(F:FunD K "is_figure" "is_figure" qQ f fd)(T:Txt P w K mg C C_Shelf):FnOk P w K mg base D9 1 f fd ["sign"] iQ:=by
 refine F.ok agS ?_ ?_
 .rintro _ _ _ _ ⟨c,rfl,_⟩;rfl
 .intro cdv A outer s H vs Q E hr h;have C5:=hu_of hr;have hu:=hr.units;refine ⟨_,QSs.out (A7 (D8 (ahS q_le q_le K2 (vi vaR) K2))),?_⟩;obtain ⟨c,rfl,q⟩:=h;walk_at "rd";have e1:(Str.ofString "0").cps.toList=[48]:=by decide +kernel
  have e2:(Str.ofString "9").cps.toList=[57]:=by decide +kernel
  rw [e1,e2];simp only [aqP];refine iteN (fun h1=>?_) fun h1=>?_
  .have e:figO c=!decide (57<c):=by
    unfold figO;rw [decide_eq_true (by lia:48<=c)]
    by_cases h2:c<=57
    .rw [decide_eq_true h2,decide_eq_false (by lia:¬ 57<c)];rfl
    .rw [decide_eq_false h2,decide_eq_true (by lia:57<c)];rfl
   rw [e] at q;exact q
  .have e:figO c=false:=by unfold figO;rw [decide_eq_false (by lia:¬ 48<=c)];rfl
   rw [e] at q;exact q
theorem ahu:FnScope ["rules", "word"] ["rules", "word"] (C3 lO):=G2
abbrev aiX:List Str:=["rules", "word"]
theorem vaS:VS aiX lO "rules" 0:=vq
theorem ahv(F:FunD K "has_rule" "has_rule" lO f fd)(T:Txt P w K mg C C_Shelf):FnOk P w K mg base D9 1 f fd ["rules", "word"] (spHas K):=by
 refine F.ok ahu ?_ ?_
 .rintro _ _ _ _ ⟨a,ts,R,w,rfl,_⟩;rfl
 .intro cdv A outer s H vs Q E hr h;have C5:=hu_of hr;have hu:=hr.units;refine ⟨_,QSs.out (A7 (D8 (qe_cB (q_any (calm:=true)) T.b_any amt (qa_c (Y0  (T9:CompOk ["rules", "word"] (C3 lO).names _ ["rule", "word"] 1 [1]) (O7 (K:=K) (vi vaS)) (fun _ _ _ _ _=>D5 (n:=0) (show List.Nodup (["rule", "word"]:List Str) by decide +kernel) rfl (Or.inl rfl)) (fun _ _ _ _ _=>l9) (fun _ _ _ _ _=>(eI (q_eq (K:=K) hu) (qe_ix (K:=K) (qv 0) A5) (qv 1)))) A1)))),?_⟩;obtain ⟨a,ts,R,w,rfl,hR,hl,q⟩:=h;walk_at "rd";refine ⟨⟨_,.of hR.top⟩,compL (xs:=ts.map V.ref) [some (.str w)] rfl (fun D i ys H4=>ys=((R.take i).map fun z=>decide (z.1=w)).map V.bl/\Same H H4) (fun D nD=>⟨rfl,Same.new nD⟩) (by rintro D i ys H4 nD _ ⟨_,S⟩;exact .of (S _ _ hR.top)) ?_ ?_⟩
  .rintro D i x ys H4 nD hi hx ⟨rfl,S⟩ hD hy;obtain ⟨t,ht,rfl⟩:=G9 hx;obtain ⟨z,hz,D7⟩:=Paired.at hR.row ht;have f7:i<R.length:=(F6.mp hz).1;walk_at "rd";refine ⟨_,.inr (.of (S _ _ D7)),V.str z.1,V4 _ _,?_⟩;walk_at "rd";refine ⟨hD,by rw [A4,A4,L0];exact G5 (by lia),CW.put hi hy ⟨?_,S.put nD⟩⟩;rw [g6,hz]
   simp
  rintro D ys H4 nD ⟨rfl,S⟩ hD hy;rw [A4,hR.len,K9] at hD;refine ⟨_,rfl,hD,?_⟩;have e:((R.map fun z=>decide (z.1=w)).any id)=hasW R w:=by
   unfold hasW;rw [List.any_map];rfl
  rw [e];exact q H4 S
theorem aeI:FnScope ["rule"] ["rule"] (C3 qR):=G2
abbrev afT:List Str:=["rule"]
theorem jD:VS afT qR "rule" 0:=vq
theorem aeJ(F:FunD K "pieces_told" "pieces_told" qR f fd)(T:Txt P w K mg C C_Shelf):FnOk P w K mg base D9 1 f fd ["rule"] (ajZ K):=by
 refine F.ok aeI ?_ ?_
 .rintro _ _ _ _ ⟨t,z,rfl,_⟩;rfl
 .intro cdv A outer s H vs Q E hr h;have C5:=hu_of hr;have hu:=hr.units;obtain ⟨a_JOBS,m_JOBS,M_JOBS⟩:=T.x_JOBS;refine ⟨_,QSs.out (A6 (qs_if (J5 (q_eq (K:=K) hu) (qe_ix (K:=K) (vi jD) A5) K2) (A7 (D8 (T4 (K:=K) (vi jD) (O6 A5) Z9))) K8)
   (A6 (qs_if (J5 (q_eq (K:=K) hu) (qe_ix (K:=K) (vi jD) A5) K2) (A7 (D8 (T4 (K:=K) (vi jD) (O6 A5) (O6 A5)))) K8)
   (A7 (D8 (ahT (J5 (q_inM M_JOBS) (qe_ix (K:=K) (vi jD) A5) (pL m_JOBS)) (T4 (K:=K) (vi jD) (O6 A5) Z9) (O5 A1)))))),?_⟩
  obtain ⟨t,z,rfl,ht,q⟩:=h;have hT:C6 K H t ((z.1::z.2).map V.str):=.of ht;have A9:1<=((z.1::z.2).map V.str).length:=by rw [A4,G6];lia
  walk_at "rd";refine ⟨_,.inr hT,V.str z.1,V4 _ _,?_⟩;walk_at "rd";refine iteD (fun e=>?_) fun n1=>⟨_,.inr hT,V.str z.1,V4 _ _,?_⟩
  .refine rSlR.t hT (v8 (k:=2) (by decide) A9) fun p np=>q p _ (Same.new np) (.of ?_)
   rw [A2,show ((2:Int))=((2:Nat):Int) from rfl,eN,K5,List.drop_succ_cons,<- List.map_drop];unfold N9;rw [if_pos e]
  walk_at "rd";refine iteD (fun e=>?_) fun n2=>⟨_,.inr hT,V.str z.1,V4 _ _,?_⟩
  .refine rSlR.t hT (v8 (k:=1) (by decide) A9) fun p np=>q p _ (Same.new np) (.of ?_)
   have ecut:cutV ((z.1::z.2).map V.str) (some 1) (some 2)=(z.2.take 1).map V.str:=by
    unfold cutV
    cases z.2 with
    | nil=>rfl
    | cons y r=>
     have e1:HT.sIx ((z.1::y::r).map V.str).length 0 (some 1)=1:=by
      rw [show ((1:Int))=((1:Nat):Int) from rfl,HT.sIx_nat,A4,G6,G6];lia
     have e2:HT.sIx ((z.1::y::r).map V.str).length ((z.1::y::r).map V.str).length (some 2)=2:=by
      rw [show ((2:Int))=((2:Nat):Int) from rfl,HT.sIx_nat,A4,G6,G6];lia
     rw [e1,e2];rfl
   rw [A2,ecut];unfold N9;rw [if_neg n1,if_pos e]
  walk_at "rd"
  by_cases hj:eP z.1
  .rw [uS hj];refine iteT (rSlR.t hT (v8 (k:=1) (by decide) A9) fun p np=>q p _ (Same.new np) (.of ?_));rw [A2,K5,agm];unfold N9;have h3:z.1=("row" : Str)\/z.1=("marks" : Str)\/z.1=("over" : Str):=by
    rcases hj with h | h | h | h | h
    .exact .inl h
    .exact .inr (.inl h)
    .exact absurd h n1
    .exact absurd h n2
    .exact .inr (.inr h)
   rw [if_neg n1,if_neg n2,if_pos h3]
  .rw [alS hj];refine iteF fun p np=>q p _ (Same.new np) (.of ?_)
   rw [A2];unfold N9;rw [if_neg n1,if_neg n2,if_neg (fun h=>hj (by
    rcases h with h | h | h
    .exact .inl h
    .exact .inr (.inl h)
    .exact .inr (.inr (.inr (.inr h)))))]
   rfl
theorem ahw:FnScope ["jobs", "piece", "job", "figures"] ["jobs", "piece", "job", "figures"] (C3 cM):=G2
abbrev rA:List Str:=["jobs", "piece", "job", "figures"]
theorem vaU:VS rA cM "jobs" 0:=vq
theorem wQ:VS rA cM "piece" 1:=vq
theorem vaW:VS rA cM "job" 2:=vq
theorem vaX:VS rA cM "figures" 3:=vq
theorem ahx(F:FunD K "is_clash" "is_clash" cM f fd)(T:Txt P w K mg C C_Shelf)(G_is_figure:FO P w K mg base 1 "is_figure" ["sign"] [] iQ):FnOk P w K mg base D9 2 f fd ["jobs", "piece", "job", "figures"] aj0:=by
 refine F.ok ahw ?_ ?_
 .rintro _ _ _ _ ⟨d,p,j,fg,ks,g,rfl,_⟩;rfl
 .intro cdv A outer s H vs Q E hr h;have C5:=hu_of hr;have hu:=hr.units;obtain ⟨a_AGAIN,m_AGAIN,M_AGAIN⟩:=T.x_AGAIN;refine ⟨_,QSs.out (A6 (qs_if (QW.pt (pO (J5 (q_in (K:=K) hu) (vi wQ) (vi vaU)) (pM (QW.pt (qw_or (J5 (q_ne (K:=K) hu) (X1 C5 (vi vaU) (vi wQ)) (vi vaW)) (pN (J5 (pP (K:=K) hu) (vi vaW) (pL m_AGAIN)))))))) (A7 (D8 qe_bl)) K8)
   (A7 (D8 (aqD (vi vaX) (aqC (qe_cB (q_any (calm:=true)) T.b_any amt (qa_c (Y0  (T9:CompOk ["jobs", "piece", "job", "figures"] (C3 cM).names _ ["sign"] 1 []) (amw (vi wQ)) (fun _ _ _ _ _=>D5 (n:=0) (show List.Nodup (["sign"]:List Str) by decide +kernel) rfl (Or.inl rfl)) (fun _ _ _ _ _=>l9) (fun _ _ _ _ _=>(E8 G_is_figure (hm hr) (qa_c (qv 0) A1)))) A1))))))),?_⟩
  obtain ⟨d,p,j,fg,ks,g,rfl,hd,hp,h1,h2,q⟩:=h;walk_at "rd";have tail:(if fg=true then aM (iG p) 1 [] (gName 0) tYes (tCall iQ [] E0 (tCons (tVar 0) tNil)) [some (V.ref d),some (V.str p),some (V.str j),some (V.bl fg)] (fun x H1=>rAnyB true [x] H1 Q) H else Q (V.bl false) H):=by
   by_cases hf:fg=true
   .rw [if_pos hf];refine compS [] rfl (fun D i ys H4=>ys=((p.cps.toList.take i).map figO).map V.bl/\Same H H4) (fun D nD=>⟨rfl,Same.new nD⟩) ?_ ?_
    .rintro D i x ys H4 nD hi hx ⟨rfl,S⟩ hD hy;walk_at "rd";refine ⟨x,rfl,hD,?_,CW.put hi hy ⟨?_,S.put nD⟩⟩
     .rw [A4,A4,L0];exact G5 (by have:p.cps.size=p.length:=rfl;lia)
     .rw [g6,hx]
      simp
    .rintro D ys H4 nD ⟨rfl,S⟩ hD hy;walk_at "rd";refine ⟨_,hD,?_⟩;have e:((p.cps.toList.take p.cps.size).map figO).any id=false:=by
      rw [List.any_eq_false];intro b hb;obtain ⟨c,hc,rfl⟩:=E5.mp hb;rw [h2 hf c (oI hc)];decide
     rw [e];exact q H4 S
   .rw [if_neg hf];exact q H (Same.refl H)
  refine rInR.d (W4 (k:=Sum.inr p) hd) ⟨_,rfl,?_⟩;rw [N8,aF]
  by_cases hk:p∈ks
  .obtain ⟨e1,e2⟩:=h1 hk;rw [if_pos hk];refine iteT ⟨V.str (g p),.inl ⟨_,Sum.inr p,.inl hd,rfl,by rw [N8,if_pos hk]⟩,?_⟩;walk_at "rd";rw [decide_eq_true e1];refine iteF (rInR.l (.inr (M_AGAIN _)) rfl rfl ⟨_,rfl,?_⟩);have e3:cA (.str j) [V.str "letter",V.str "mark",V.str "over"]=true:=by
    have:=pK j lG
    rw [decide_eq_true e2] at this;exact this
   rw [e3];exact iteF tail
  .rw [if_neg hk];exact iteF tail
theorem sc_jobs_of:FnScope ["rules", "figures", "jobs", "rule", "piece"] ["rules"] (C3 j5):=G2
abbrev mB:List Str:=["rules", "figures", "jobs", "rule", "piece"]
theorem wR:VS mB j5 "rules" 0:=vq
theorem vaZ:VS mB j5 "figures" 1:=vq
theorem rB:VS mB j5 "jobs" 2:=vq
theorem wS:VS mB j5 "rule" 3:=vq
theorem va2:VS mB j5 "piece" 4:=vq
theorem va3:LS j5 "figures":=lq
theorem va4:LS j5 "jobs":=lq
theorem va5:LS j5 "rule":=lq
theorem va6:LS j5 "piece":=lq
theorem aiY(F:FunD K "jobs_of" "jobs_of" j5 f fd)(T:Txt P w K mg C C_Shelf)(G_has_rule:FO P w K mg base 1 "has_rule" ["rules", "word"] [] (spHas K))(G_pieces_told:FO P w K mg base 1 "pieces_told" ["rule"] [] (ajZ K))(G_is_clash:FO P w K mg base 2 "is_clash" ["jobs", "piece", "job", "figures"] [] aj0):FnOk P w K mg base D9 3 f fd ["rules"] (amB K):=by
 refine F.ok sc_jobs_of ?_ ?_
 .rintro _ _ _ _ ⟨a,ts,R,g,rfl,_⟩;rfl
 .intro cdv A outer s H vs Q E hr h;have C5:=hu_of hr;have hu:=hr.units;obtain ⟨a_JOBS,m_JOBS,M_JOBS⟩:=T.x_JOBS;refine ⟨_,QSs.out (A6 (D3 (n:=1) sc_jobs_of.nd rfl va3 (E8 G_has_rule (hm hr) (qa_c (vi wR) (qa_c K2 A1))))
   (A6 (D3 (n:=2) sc_jobs_of.nd rfl va4 cE)
   (A6 (N2 PassesOwn.never (O7 (K:=K) (vi wR)) (D5 (n:=3) sc_jobs_of.nd rfl va5 (.inl rfl)) (A7 (N2 PassesOwn.never (cI (K:=K) (E8 G_pieces_told (hm hr) (qa_c (vi wS) A1))) (D5 (n:=4) sc_jobs_of.nd rfl va6 (.inl rfl)) (A6 (qs_if (R4 (K:=K) (E8 G_is_clash (hm hr) (qa_c (vi rB) (qa_c (vi va2) (qa_c (ahX M_JOBS (pL m_JOBS) (qe_ix (K:=K) (vi wS) A5)) (qa_c (vi vaZ) A1)))))) (A7 iI) K8)
   (A7 (l8 C5 (vi rB) (vi va2) (ahX M_JOBS (pL m_JOBS) (qe_ix (K:=K) (vi wS) A5))))))))
   (A6 (qs_if (R4 (K:=K) (E8 G_has_rule (hm hr) (qa_c (vi wR) (qa_c K2 A1)))) (A7 (l8 C5 (vi rB) K2 K2)) K8)
   (A7 (D8 (vi rB))))))),?_⟩
  obtain ⟨a,ts,R,g,rfl,hR,hl,O0,hnc,hbl,q⟩:=h;walk_at "rd";refine ⟨a,ts,R, "figures",rfl,hR,hl,fun H1 S1=>?_⟩;generalize hasW R "figures"=fg at hnc;intro d nd;have fU:H d=none:=S1.free nd;have S2:Same H (A0 H1 d (.dK [])):=fun b o h=>C9 (S1 b o h) nd
  refine ⟨⟨_,.of (S2 _ _ hR.top)⟩,forL (xs:=ts.map V.ref) (fun i O H2=>∃ (u v:Option V),O=[some (.ref a),some (.bl fg),some (.ref d),u,v]/\Same H H2/\H2 d=some (.dK (A8 (keysP (D0 (R.take i))) fun t=>.str (g t))))
   ⟨none,none,rfl,S2,by rw [A2];rfl⟩ (by rintro i O H2 _ ⟨_,_,_,S,_⟩;exact .of (S _ _ hR.top)) ?_ ?_⟩
  .rintro i x O H2 hx ⟨u,v,rfl,S,hd⟩;obtain ⟨t,ht,rfl⟩:=G9 hx;obtain ⟨z,hz,D7⟩:=Paired.at hR.row ht;walk_at "rd";refine ⟨t,z,rfl,S _ _ D7,fun p H3 S3 hp=>⟨p,rfl,⟨_,hp⟩,forT (xs:=(N9 z).map V.str) (fun j O H4=>∃ (v:Option V),O=[some (.ref a),some (.bl fg),some (.ref d),some (.ref t),v]/\C6 K H4 p ((N9 z).map V.str)/\Same H H4/\H4 d=some (.dK (A8 (keysP (D0 (R.take i)++((N9 z).take j).map fun p=>(p,jobD z.1))) fun t=>.str (g t))))
    ⟨v,rfl,hp,S.trans S3,by rw [bT,List.map_nil,N3];exact S3 _ _ hd⟩ (by rintro j O H4 _ ⟨_,_,h,_⟩;exact h) ?_ ?_⟩⟩
   .rintro j x O H4 jV ⟨v,rfl,bE,S4,Z0⟩;obtain ⟨pc,zM,rfl⟩:=G9 jV;obtain ⟨e1,e2⟩:=aqO hz zM;obtain ⟨n1,n2,n3,n4⟩:=hnc _ _ _ e1;rw [e2] at n2;have hw:=lI (K4 zM);have V9:C6 K H4 t ((z.1::z.2).map V.str):=.of (S4 _ _ D7);have U0:(keysP (D0 (R.take i)++((N9 z).take j).map fun p=>(p,jobD z.1))).length<=10000:=by
     have h1:=uR (D0 (R.take i)++((N9 z).take j).map fun p=>(p,jobD z.1));have h2:=congrArg i0 e2;rw [L0] at h2;lia
    walk_at "rd";refine ⟨_,.inr V9,V.str z.1,V4 _ _,Sum.inr z.1,rfl,V.str (jobD z.1),uS hw,d,pc,jobD z.1,fg,_,g,rfl,Z0,n4,fun hk=>⟨n1.symm,n2 ((lH _ _).mp hk)⟩,n3,fun H5 S5=>⟨false,rfl,iteF ⟨_,.inr (V9.same S5),V.str z.1,V4 _ _,Sum.inr z.1,rfl,V.str (jobD z.1),uS hw,_,v4 (k:=Sum.inr pc) (S5 _ _ Z0) (by rw [Q7];exact G5 (by lia)),(bE.same S5).dput (S5 _ _ Z0),(S4.trans S5).put fU,?_⟩⟩⟩;rw [A2,J7 zM,D6,<- W8];rw [show ([pc].map fun p=>(p,jobD z.1))=[(pc,jobD z.1)] from rfl,aiG];unfold dd
    by_cases L4:pc∈keysP (D0 (R.take i)++((N9 z).take j).map fun p=>(p,jobD z.1))
    .rw [if_pos L4,pW _ L4];refine congrArg (fun x=>some (HO.dK x)) (U5 fun t _=>?_)
     by_cases e:t=pc
     .rw [if_pos e,e,n1]
     .rw [if_neg e]
    .rw [if_neg L4,cJ _ L4];refine congrArg (fun x=>some (HO.dK x)) (U5 fun t _=>?_)
     by_cases e:t=pc
     .rw [if_pos e,e,n1]
     .rw [if_neg e]
   .rintro O H4 ⟨v,rfl,bE,S4,Z0⟩;walk_at "rd";refine ⟨S4,?_⟩;rw [ae3 hz];rw [A4,K9] at Z0;exact Z0
  .rintro O H2 ⟨u,v,rfl,S,hd⟩;rw [A4,hR.len,K9] at hd;walk_at "rd";refine ⟨a,ts,R, "blanks",rfl,hR.same S,hl,fun H3 S3=>⟨hasW R "blanks",rfl,?_⟩⟩;have X6:=S3 _ _ hd;have dM:(" " : Str)∉keysP (D0 R):=fun h=>hbl ((lH _ _).mp h)
   have U0:=uR (D0 R);have hg:∀ t∈keysP (D0 R),V.str (g t)=jobG g t:=fun t ht=>by
    unfold jobG;rw [if_neg (fun e=>dM (by rw [<- e];exact ht))]
   by_cases hb:hasW R "blanks"=true
   .rw [hb];refine iteT ⟨_,v4 (k:=Sum.inr (" " : Str)) X6 (by rw [Q7];exact G5 (by lia)),q d _ fU ((S.trans S3).put fU) ?_⟩;rw [A2,cJ _ dM];unfold Y1;rw [if_pos hb];refine congrArg (fun x=>some (HO.dK x)) (U5 fun t ht=>?_);unfold jobG
    by_cases e:t=(" " : Str)
    .simp only [if_pos e]
    .simp only [if_neg e]
   .rw [kN] at hb;rw [hb];refine iteF (q d _ fU (S.trans S3) ?_);unfold Y1;rw [hb,if_neg L3,N3,X6];exact congrArg (fun x=>some (HO.dK x)) (U5 hg)
theorem sc_misused:FnScope ["rule", "jobs", "first"] ["rule", "jobs"] (C3 aQ):=G2
abbrev agU:List Str:=["rule", "jobs", "first"]
theorem mC:VS agU aQ "rule" 0:=vq
theorem va8:VS agU aQ "first" 2:=vq
theorem va9:LS aQ "first":=lq
theorem aiZ(F:FunD K "misused" "misused" aQ f fd)(T:Txt P w K mg C C_Shelf):FnOk P w K mg base D9 1 f fd ["rule", "jobs"] (amE K):=by
 refine F.ok sc_misused ?_ ?_
 .rintro _ _ _ _ ⟨t,d,z,ks,g,rfl,_⟩;rfl
 .intro cdv A outer s H vs Q E hr h;have C5:=hu_of hr;have hu:=hr.units;refine ⟨_,QSs.out (A6 (qs_if (J5 (q_eq (K:=K) hu) (qe_ix (K:=K) (vi mC) A5) K2) (A7 (D8 (Y0  (T9:CompOk ["rule", "jobs", "first"] (C3 aQ).names _ ["piece", "jobs"] 1 [1]) (cI (K:=K) (T4 (K:=K) (vi mC) (O6 A5) (O6 A5))) (fun _ _ _ _ _=>D5 (n:=0) (show List.Nodup (["piece", "jobs"]:List Str) by decide +kernel) rfl (Or.inl rfl)) (fun _ _ _ _ _=>(eJ (J5 (q_ne (K:=K) hu) (uQ C5 (qv 1) (qv 0)) K2))) (fun _ _ _ _ _=>(qv 0))))) K8)
   (A6 (qs_if (J5 (q_eq (K:=K) hu) (qe_ix (K:=K) (vi mC) A5) K2) (A6 (uC (n:=2) sc_misused.nd rfl va9 (T9:CompOk ["rule", "jobs", "first"] (C3 aQ).names _ ["piece", "jobs"] 1 [1]) (cI (K:=K) (T4 (K:=K) (vi mC) (O6 A5) (O6 A5))) (fun _ _ _ _ _=>D5 (n:=0) (show List.Nodup (["piece", "jobs"]:List Str) by decide +kernel) rfl (Or.inl rfl)) (fun _ _ _ _ _=>(eJ (J5 (q_ne (K:=K) hu) (uQ C5 (qv 1) (qv 0)) K2))) (fun _ _ _ _ _=>(qv 0)))
   (A7 (D8 (qe_op (q_add (K:=K)) (vi va8) (Y0  (T9:CompOk ["rule", "jobs", "first"] (C3 aQ).names _ ["piece", "jobs"] 1 [1]) (cI (K:=K) (T4 (K:=K) (vi mC) (O6 A5) Z9)) (fun _ _ _ _ _=>D5 (n:=0) (show List.Nodup (["piece", "jobs"]:List Str) by decide +kernel) rfl (Or.inl rfl)) (fun _ _ _ _ _=>(eJ (J5 (pP (K:=K) hu) (uQ C5 (qv 1) (qv 0)) (O5 (qa_c K2 (qa_c K2 A1)))))) (fun _ _ _ _ _=>(qv 0))))))) K8)
   (A7 (D8 (N1 A1))))),?_⟩
  obtain ⟨t,d,z,ks,g,rfl,ht,hd,us,hl,q⟩:=h;have hT:C6 K H t ((z.1::z.2).map V.str):=.of ht;walk_at "rd";refine ⟨_,.inr hT,V.str z.1,V4 _ _,?_⟩;walk_at "rd"
  by_cases h1:z.1=("great" : Str)
  .rw [decide_eq_true h1];have A9:1<=((z.1::z.2).map V.str).length:=by rw [A4,G6];lia
   refine iteT (rSlR.t hT (v8 (k:=1) (by decide) A9) fun s ns=>?_);have ecut:cutV ((z.1::z.2).map V.str) (some 1) (some 2)=(z.2.take 1).map V.str:=by
    rw [show cutV ((z.1::z.2).map V.str) (some 1) (some 2)=_ from vB ((z.1::z.2).map V.str) (i:=1) (j:=2) (by decide),K5,List.drop_succ_cons,List.drop_zero,<- aD]
   rw [ecut];have S1:Same H (A0 H s (.tup ((z.2.take 1).map V.str))):=Same.new ns;have hs:A0 H s (.tup ((z.2.take 1).map V.str)) s=some (.tup ((z.2.take 1).map V.str)):=A2;generalize A0 H s (.tup ((z.2.take 1).map V.str))=H1 at S1 hs;refine ⟨s,rfl,⟨_,.of hs⟩,compT (xs:=(z.2.take 1).map V.str) [some (.ref d)] rfl (fun D i ys H2=>ys=[]/\Same H1 H2) (fun D nD=>⟨rfl,Same.new nD⟩) (by rintro D i ys H2 nD _ ⟨_,S⟩;exact .of (S _ _ hs)) ?_ ?_⟩
   .rintro D i y ys H2 nD hi hy ⟨rfl,S⟩ hD M8;obtain ⟨p,hp,rfl⟩:=G9 hy;obtain ⟨m1,m2⟩:=us.gr h1 p (K4 hp);have Q3:=S _ _ (S1 _ _ hd);walk_at "rd";refine ⟨.inl ⟨_,.inl Q3⟩,_,W4 (k:=Sum.inr p) Q3,?_⟩;rw [N8,if_pos m1,Option.getD_some,m2];refine ⟨_,rfl,?_⟩;rw [show ∀ v:Str,(!decide (v=v))=false by intro v;simp];exact iteF ⟨hD,hi,F7 _,⟨_,rfl⟩,rfl,S⟩
   .rintro D ys H2 nD ⟨rfl,S⟩ hD M8;exact q D H2 (S1.free nD) (S1.trans S) hD
  rw [decide_eq_false h1];refine iteF ⟨_,.inr hT,V.str z.1,V4 _ _,?_⟩;walk_at "rd"
  by_cases h2:z.1=("as" : Str)
  .rw [decide_eq_true h2];have A9:1<=((z.1::z.2).map V.str).length:=by rw [A4,G6];lia
   refine iteT (rSlR.t hT (v8 (k:=2) (by decide) A9) fun s ns=>?_);have ecut:cutV ((z.1::z.2).map V.str) (some 2) (some 3)=((z.2.drop 1).take 1).map V.str:=by
    rw [show cutV ((z.1::z.2).map V.str) (some 2) (some 3)=_ from vB ((z.1::z.2).map V.str) (i:=2) (j:=3) (by decide),K5,List.drop_succ_cons,<- List.map_drop,<- aD]
   rw [ecut];have S1:Same H (A0 H s (.tup (((z.2.drop 1).take 1).map V.str))):=Same.new ns;have hs:A0 H s (.tup (((z.2.drop 1).take 1).map V.str)) s=some (.tup (((z.2.drop 1).take 1).map V.str)):=A2;generalize A0 H s (.tup (((z.2.drop 1).take 1).map V.str))=H1 at S1 hs;refine ⟨s,rfl,⟨_,.of hs⟩,compT (xs:=((z.2.drop 1).take 1).map V.str) [some (.ref d)] rfl (fun D i ys H2=>ys=[]/\Same H1 H2) (fun D nD=>⟨rfl,Same.new nD⟩) (by rintro D i ys H2 nD _ ⟨_,S⟩;exact .of (S _ _ hs)) ?_ ?_⟩
   .rintro D i y ys H2 nD hi hy ⟨rfl,S⟩ hD M8;obtain ⟨p,hp,rfl⟩:=G9 hy;obtain ⟨m1,m2⟩:=us.a1 h2 p (K4 hp);have Q3:=S _ _ (S1 _ _ hd);walk_at "rd";refine ⟨.inl ⟨_,.inl Q3⟩,_,W4 (k:=Sum.inr p) Q3,?_⟩;rw [N8,if_pos m1,Option.getD_some,m2];refine ⟨_,rfl,?_⟩;rw [show ∀ v:Str,(!decide (v=v))=false by intro v;simp];exact iteF ⟨hD,hi,F7 _,⟨_,rfl⟩,rfl,S⟩
   rintro D ys H2 nD ⟨rfl,S⟩ hD M8;have S2:=S1.trans S;have hT2:C6 K H2 t ((z.1::z.2).map V.str):=.of (S2 _ _ ht);refine rSlR.t hT2 (v8 (k:=3) (by decide) A9) fun s2 jW=>?_
   have ecut2:cutV ((z.1::z.2).map V.str) (some 3) none=(z.2.drop 2).map V.str:=by
    rw [show cutV ((z.1::z.2).map V.str) (some 3) none=_ from eN ((z.1::z.2).map V.str) 3,K5,List.drop_succ_cons,<- List.map_drop]
   rw [ecut2];have S3:Same H2 (A0 H2 s2 (.tup ((z.2.drop 2).map V.str))):=Same.new jW;have jK:A0 H2 s2 (.tup ((z.2.drop 2).map V.str)) s2=some (.tup ((z.2.drop 2).map V.str)):=A2;generalize A0 H2 s2 (.tup ((z.2.drop 2).map V.str))=H3 at S3 jK;refine ⟨s2,rfl,⟨_,.of jK⟩,compT (xs:=(z.2.drop 2).map V.str) [some (.ref d)] rfl (fun D i ys H4=>ys=[]/\Same H3 H4) (fun D nD=>⟨rfl,Same.new nD⟩) (by rintro D i ys H4 nD _ ⟨_,S⟩;exact .of (S _ _ jK)) ?_ ?_⟩
   .rintro D2 i y ys H4 nD2 hi hy ⟨rfl,S4⟩ hD2 zN;obtain ⟨p,hp,rfl⟩:=G9 hy;obtain ⟨m1,m2⟩:=us.a2 h2 p (K4 hp);have Z0:=S4 _ _ (S3 _ _ (S2 _ _ hd));walk_at "rd";refine ⟨.inl ⟨_,.inl Z0⟩,_,W4 (k:=Sum.inr p) Z0,?_⟩;rw [N8,if_pos m1,Option.getD_some];refine ⟨by decide,fun v nv=>?_⟩;have fin:cA (g p) [V.str (Str.ofString "letter"),V.str (Str.ofString "mark")]=true/\flatV (g p)=true:=by
     rcases m2 with m2 | m2 <;> rw [m2] <;> exact ⟨by decide +kernel,rfl⟩
    refine rInR.l (.inr (.of A2)) fin.2 rfl ?_;rw [fin.1,Bool.true_xor];exact ⟨_,rfl,iteF ⟨C9 hD2 nv,hi,F7 _,⟨_,rfl⟩,rfl,S4.trans (Same.new nv)⟩⟩
   rintro D2 ys H4 nD2 ⟨rfl,S4⟩ hD2 zN;have hD4:=S4 _ _ (S3 _ _ hD);refine rAddR.l hD4 hD2 (by decide) fun l nl=>?_
   exact q l _ ((S2.trans (S3.trans S4)).free nl) ((S2.trans (S3.trans S4)).trans (Same.new nl)) A2
  rw [decide_eq_false h2];exact iteF fun p np=>q p _ np (Same.new np) A2
theorem sc_check_letters:FnScope ["rules", "jobs", "rule", "wrong"] ["rules", "jobs"] (C3 aR):=G2
abbrev rC:List Str:=["rules", "jobs", "rule", "wrong"]
theorem vba:VS rC aR "rules" 0:=vq
theorem vbb:VS rC aR "jobs" 1:=vq
theorem vbc:VS rC aR "rule" 2:=vq
theorem vbd:VS rC aR "wrong" 3:=vq
theorem vbe:LS aR "rule":=lq
theorem vbf:LS aR "wrong":=lq
theorem adU(F:FunD K "check_letters" "check_letters" aR f fd)(T:Txt P w K mg C C_Shelf)(G_misused:FO P w K mg base 1 "misused" ["rule", "jobs"] [] (amE K)):FnOk P w K mg base D9 2 f fd ["rules", "jobs"] (ah6 K):=by
 refine F.ok sc_check_letters ?_ ?_
 .rintro _ _ _ _ ⟨a,d,ts,R,ks,g,rfl,_⟩;rfl
 .intro cdv A outer s H vs Q E hr h;have C5:=hu_of hr;have hu:=hr.units;refine ⟨_,QSs.out (A7 (N2 PassesOwn.never (O7 (K:=K) (vi vba)) (D5 (n:=2) sc_check_letters.nd rfl vbe (.inl rfl)) (A6 (D3 (n:=3) sc_check_letters.nd rfl vbf (E8 G_misused (hm hr) (qa_c (vi vbc) (qa_c (vi vbb) A1))))
   (A7 (qs_if (R4 (K:=K) (vi vbd)) (A7 iI) K8))))),?_⟩
  obtain ⟨a,d,ts,R,ks,g,rfl,hR,hd,hw,q⟩:=h;walk_at "rd";refine ⟨⟨_,.of hR.top⟩,forL (xs:=ts.map V.ref) (fun i O H2=>∃ (u v:Option V),O=[some (.ref a),some (.ref d),u,v]/\Same H H2) ⟨none,none,rfl,Same.refl H⟩ (by rintro i O H2 _ ⟨_,_,_,S⟩;exact .of (S _ _ hR.top)) ?_ ?_⟩
  .rintro i x O H2 hx ⟨u,v,rfl,S⟩;obtain ⟨t,ht,rfl⟩:=G9 hx;obtain ⟨z,hz,D7⟩:=Paired.at hR.row ht;obtain ⟨n1,n2⟩:=hw z (K4 hz);walk_at "rd";refine ⟨t,d,z,ks,g,rfl,S _ _ D7,S _ _ hd,n1,n2,fun p H3 np S3 hp=>⟨_,uF hp,iteF (S.trans S3)⟩⟩
  .rintro O H2 ⟨u,v,rfl,S⟩;exact q H2 S
theorem ai0:FnScope ["rules", "word"] ["rules", "word"] (C3 lP):=G2
abbrev akM:List Str:=["rules", "word"]
theorem vbg:VS akM lP "rules" 0:=vq
theorem ai1(F:FunD K "line_of" "line_of" lP f fd)(T:Txt P w K mg C C_Shelf)(G_lined_up:FO P w K mg base 3 "lined_up" ["rows"] [] ajW):FnOk P w K mg base D9 4 f fd ["rules", "word"] (amC K):=by
 refine F.ok ai0 ?_ ?_
 .rintro _ _ _ _ ⟨a,ts,R,w,rank,rfl,_⟩;rfl
 .intro cdv A outer s H vs Q E hr h;have C5:=hu_of hr;have hu:=hr.units;refine ⟨_,QSs.out (A7 (D8 (E8 G_lined_up (hm hr) (qa_c (Y0  (T9:CompOk ["rules", "word"] (C3 lP).names _ ["rule", "word"] 1 [1]) (O7 (K:=K) (vi vbg)) (fun _ _ _ _ _=>D5 (n:=0) (show List.Nodup (["rule", "word"]:List Str) by decide +kernel) rfl (Or.inl rfl)) (fun _ _ _ _ _=>(eJ (J5 (q_eq (K:=K) hu) (qe_ix (K:=K) (qv 0) A5) (qv 1)))) (fun _ _ _ _ _=>(qe_cT (pQ (K:=K) (calm:=true)) T.b_list lA (qa_c (T4 (K:=K) (qv 0) (O6 A5) Z9) A1)))) A1)))),?_⟩;obtain ⟨a,ts,R,w,rank,rfl,hR,hl,o7,o6,q⟩:=h;walk_at "rd";refine ⟨⟨_,.of hR.top⟩,compL (xs:=ts.map V.ref) [some (.str w)] rfl (fun D i ys H4=>∃ qs:List Addr,ys=qs.map V.ref/\RowsAt H H4 D qs (rowsW (R.take i) w)) (fun D nD=>⟨[],rfl,⟨⟨A2,.nil⟩,by simp,fun r hr=>by rw [D1.mp hr];exact nD,Same.new nD⟩⟩)
   (by rintro D i ys H4 nD _ ⟨qs,_,RA⟩;exact .of (RA.same _ _ hR.top)) ?_ ?_⟩
  .rintro D i x ys H4 nD hi hx ⟨qs,rfl,RA⟩ hD hy;obtain ⟨t,ht,rfl⟩:=G9 hx;obtain ⟨z,hz,D7⟩:=Paired.at hR.row ht;have f7:i<R.length:=(F6.mp hz).1;have V9:C6 K H4 t ((z.1::z.2).map V.str):=.of (RA.same _ _ D7);have A9:1<=((z.1::z.2).map V.str).length:=by rw [A4,G6];lia
   walk_at "rd";refine ⟨_,.inr V9,V.str z.1,V4 _ _,?_⟩;walk_at "rd";refine iteD (fun e=>rSlR.t V9 (v8 (k:=1) (by decide) A9) fun p np=>?_) fun e=>⟨hD,pH hi hy ⟨qs,rfl,?_⟩⟩
   .rw [K5,agm];walk_at "rd";refine rListR.l (.inr (.of A2)) fun p2 fV=>⟨C9 (C9 hD np) fV,?_,CW.put hi hy ⟨qs++[p2],by rw [D6];rfl,?_⟩⟩
    .rw [A4] at hy;rw [A4];exact G5 (by lia)
    .rw [ae4 hz,if_pos e];have n2:H4 p2=none:=(Same.new np).free fV;exact RA.grow (fun b o h=>C9 (C9 h np) fV) n2 A2
   .rw [ae4 hz,if_neg e];exact RA
  rintro D ys H4 nD ⟨qs,rfl,RA⟩ hD hy;rw [A4,hR.len,K9] at RA;refine ⟨D,qs,rowsW R w,rank,rfl,RA.rows,o7,o6,fun l line H5 nl S5 fW run cov=>?_⟩;exact q l line H5 (RA.same.free nl) (RA.same.trans S5) fW run cov
theorem sc_forms_of:FnScope ["rules", "forms", "rule"] ["rules"] (C3 cN):=G2
abbrev wT:List Str:=["rules", "forms", "rule"]
theorem vbh:VS wT cN "rules" 0:=vq
theorem vbi:VS wT cN "forms" 1:=vq
theorem wU:VS wT cN "rule" 2:=vq
theorem vbk:LS cN "forms":=lq
theorem vbl:LS cN "rule":=lq
theorem ahy(F:FunD K "forms_of" "forms_of" cN f fd)(T:Txt P w K mg C C_Shelf):FnOk P w K mg base D9 1 f fd ["rules"] (ah5 K):=by
 refine F.ok sc_forms_of ?_ ?_
 .rintro _ _ _ _ ⟨a,ts,R,rfl,_⟩;rfl
 .intro cdv A outer s H vs Q E hr h;have C5:=hu_of hr;have hu:=hr.units;refine ⟨_,QSs.out (A6 (D3 (n:=1) sc_forms_of.nd rfl vbk cE)
   (A6 (N2 PassesOwn.never (O7 (K:=K) (vi vbh)) (D5 (n:=2) sc_forms_of.nd rfl vbl (.inl rfl)) (A7 (qs_if (J5 (q_eq (K:=K) hu) (qe_ix (K:=K) (vi wU) A5) K2) (A7 (L9 (qe_mB (K:=K) O3 kL kK (aj3 (K:=K)) (alK (vi vbi) (qe_ix (K:=K) (vi wU) A5) (N1 A1)) (qa_c (T4 (K:=K) (vi wU) (O6 A5) Z9) A1)))) K8)))
   (A7 (D8 (vi vbi))))),?_⟩
  obtain ⟨a,ts,R,rfl,hR,hg,hl,hf,q⟩:=h;walk_at "rd";intro d nd;refine ⟨⟨_,.of (C9 hR.top nd)⟩,forL (xs:=ts.map V.ref) (fun i O H2=>∃ (u:Option V) (ad:Str->Addr),O=[some (.ref a),some (.ref d),u]/\Same H H2/\H2 d=some (.dK (A8 (E1 (R.take i)) fun y=>.ref (ad y)))/\DL (A0 H d (.dK [])) H2 (E1 (R.take i)) ad (F8 (R.take i))) ⟨none,fun _=>d,rfl,Same.new nd,A2,⟨by simp [E1,M5,G8],by simp [E1,M5,G8],by simp [E1,M5,G8]⟩⟩ (by rintro i O H2 _ ⟨_,_,_,S,_⟩;exact .of (S _ _ hR.top)) ?_ ?_⟩
  .rintro i x O H2 hx ⟨u,ad,rfl,S,hd,dl⟩;obtain ⟨t,ht,rfl⟩:=G9 hx;obtain ⟨z,hz,D7⟩:=Paired.at hR.row ht;have hT:C6 K H2 t ((z.1::z.2).map V.str):=.of (S _ _ D7);walk_at "rd";refine ⟨_,.inr hT,V.str z.1,V4 _ _,?_⟩;walk_at "rd"
   by_cases jX:z.1=("great" : Str)
   .rw [decide_eq_true jX];refine iteT ?_;obtain ⟨w,ps⟩:=z;obtain rfl:w=("great" : Str):=jX;obtain ⟨y,fs,rfl⟩:∃ y fs,ps=y::fs:=by
     cases ps with
     | nil=>exact absurd rfl (hg _ (K4 hz) rfl)
     | cons y fs=>exact ⟨y,fs,rfl⟩
    have etk:R.take (i+1)=R.take i++[(("great" : Str),y::fs)]:=J7 hz;have o7:(F8 (R.take i) y).length+fs.length<=10000:=by
     have:=hf (i+1) y
     rw [etk,vA,if_pos rfl,C8] at this;exact this
    have U0:(A8 (E1 (R.take i)) fun y=>V.ref (ad y)).length<=1000:=by
     rw [Q7];unfold E1;have h1:=lB ((M5 (R.take i)).map (·.1)) [];have h2:(M5 (R.take i)).length<=(R.take i).length:=List.length_filterMap_le _ _;rw [A4,k4] at h1;rw [L0] at h2;lia
    have K3:K7 (((("great" : Str),y::fs).1::(("great" : Str),y::fs).2).map V.str) 1=some (V.str y):=G7 (j:=1) rfl;have bJ:cutV (((("great" : Str),y::fs).1::(("great" : Str),y::fs).2).map V.str) (some 2) none=fs.map V.str:=eN _ 2;refine ⟨.inl ⟨_,.inl hd⟩,_,.inr hT,V.str y,K3,fun p np=>⟨_,C9 hd np,Nat.lt_of_le_of_lt U0 (by decide),Sum.inr y,rfl,fun v hv=>?_,fun hn=>?_⟩⟩
    .rw [N8] at hv
     by_cases hy:y∈E1 (R.take i)
     .rw [if_pos hy] at hv;cases hv;have dN:=dl.row y hy;have ndy:ad y≠d:=fun e=>by have:=dl.new y hy;rw [e,A2] at this;cases this
      have nHy:H (ad y)=none:=by have:=dl.new y hy;rw [A3 ndy] at this;exact this
      have T1:Same H2 (A0 H2 p (.lst [])):=Same.new np;generalize A0 H2 p (.lst [])=H3 at T1;refine ⟨N7 (T1 _ _ dN),rSlR.t (hT.same T1) (v8 (k:=2) (by decide) (by simp)) fun s ns=>?_⟩;rw [bJ];have T2:Same H3 (A0 H3 s (.tup (fs.map V.str))):=Same.new ns;have hs:A0 H3 s (.tup (fs.map V.str)) s=some (.tup (fs.map V.str)):=A2;generalize A0 H3 s (.tup (fs.map V.str))=H4 at T2 hs;have T:=T1.trans T2;refine ⟨ad y,s,_,_,rfl,rfl,T _ _ dN,.of hs,by rw [A4,A4];exact i9 (by lia),(S.trans T).put nHy,ad,?_,?_⟩
      .rw [A3 ndy.symm,T _ _ hd,etk,qB];unfold dd;rw [if_pos hy]
      .rw [etk,qB];unfold dd;rw [if_pos hy,<- D6];refine ((dl.same T).app hy (F8 (R.take i) y++fs)).congr fun x _=>?_
       rw [vA]
       by_cases z9:x=y
       .subst z9;simp
       .simp [z9]
     .rw [if_neg hy] at hv;cases hv
    .have hy:y∉E1 (R.take i):=fun hy=>by rw [N8,if_pos hy] at hn;cases hn
     have ndp:d≠p:=fun e=>by rw [<- e,hd] at np;cases np
     have n0:A0 H d (.dK []) p=none:=by rw [A3 ndp.symm];exact S.free np
     have dl2:=dl.more hy np n0;have z8:=dl2.put (b:=d) (o:=.dK (A8 (E1 (R.take i)++[y]) fun t=>if t=y then V.ref p else V.ref (ad t))) (u:=.dK []) A2;rw [cJ (V.ref p) hy];have o5:A0 (A0 H2 p (.lst [])) d (.dK (A8 (E1 (R.take i)++[y]) fun t=>if t=y then V.ref p else V.ref (ad t))) p=some (.lst []):=by rw [A3 ndp.symm,A2]
     have X6:A0 (A0 H2 p (.lst [])) d (.dK (A8 (E1 (R.take i)++[y]) fun t=>if t=y then V.ref p else V.ref (ad t))) d=some (.dK (A8 (E1 (R.take i)++[y]) fun t=>if t=y then V.ref p else V.ref (ad t))):=A2;have S3:Same H (A0 (A0 H2 p (.lst [])) d (.dK (A8 (E1 (R.take i)++[y]) fun t=>if t=y then V.ref p else V.ref (ad t)))):=(S.trans (Same.new np)).put nd;generalize A0 (A0 H2 p (.lst [])) d (.dK (A8 (E1 (R.take i)++[y]) fun t=>if t=y then V.ref p else V.ref (ad t)))=H3 at z8 o5 X6 S3;have hT3:C6 K H3 t (((("great" : Str),y::fs).1::(("great" : Str),y::fs).2).map V.str):=.of (S3 _ _ D7);refine ⟨N7 o5,rSlR.t hT3 (v8 (k:=2) (by decide) (by simp)) fun s ns=>?_⟩;rw [bJ];have T2:Same H3 (A0 H3 s (.tup (fs.map V.str))):=Same.new ns;have hs:A0 H3 s (.tup (fs.map V.str)) s=some (.tup (fs.map V.str)):=A2;generalize A0 H3 s (.tup (fs.map V.str))=H4 at T2 hs;refine ⟨p,s,_,_,rfl,rfl,T2 _ _ o5,.of hs,by rw [A4];exact i9 (by simp;lia),(S3.trans T2).put (S.free np),fun t=>if t=y then p else ad t,?_,?_⟩
     .rw [A3 ndp,T2 _ _ X6,etk,qB];unfold dd;rw [if_neg hy];refine congrArg (fun z=>some (HO.dK z)) (U5 fun x _=>?_);show (if x=y then V.ref p else V.ref (ad x))=V.ref (if x=y then p else ad x)
      by_cases z9:x=y
      .rw [if_pos z9,if_pos z9]
      .rw [if_neg z9,if_neg z9]
     .rw [etk,qB];unfold dd;rw [if_neg hy,bS]
      have:=((z8.same T2).app (z:=y) (by simp) fs).congr (G:=F8 (R.take i++[(("great" : Str),y::fs)])) fun x _=>by
       rw [vA]
       by_cases z9:x=y
       .subst z9;have e0:F8 (R.take i) x=[]:=by
         unfold F8;rw [oG.mpr fun e he=>?_]
         .rfl
         .intro h;have h:e.1=x:=by simpa using h
          refine hy ?_;unfold E1;rw [v7];exact .inr (E5.mpr ⟨e,he,h⟩)
        simp [e0]
       .simp [z9]
      rw [if_pos rfl] at this;exact this
   .rw [decide_eq_false jX];refine iteF ⟨S,ad,?_,?_⟩
    .rw [show E1 (R.take (i+1))=E1 (R.take i) by unfold E1;rw [uY hz,qA jX,N3]];exact hd
    .rw [show E1 (R.take (i+1))=E1 (R.take i) by unfold E1;rw [uY hz,qA jX,N3]];refine dl.congr fun x _=>?_
     unfold F8;rw [uY hz,qA jX,N3]
  .rintro O H2 ⟨u,ad,rfl,S,hd,dl⟩;walk_at "rd";rw [A4,hR.len,K9] at hd dl;exact q d ad H2 nd S hd (dl.old (Same.new nd))
theorem sc_steps_of:FnScope ["rules", "letters", "marks", "steps", "place", "letter", "mark", "forms", "case", "form", "rule"] ["rules", "letters", "marks"] (C3 P6):=G2
abbrev m7:List Str:=["rules", "letters", "marks", "steps", "place", "letter", "mark", "forms", "case", "form", "rule"]
theorem vbm:VS m7 P6 "rules" 0:=vq
theorem vbn:VS m7 P6 "letters" 1:=vq
theorem vbo:VS m7 P6 "marks" 2:=vq
theorem jE:VS m7 P6 "steps" 3:=vq
theorem vbq:VS m7 P6 "place" 4:=vq
theorem wV:VS m7 P6 "letter" 5:=vq
theorem vbs:VS m7 P6 "mark" 6:=vq
theorem vbt:VS m7 P6 "forms" 7:=vq
theorem vbu:VS m7 P6 "case" 8:=vq
theorem vbv:VS m7 P6 "form" 9:=vq
theorem wW:VS m7 P6 "rule" 10:=vq
theorem vbx:LS P6 "steps":=lq
theorem vby:LS P6 "place":=lq
theorem vbz:LS P6 "letter":=lq
theorem vbA:LS P6 "mark":=lq
theorem vbB:LS P6 "forms":=lq
theorem vbC:LS P6 "case":=lq
theorem vbD:LS P6 "form":=lq
theorem vbE:LS P6 "rule":=lq
theorem ahz(F:FunD K "steps_of" "steps_of" P6 f fd)(T:Txt P w K mg C C_Shelf)(G_forms_of:FO P w K mg base 1 "forms_of" ["rules"] [] (ah5 K)):FnOk P w K mg base D9 2 f fd ["rules", "letters", "marks"] (ah8 K):=by
 refine F.ok sc_steps_of ?_ ?_
 .rintro _ _ _ _ ⟨a,b,c,ts,R,L,M,F,rfl,_⟩;rfl
 .intro cdv A outer s H vs Q E hr h;have C5:=hu_of hr;have hu:=hr.units;refine ⟨_,QSs.out (A6 (D3 (n:=3) sc_steps_of.nd rfl vbx cE)
   (A6 (N2 PassesOwn.never (uO T.b_enumerate (qa_c (vi vbn) A1)) (cH (K:=K) (n:=2) (T6 ((D5 (n:=4) sc_steps_of.nd rfl vby (.inl rfl))) (T6 ((D5 (n:=5) sc_steps_of.nd rfl vbz (.inl rfl))) cG))) (A7 (l8 C5 (vi jE) (vi wV) (O5 (qa_c (O5 (qa_c (cD T.g_LETTER) (qa_c (vi vbq) (qa_c A5 A1)))) A1)))))
   (A6 (N2 PassesOwn.never (uO T.b_enumerate (qa_c (vi vbo) A1)) (cH (K:=K) (n:=2) (T6 ((D5 (n:=4) sc_steps_of.nd rfl vby (.inl rfl))) (T6 ((D5 (n:=6) sc_steps_of.nd rfl vbA (.inl rfl))) cG))) (A7 (l8 C5 (vi jE) (vi vbs) (O5 (qa_c (O5 (qa_c (cD T.g_MARK) (qa_c (vi vbq) (qa_c A5 A1)))) A1)))))
   (A6 (D3 (n:=7) sc_steps_of.nd rfl vbB (E8 G_forms_of (hm hr) (qa_c (vi vbm) A1)))
   (A6 (uI PassesOwn.never (vi vbt) (D5 (n:=5) sc_steps_of.nd rfl vbz (.inl rfl)) (A7 (N2 PassesOwn.never (alU T.b_enumerate (qa_c (X1 C5 (vi vbt) (vi wV)) A1)) (cH (K:=K) (n:=2) (T6 ((D5 (n:=8) sc_steps_of.nd rfl vbC (.inl rfl))) (T6 ((D5 (n:=9) sc_steps_of.nd rfl vbD (.inl rfl))) cG))) (A7 (l8 C5 (vi jE) (vi vbv) (O5 (qa_c (O5 (qa_c (cD T.g_LETTER) (qa_c (qe_ix (K:=K) (qe_ix (K:=K) (X1 C5 (vi jE) (vi wV)) A5) A5) (qa_c (vi vbu) A1)))) A1)))))))
   (A6 (N2 PassesOwn.never (O7 (K:=K) (vi vbm)) (D5 (n:=10) sc_steps_of.nd rfl vbE (.inl rfl)) (A7 (qs_if (J5 (q_eq (K:=K) hu) (qe_ix (K:=K) (vi wW) A5) K2) (A7 (l8 C5 (vi jE) (qe_ix (K:=K) (vi wW) A5) (qe_cT (uE (K:=K)) T.b_tuple pE (qa_c (Y0  (T9:CompOk ["rules", "letters", "marks", "steps", "place", "letter", "mark", "forms", "case", "form", "rule"] (C3 P6).names _ ["part", "steps"] 1 [3]) (cI (K:=K) (T4 (K:=K) (vi wW) (O6 A5) Z9)) (fun _ _ _ _ _=>D5 (n:=0) (show List.Nodup (["part", "steps"]:List Str) by decide +kernel) rfl (Or.inl rfl)) (fun _ _ _ _ _=>l9) (fun _ _ _ _ _=>(qe_ix (K:=K) (X1 C5 (qv 1) (qv 0)) A5))) A1)))) K8)))
   (A7 (D8 (vi jE))))))))),?_⟩
  obtain ⟨a,b,c,ts,R,L,M,F,rfl,hR,md,hb,hc,R1,hRl,o7,nG,q⟩:=h;have A9:L.length+M.length+((E1 R).flatMap (F8 R)).length+(asKs R).length<=50000:=by
   unfold allKs at nG;simp only [C8] at nG;exact nG
  walk_at "rd";intro d nd;have ndR:∀ {x:Addr} {o:HO},H x=some o->x≠d:=fun h e=>by rw [e,nd] at h;cases h
  refine ⟨⟨_,C9 hb nd⟩,forE (xs:=L.map V.str) (fun i O H2=>∃ (u v w x y z r:Option V),O=[some (.ref a),some (.ref b),some (.ref c),some (.ref d),u,v,w,x,y,z,r]/\StI H H2 d (L.take i) F)
   ⟨none,none,none,none,none,none,none,rfl,Same.new nd,fun _=>d,A2,by simp [G8]⟩ (by rintro i O H2 ⟨_,_,_,_,_,_,_,_,S⟩;exact S.same _ _ hb) ?_ ?_⟩
  .rintro i x t O H2 hx ⟨u,v,w,x',y,z,r,rfl,S⟩ nt;obtain ⟨l,hl,rfl⟩:=G9 hx;have hi:i<L.length:=(F6.mp hl).1;walk_at "rd";refine ⟨_,.of A2,rfl,_,_,rfl,_,_,rfl,rfl,by decide,fun p np=>⟨by decide,fun p1 G4=>?_⟩⟩;rw [J7 hl];exact StI.put nd (((S.more (Same.new nt)).more (Same.new np)).more (Same.new G4)) (by rw [L0];lia) (by
    rw [md.lt i l hl];exact StepAt.one A2 (C9 A2 G4))
  rintro O H2 ⟨u,v,w,x',y,z,r,rfl,S⟩;rw [A4,K9] at S;walk_at "rd";refine ⟨⟨_,S.same _ _ hc⟩,forE (xs:=M.map V.str) (fun i O H2=>∃ (u v w x y z r:Option V),O=[some (.ref a),some (.ref b),some (.ref c),some (.ref d),u,v,w,x,y,z,r]/\StI H H2 d (L++M.take i) F)
   ⟨u,v,w,x',y,z,r,rfl,by rw [bT,N3];exact S⟩ (by rintro i O H2 ⟨_,_,_,_,_,_,_,_,S⟩;exact S.same _ _ hc) ?_ ?_⟩
  .clear S;rintro i x t O H2 hx ⟨u,v,w,x',y,z,r,rfl,S⟩ nt;obtain ⟨l,hl,rfl⟩:=G9 hx;have hi:i<M.length:=(F6.mp hl).1;walk_at "rd";refine ⟨_,.of A2,rfl,_,_,rfl,_,_,rfl,rfl,by decide,fun p np=>⟨by decide,fun p1 G4=>?_⟩⟩;rw [J7 hl,<- W8];exact StI.put nd (((S.more (Same.new nt)).more (Same.new np)).more (Same.new G4)) (by rw [C8,L0];lia) (by
    rw [md.mr i l hl];exact StepAt.one A2 (C9 A2 G4))
  clear S H2 u v w x' y z r;rintro O H2 ⟨u,v,w,x',y,z,r,rfl,S⟩;rw [A4,K9] at S;walk_at "rd";refine ⟨a,ts,R,rfl,hR.same S.same,fun z hz e=>md.ne z hz (.inr e),hRl,o7,fun fd af H3 nfd S3 sH dl=>?_⟩;have nf0:H fd=none:=S.same.free nfd;have nf1:fd≠d:=fun e=>by
   obtain ⟨ad,h1,_⟩:=S.made;rw [<- e,nfd] at h1;cases h1
  have S':=S.more S3;have D7:=dl.row;clear S S3 dl nfd H2;refine ⟨fd,rfl,_,sH,fun o=>forD (fun i O H4=>∃ (u v w y z r:Option V),O=[some (.ref a),some (.ref b),some (.ref c),some (.ref d),u,v,w,some (.ref fd),y,z,r]/\FoI H H4 d fd o (E1 R) af (F8 R) (L++M++((E1 R).take i).flatMap (F8 R)) F)
   ⟨u,v,w,y,z,r,rfl,⟨A2,fun y hy=>by rw [A3 (fun e=>by have:=D7 y hy;rw [e,sH] at this;cases this)];exact D7 y hy,by rw [bT,List.flatMap_nil,N3];exact S'.frz sH nf0 nf1⟩⟩ (by rintro i O H4 ⟨_,_,_,_,_,_,_,h⟩;exact h.frz) ?_ ?_⟩
  .rintro i k v' O H4 hk ⟨u,v,w,y,z,r,rfl,J⟩;obtain ⟨l,hl,e⟩:=G9 (f:=fun t=>((Sum.inr t:C1),V.ref (af t))) hk;obtain ⟨rfl,rfl⟩:=Prod.mk.inj e;have nH:l∈E1 R:=K4 hl;have hlL:=md.gl l nH;have zL:(((E1 R).take i).flatMap (F8 R)).length+(F8 R l).length<=((E1 R).flatMap (F8 R)).length:=by
    have e:(E1 R).flatMap (F8 R)=((E1 R).take i).flatMap (F8 R)++F8 R l++((E1 R).drop (i+1)).flatMap (F8 R):=by
     have:=j9 (i+1) (E1 R)
     rw [J7 hl] at this;rw [<- this,Z4,Z4,g7,List.flatMap_nil,N3];rw [this]
    rw [e,C8,C8];lia
   walk_at "rd";refine ⟨V.ref (af l),.inl ⟨_,Sum.inr l,.inr ⟨o,J.frz⟩,rfl,by rw [N8,if_pos nH]⟩,af l,rfl,⟨_,J.rows l nH⟩,forE1 (xs:=(F8 R l).map V.str) (fun j O H5=>∃ (y z r:Option V),O=[some (.ref a),some (.ref b),some (.ref c),some (.ref d),u,some (kV (Sum.inr l)),w,some (.ref fd),y,z,r]/\FoI H H5 d fd o (E1 R) af (F8 R) (L++M++((E1 R).take i).flatMap (F8 R)++(F8 R l).take j) F) ⟨y,z,r,rfl,by rw [bT,N3];exact J⟩ (by rintro j O H5 ⟨_,_,_,_,h⟩;exact h.rows l nH) ?_ ?_⟩
   .clear J y z r;rintro j x t O H5 hx ⟨y,z,r,rfl,J⟩ nt;obtain ⟨f,hf,rfl⟩:=G9 hx;have hj:j<(F8 R l).length:=(F6.mp hf).1;have T1:Same H5 (A0 H5 t (.tup [.int ((j+1:Nat):Int),.str f])):=Same.new nt;have ht:A0 H5 t (.tup [.int ((j+1:Nat):Int),.str f]) t=some (.tup [.int ((j+1:Nat):Int),.str f]):=A2;generalize A0 H5 t (.tup [.int ((j+1:Nat):Int),.str f])=H6 at T1 ht ⊢
    have J6:=J.more T1;obtain ⟨ad,h1,h2⟩:=J6.st.made;have L4:l∈G8 [] (L++M++((E1 R).take i).flatMap (F8 R)++(F8 R l).take j):=by
     rw [v7];exact .inr (N6 _ (N6 _ (N6 _ hlL)))
    obtain ⟨tt,e1,e2⟩:=(h2 l L4).ex;rw [md.letter hlL] at e2;obtain ⟨t0,rfl,e3⟩:∃ t0,tt=[t0]/\H6 t0=some (tupT (2,(L.idxOf l:Int),0)):=by
     cases e2 with
     | cons h t=>cases t;exact ⟨_,rfl,h⟩
    walk_at "rd";refine ⟨_,.of ht,rfl,_,_,rfl,_,_,rfl,rfl,V.ref (ad l),.inl ⟨_,Sum.inr l,.inl h1,rfl,by rw [N8,if_pos L4]⟩,?_⟩;walk_at "rd";refine ⟨_,.inr (.of e1),V.ref t0,V4 _ _,?_⟩;walk_at "rd";refine ⟨_,.inr (.of e3),V.int (L.idxOf l:Int),G7 (j:=1) rfl,by decide,fun p np=>⟨by decide,fun p1 G4=>?_⟩⟩;rw [J7 hf,<- W8];exact FoI.put nd ((J6.more (Same.new np)).more (Same.new G4)) (by simp only [C8,L0];lia) (by
     rw [md.gr l nH j f hf];exact StepAt.one A2 (C9 A2 G4))
   .rintro O H5 ⟨y,z,r,rfl,J⟩;rw [A4,K9] at J;refine ⟨⟨_,_,_,_,_,_,rfl⟩,?_⟩;rw [J7 hl,Z4,g7,List.flatMap_nil,N3,<- W8];exact J
  rintro O H4 ⟨u,v,w,y,z,r,rfl,J⟩;rw [Q7,K9] at J;have S5:=J.st.thaw (o:=.dK (A8 (E1 R) fun y=>V.ref (af y))) J.frz nf0 nf1;generalize A0 H4 fd (.dK (A8 (E1 R) fun y=>V.ref (af y)))=H5 at S5 ⊢
  clear J sH D7;walk_at "rd";refine ⟨⟨_,.of (S5.same _ _ hR.top)⟩,forL (xs:=ts.map V.ref) (fun i O H6=>∃ (r:Option V),O=[some (.ref a),some (.ref b),some (.ref c),some (.ref d),u,v,w,some (.ref fd),y,z,r]/\StI H H6 d (L++M++(E1 R).flatMap (F8 R)++asKs (R.take i)) F) ⟨r,rfl,by rw [bT];rw [show asKs []=[] from rfl,N3];exact S5⟩ (by rintro i O H6 _ ⟨_,_,S⟩;exact .of (S.same _ _ hR.top)) ?_ ?_⟩
  .clear S5 r;rintro i x O H6 hx ⟨r,rfl,S⟩;obtain ⟨t,ht,rfl⟩:=G9 hx;obtain ⟨zz,hz,D7⟩:=Paired.at hR.row ht;have W7:=K4 hz;have hT:C6 K H6 t ((zz.1::zz.2).map V.str):=.of (S.same _ _ D7);walk_at "rd";refine ⟨_,.inr hT,V.str zz.1,V4 _ _,?_⟩;walk_at "rd"
   by_cases has:zz.1=("as" : Str)
   .rw [decide_eq_true has];refine iteT ?_;obtain ⟨w1,ps⟩:=zz;obtain rfl:w1=("as" : Str):=has;obtain ⟨p,qs,rfl⟩:∃ p qs,ps=p::qs:=by
     cases ps with
     | nil=>exact absurd rfl (md.ne _ W7 (.inl rfl))
     | cons p qs=>exact ⟨p,qs,rfl⟩
    have bJ:cutV (((("as" : Str),p::qs).1::(("as" : Str),p::qs).2).map V.str) (some 2) none=qs.map V.str:=eN _ 2;have hql:qs.length<=1000:=by have:=R1 _ W7;simp only [G6] at this;lia
    have zO:=alZ (R.take i);rw [L0] at zO;refine rSlR.t hT (v8 (k:=2) (by decide) (by simp)) fun s ns=>?_
    rw [bJ];have T1:Same H6 (A0 H6 s (.tup (qs.map V.str))):=Same.new ns;have hs:A0 H6 s (.tup (qs.map V.str)) s=some (.tup (qs.map V.str)):=A2;generalize A0 H6 s (.tup (qs.map V.str))=H7 at T1 hs;have S7:=S.more T1;have hT7:C6 K H7 t (((("as" : Str),p::qs).1::(("as" : Str),p::qs).2).map V.str):=C6.same T1 hT;clear hT S;refine ⟨s,rfl,⟨_,.of hs⟩,compT (xs:=qs.map V.str) [some (.ref d)] rfl (fun D j ys H8=>∃ dO:List Addr,ys=dO.map V.ref/\AsI H H7 H8 d (L++M++(E1 R).flatMap (F8 R)++asKs (R.take i)) F dO ((qs.take j).map fun q=>(F q).headD (0,0,0))) (fun D nD=>⟨[],rfl,S7.more (Same.new nD),.nil,Same.new nD⟩) (by rintro D j ys H8 nD _ ⟨_,_,h⟩;exact .of (h.sm _ _ hs)) ?_ ?_⟩
    .rintro D j yv ys H8 nD hi hy ⟨dO,rfl,J⟩ hD M8;obtain ⟨qq,hq,rfl⟩:=G9 hy;have hqb:=md.pt _ W7 rfl qq (K4 hq);obtain ⟨st,X2⟩:=md.base hqb;obtain ⟨ad,h1,h2⟩:=J.st.made;have L4:qq∈G8 [] (L++M++(E1 R).flatMap (F8 R)++asKs (R.take i)):=by
      rw [v7];refine .inr (N6 _ (N6 _ (D4.mpr hqb)))
     obtain ⟨tt,e1,e2⟩:=(h2 qq L4).ex;rw [X2] at e2;obtain ⟨t0,rfl,e3⟩:∃ t0,tt=[t0]/\H8 t0=some (tupT st):=by
      cases e2 with
      | cons h t=>cases t;exact ⟨_,rfl,h⟩
     walk_at "rd";refine ⟨V.ref (ad qq),.inl ⟨_,Sum.inr qq,.inl h1,rfl,by rw [N8,if_pos L4]⟩,?_⟩;walk_at "rd";have sG:dO.length<=1000:=by
      have:=Paired.length J.pr
      rw [A4,L0] at this;lia
     refine ⟨_,.inr (.of e1),V.ref t0,V4 _ _,hD,by rw [A4];exact G5 (by lia),CW.put hi M8 ⟨dO++[t0],by rw [D6];rfl,?_⟩⟩;refine AsI.putL (f:=D) ⟨J.st,?_,J.sm⟩ hD (S7.same.free nD) nD;rw [J7 hq,D6];refine Paired.snoc J.pr ?_;show H8 t0=some (tupT ((F qq).headD (0,0,0)));rw [X2];exact e3
    rintro D ys H8 nD ⟨dO,rfl,J⟩ hD M8;rw [A4,K9] at J;rw [tup_r];refine rTupR.l (.of hD) fun p1 G4=>?_
    have K3:K7 (((("as" : Str),p::qs).1::(("as" : Str),p::qs).2).map V.str) 1=some (V.str p):=G7 (j:=1) rfl;have S8:Same H8 (A0 H8 p1 (.tup (dO.map V.ref))):=Same.new G4;refine ⟨_,.inr (C6.same (J.sm.trans S8) hT7),V.str p,K3,?_⟩;rw [agy hz,ah7,<- W8];refine StI.put nd (J.st.more S8) (by simp only [C8];lia) ?_;rw [md.as _ W7 rfl p qs rfl];exact ⟨dO,A2,T3 J.pr fun t s e=>S8 _ _ e⟩
   .rw [decide_eq_false has];refine iteF ?_;rw [agy hz,akb has,N3];exact S
  rintro O H6 ⟨r,rfl,S⟩;rw [A4,hR.len,K9] at S;walk_at "rd";exact q d H6 nd S.same S.made
theorem adH:FnScope ["self", "rules"] ["self", "rules"] (C3 cO):=G2
abbrev acJ:List Str:=["self", "rules"]
theorem aU:VS acJ cO "self" 0:=vq
theorem eV:VS acJ cO "rules" 1:=vq
theorem adI(F:FunD K "__init__" "Order.__init__" cO f fd)(T:Txt P w K mg C C_Shelf)(G_has_rule:FO P w K mg base 1 "has_rule" ["rules", "word"] [] (spHas K))(G_jobs_of:FO P w K mg base 3 "jobs_of" ["rules"] [] (amB K))(G_check_letters:FO P w K mg base 2 "check_letters" ["rules", "jobs"] [] (ah6 K))(G_line_of:FO P w K mg base 4 "line_of" ["rules", "word"] [] (amC K))(G_steps_of:FO P w K mg base 2 "steps_of" ["rules", "letters", "marks"] [] (ah8 K)):FnOk P w K mg base D9 5 f fd ["self", "rules"] (vD C):=by
 refine F.ok adH ?_ ?_
 .rintro _ _ _ _ ⟨x,dx,a,ts,R,g,r1,r2,rfl,_⟩;rfl
 .intro cdv A outer s H vs Q E hr h;have C5:=hu_of hr;have hu:=hr.units;refine ⟨_,QSs.out (A6 (cF (K:=K) (vi aU) (E8 G_has_rule (hm hr) (qa_c (vi eV) (qa_c K2 A1))))
   (A6 (cF (K:=K) (vi aU) (E8 G_has_rule (hm hr) (qa_c (vi eV) (qa_c K2 A1))))
   (A6 (cF (K:=K) (vi aU) (E8 G_jobs_of (hm hr) (qa_c (vi eV) A1)))
   (A6 (L9 (E8 G_check_letters (hm hr) (qa_c (vi eV) (qa_c (T5 (K:=K) (vi aU)) A1))))
   (A6 (cF (K:=K) (vi aU) (E8 G_line_of (hm hr) (qa_c (vi eV) (qa_c K2 A1))))
   (A6 (cF (K:=K) (vi aU) (E8 G_line_of (hm hr) (qa_c (vi eV) (qa_c K2 A1))))
   (A7 (cF (K:=K) (vi aU) (E8 G_steps_of (hm hr) (qa_c (vi eV) (qa_c (T5 (K:=K) (vi aU)) (qa_c (T5 (K:=K) (vi aU)) A1)))))))))))),?_⟩
  obtain ⟨x,dx,a,ts,R,g,r1,r2,rfl,hx,hR,pl,q⟩:=h;have lp:∀ (f:Str) (y:V) (fs:List (Str×V)),(putF f y fs).length<=fs.length+1:=tF;walk_at "rd";refine ⟨a,ts,R, "figures",rfl,hR,pl.len,fun H1 S1=>⟨C,dx,[],S1 _ _ hx,T.cl,T.na_figures,by decide,?_⟩⟩;generalize hF1:putF (Str.ofString "figures") (V.bl (hasW R (Str.ofString "figures"))) []=F1;have l1:F1.length<=1:=by rw [<- hF1];exact lp _ _ _
  have B2:SameBut x H (A0 H1 x (.ins C dx F1)):=(Same.but S1).at;have fX:A0 H1 x (.ins C dx F1) x=some (.ins C dx F1):=A2;generalize A0 H1 x (.ins C dx F1)=H2 at B2 fX;have hR2:=hR.but B2 hx;refine ⟨a,ts,R, "behind",rfl,hR2,pl.len,fun H3 S3=>⟨C,dx,F1,S3 _ _ fX,T.cl,T.na_behind,by lia,?_⟩⟩;generalize hF2:putF (Str.ofString "behind") (V.bl (hasW R (Str.ofString "behind"))) F1=F2;have l2:F2.length<=2:=by rw [<- hF2];exact K6 (lp _ _ _) (by lia)
  have B4:SameBut x H2 (A0 H3 x (.ins C dx F2)):=(Same.but S3).at;have jV:A0 H3 x (.ins C dx F2) x=some (.ins C dx F2):=A2;generalize A0 H3 x (.ins C dx F2)=H4 at B4 jV;have hR4:=hR2.but B4 fX;refine ⟨a,ts,R,g,rfl,hR4,pl.len,pl.plen,pl.nc,pl.nb,fun j H5 nj S5 hj=>?_⟩;have njx:j≠x:=fun e=>by rw [e,jV] at nj;cases nj
  generalize hF3:putF (Str.ofString "jobs") (V.ref j) F2=F3;have l3:F3.length<=3:=by rw [<- hF3];exact K6 (lp _ _ _) (by lia)
  have k3:F3.lookup (Str.ofString "jobs")=some (V.ref j):=by rw [<- hF3,L7,if_pos rfl]
  refine ⟨C,dx,F2,S5 _ _ jV,T.cl,T.na_jobs,by lia,?_⟩;rw [hF3];have B6:SameBut x H4 (A0 H5 x (.ins C dx F3)):=(Same.but S5).at;have nI:A0 H5 x (.ins C dx F3) x=some (.ins C dx F3):=A2;have zP:A0 H5 x (.ins C dx F3) j=some (.dK (A8 (keysP (D0 R)++Y1 R) (jobG g))):=by rw [A3 njx];exact hj
  generalize A0 H5 x (.ins C dx F3)=H6 at B6 nI zP;have hR6:=hR4.but B6 jV;refine ⟨C,dx,F3,nI,T.cl,T.na_jobs,_,k3,a,j,ts,R,_,_,rfl,hR6,zP,fun z hz=>⟨pl.used hz,pl.zl z hz⟩,fun H7 S7=>?_⟩;refine ⟨a,ts,R, "row",r1,rfl,hR6.same S7,pl.len,K6 pl.f1 (by decide),pl.a1,fun ll L H8 nll S8 zJ run cov=>?_⟩;have hx8:=S8 _ _ (S7 _ _ nI);have nlx:ll≠x:=fun e=>by rw [e,S7 _ _ nI] at nll;cases nll
  have llen:L.length<=10000:=by
   rw [pV (iM _) run cov];exact K6 (lC _) pl.f1
  generalize hF4:putF (Str.ofString "letter_line") (V.ref ll) F3=F4;have l4:F4.length<=4:=by rw [<- hF4];exact K6 (lp _ _ _) (by lia)
  refine ⟨C,dx,F3,hx8,T.cl,T.na_letter_line,by lia,?_⟩;rw [hF4];have B9:SameBut x H6 (A0 H8 x (.ins C dx F4)):=(Same.but (S7.trans S8)).at;have sI:A0 H8 x (.ins C dx F4) x=some (.ins C dx F4):=A2;have nJ:A0 H8 x (.ins C dx F4) ll=some (.lst (L.map V.str)):=by rw [A3 nlx];exact zJ
  generalize A0 H8 x (.ins C dx F4)=H9 at B9 sI nJ;have hR9:=hR6.but B9 nI;refine ⟨a,ts,R, "marks",r2,rfl,hR9,pl.len,K6 pl.f2 (by decide),pl.a2,fun ml M V0 nml o9 hml run2 cov2=>?_⟩;have nmx:ml≠x:=fun e=>by rw [e,sI] at nml;cases nml
  have mlen:M.length<=10000:=by
   rw [pV (iM _) run2 cov2];exact K6 (lC _) pl.f2
  generalize hF5:putF (Str.ofString "mark_line") (V.ref ml) F4=F5;have l5:F5.length<=5:=by rw [<- hF5];exact K6 (lp _ _ _) (by lia)
  refine ⟨C,dx,F4,o9 _ _ sI,T.cl,T.na_mark_line,by lia,?_⟩;rw [hF5];have B11:SameBut x H9 (A0 V0 x (.ins C dx F5)):=(Same.but o9).at;have g0:A0 V0 x (.ins C dx F5) x=some (.ins C dx F5):=A2;have p0:A0 V0 x (.ins C dx F5) ml=some (.lst (M.map V.str)):=by rw [A3 nmx];exact hml
  have p4:A0 V0 x (.ins C dx F5) ll=some (.lst (L.map V.str)):=by rw [A3 nlx];exact o9 _ _ nJ
  generalize A0 V0 x (.ins C dx F5)=fT at B11 g0 p0 p4;have hR11:=hR9.but B11 sI;have kl:F5.lookup (Str.ofString "letter_line")=some (V.ref ll):=by rw [<- hF5,L7,if_neg (by decide +kernel),<- hF4,L7,if_pos rfl]
  have km:F5.lookup (Str.ofString "mark_line")=some (V.ref ml):=by rw [<- hF5,L7,if_pos rfl]
  refine ⟨C,dx,F5,g0,T.cl,T.na_letter_line,_,kl,C,dx,F5,g0,T.cl,T.na_mark_line,_,km,a,ll,ml,ts,R,L,M,stepF R L M,rfl,hR11,aoc pl ⟨run,cov⟩ ⟨run2,cov2⟩,p4,p0,pl.zl,pl.len,ake pl,K6 (aod pl ⟨run,cov⟩ ⟨run2,cov2⟩) (by decide),fun md nK nmd f9 hmd=>⟨C,dx,F5,f9 _ _ g0,T.cl,T.na_made,by lia,?_⟩⟩;have nmdx:md≠x:=fun e=>by rw [e,g0] at nmd;cases nmd
  have B:SameBut x H (A0 nK x (.ins C dx (putF (Str.ofString "made") (V.ref md) F5))):=((B2.trans B4).trans ((B6.trans B9).trans (B11.trans (Same.but f9)))).at;have fr:∀ {H':Hp} {y:Addr},SameBut x H H'->H' y=none->y≠x->H y=none:=fun {H' y} b n nx=>by
   cases e:H y with
   | none=>rfl
   | some o=>have:=b _ _ nx e;rw [n] at this;cases this
  have B44:=B2.trans B4;refine q j ll ml md L M _ (fr B44 nj njx) (fr ((B44.trans B6).trans (Same.but S7)) nll nlx) (fr ((B44.trans B6).trans B9) nml nmx) (fr (((B44.trans B6).trans B9).trans B11) nmd nmdx) B ⟨⟨dx,?_⟩,?_,?_,?_,hmd.mod (f9 _ _ g0) (by intro xs e;cases e) nmdx,⟨run,cov⟩,⟨run2,cov2⟩⟩
  .rw [A2,<- hF5,<- hF4,<- hF3,<- hF2,<- hF1];rfl
  .rw [A3 njx];exact f9 _ _ (B11 _ _ njx (B9 _ _ njx zP))
  .rw [A3 nlx];exact f9 _ _ p4
  .rw [A3 nmx];exact f9 _ _ p0
theorem sc_figures_at:FnScope ["text", "at", "end"] ["text", "at"] (C3 eT):=G2
abbrev wX:List Str:=["text", "at", "end"]
theorem wY:VS wX eT "text" 0:=vq
theorem vbI:VS wX eT "at" 1:=vq
theorem wZ:VS wX eT "end" 2:=vq
theorem vbK:LS eT "end":=lq
theorem afU(F:FunD K "figures_at" "figures_at" eT f fd)(T:Txt P w K mg C C_Shelf)(G_is_figure:FO P w K mg base 1 "is_figure" ["sign"] [] iQ):FnOk P w K mg base D9 2 f fd ["text", "at"] akh:=by
 refine F.ok sc_figures_at ?_ ?_
 .rintro _ _ _ _ ⟨z,pre,rest,rfl,_⟩;rfl
 .intro cdv A outer s H vs Q E hr h;have C5:=hu_of hr;have hu:=hr.units;refine ⟨_,QSs.out (A6 (D3 (n:=2) sc_figures_at.nd rfl vbK (vi vbI))
   (A6 (uB PassesOwn.never (QW.pt (pO (J5 q_lt (vi wZ) (qe_cB (q_len (K:=K)) T.b_len Q6 (qa_c (vi wY) A1))) (pM (R4 (K:=K) (E8 G_is_figure (hm hr) (qa_c (qe_ix (K:=K) (vi wY) (vi wZ)) A1)))))) (A7 (amv (n:=2) sc_figures_at.nd rfl vbK A5 amx)))
   (A7 (D8 (T4 (K:=K) (vi wY) (O6 (vi vbI)) (O6 (vi wZ))))))),?_⟩
  obtain ⟨z,pre,rest,rfl,hz,R1,q⟩:=h;walk_at "rd";have A9:z.length=pre.length+rest.length:=by
   have:=congrArg i0 R1
   simp [Str.length] at this ⊢
   lia
  have hsz:z.length<=sizeLine:=i9 (by lia);refine uD (fun m O H2=>∃ (run left:List Nat),O=[some (.str z),some (.int pre.length),some (.int ((pre++run).length:Nat))]/\H2=H/\rest=run++left/\rest.takeWhile figO=run++left.takeWhile figO/\m=left.length) rest.length ⟨[],rest,by simp,rfl,rfl,rfl,rfl⟩ ?_;rintro m O H2 ⟨run,left,rfl,rfl,hr,zQ,rfl⟩;have nM:z.cps.toList=pre++(run++left):=by rw [R1,hr]
  have y9:rest.length=run.length+left.length:=by rw [hr,C8]
  have ecut:cutS z (some (pre.length:Int)) (some (((pre++run).length:Nat):Int))=⟨run.toArray⟩:=by
   have:=vF (y:=run) (rest:=left) nM
   rw [show (((pre++run).length:Nat):Int)=(pre.length:Int)+(run.length:Int) by rw [C8];lia];exact this
  have hpr:(pre++run).length=pre.length+run.length:=C8;walk_at "rd";refine ⟨hsz,iteD (fun C4=>⟨hsz,?_⟩) fun dH=>⟨hsz,?_⟩⟩
  .cases left with
   | nil=>simp at y9;lia
   | cons c l2=>
    refine ⟨c,?_,c,rfl,figO c,rfl,?_⟩
    .rw [nM,<- W8];exact akg
    by_cases hf:figO c=true
    .rw [hf];refine iteT ⟨_,fun _ _ h=>h,l2.length,by simp,run++[c],by simp;lia,rfl,l2,by rw [hr];simp,?_,rfl⟩;rw [zQ,List.takeWhile_cons_of_pos hf]
     simp
    .rw [kN] at hf;rw [hf];refine iteF ⟨hsz,?_⟩;rw [ecut];rw [zQ,List.takeWhile_cons_of_neg (by simp [hf]),N3] at q;exact q
  .have fC:left=[]:=bP.mp (by lia);rw [zQ,fC,List.takeWhile_nil,N3] at q;rw [ecut];exact q
theorem sc_part_at:FnScope ["known", "text", "at", "figures", "two"] ["known", "text", "at", "figures"] (C3 aS):=G2
abbrev mD:List Str:=["known", "text", "at", "figures", "two"]
theorem vbL:VS mD aS "known" 0:=vq
theorem mE:VS mD aS "text" 1:=vq
theorem jF:VS mD aS "at" 2:=vq
theorem vbO:VS mD aS "figures" 3:=vq
theorem vbP:VS mD aS "two" 4:=vq
theorem vbQ:LS aS "two":=lq
theorem ai2(F:FunD K "part_at" "part_at" aS f fd)(T:Txt P w K mg C C_Shelf)(G_is_figure:FO P w K mg base 1 "is_figure" ["sign"] [] iQ)(G_figures_at:FO P w K mg base 2 "figures_at" ["text", "at"] [] akh):FnOk P w K mg base D9 3 f fd ["known", "text", "at", "figures"] aki:=by
 refine F.ok sc_part_at ?_ ?_
 .rintro _ _ _ _ ⟨d,z,g,pre,c,r,w,y,rfl,_⟩;rfl
 .intro cdv A outer s H vs Q E hr h;have C5:=hu_of hr;have hu:=hr.units;refine ⟨_,QSs.out (A6 (qs_if (QW.pt (pO (R4 (K:=K) (vi vbO)) (pM (R4 (K:=K) (E8 G_is_figure (hm hr) (qa_c (qe_ix (K:=K) (vi mE) (vi jF)) A1)))))) (A7 (D8 (E8 G_figures_at (hm hr) (qa_c (vi mE) (qa_c (vi jF) A1))))) K8)
   (A6 (D3 (n:=4) sc_part_at.nd rfl vbQ (T4 (K:=K) (vi mE) (O6 (vi jF)) (O6 (qe_op (q_add (K:=K)) (vi jF) A5))))
   (A6 (qs_if (J5 (q_in (K:=K) hu) (vi vbP) (vi vbL)) (A7 (D8 (vi vbP))) K8)
   (A6 (qs_if (J5 (q_in (K:=K) hu) (qe_ix (K:=K) (vi mE) (vi jF)) (vi vbL)) (A7 (D8 (qe_ix (K:=K) (vi mE) (vi jF)))) K8)
   (A7 iI))))),?_⟩
  obtain ⟨d,z,g,pre,c,r,w,y,rfl,hd,hz,R1,hp,q⟩:=h;have hsz:z.length<=sizeLine:=i9 (by lia);have ha:K7 z.cps.toList (pre.length:Int)=some c:=by rw [R1];exact akg
  rw [eR] at hp
  cases w with
  | false=>
   rw [Bool.false_and,if_neg L3] at hp;walk_at "rd"
   cases r with
   | nil=>
    rw [iT] at hp
    by_cases h1:one c∈g
    .rw [if_pos h1] at hp;obtain rfl:=Option.some.inj hp;rw [agF R1];refine ⟨hsz,rInR.d (W4 (k:=Sum.inr (one c)) hd) ⟨_,rfl,?_⟩⟩;rw [iS,aF,decide_eq_true h1];exact iteT q
    .rw [if_neg h1] at hp;cases hp
   | cons e r=>
    rw [m5] at hp;have ec:cutS z (some (pre.length:Int)) (some ((pre.length:Int)+2))=two c e:=vF (y:=[c,e]) (rest:=r) R1;rw [ec];refine ⟨hsz,rInR.d (W4 (k:=Sum.inr (two c e)) hd) ⟨_,rfl,?_⟩⟩;rw [iS,aF];refine iteD (fun h=>?_) fun h=>⟨hsz,c,ha,rInR.d (W4 (k:=Sum.inr (one c)) hd) ⟨_,rfl,?_⟩⟩
    .rw [if_pos h] at hp;obtain rfl:=Option.some.inj hp;exact q
    .rw [if_neg h] at hp
     by_cases h1:one c∈g
     .rw [if_pos h1] at hp;obtain rfl:=Option.some.inj hp;rw [iS,aF,decide_eq_true h1];exact iteT ⟨hsz,c,ha,q⟩
     .rw [if_neg h1] at hp;cases hp
  | true=>
   rw [Bool.true_and] at hp;walk_at "rd";refine ⟨hsz,c,ha,c,rfl,figO c,rfl,?_⟩
   by_cases hf:figO c=true
   .rw [hf];rw [if_pos hf] at hp;obtain rfl:=Option.some.inj hp;exact iteT ⟨z,pre,c::r,rfl,hz,R1,q⟩
   rw [if_neg hf] at hp;rw [kN] at hf;rw [hf];refine iteF ?_
   cases r with
   | nil=>
    rw [iT] at hp
    by_cases h1:one c∈g
    .rw [if_pos h1] at hp;obtain rfl:=Option.some.inj hp;rw [agF R1];refine ⟨hsz,rInR.d (W4 (k:=Sum.inr (one c)) hd) ⟨_,rfl,?_⟩⟩;rw [iS,aF,decide_eq_true h1];exact iteT q
    .rw [if_neg h1] at hp;cases hp
   | cons e r=>
    rw [m5] at hp;have ec:cutS z (some (pre.length:Int)) (some ((pre.length:Int)+2))=two c e:=vF (y:=[c,e]) (rest:=r) R1;rw [ec];refine ⟨hsz,rInR.d (W4 (k:=Sum.inr (two c e)) hd) ⟨_,rfl,?_⟩⟩;rw [iS,aF];refine iteD (fun h=>?_) fun h=>⟨hsz,c,ha,rInR.d (W4 (k:=Sum.inr (one c)) hd) ⟨_,rfl,?_⟩⟩
    .rw [if_pos h] at hp;obtain rfl:=Option.some.inj hp;exact q
    .rw [if_neg h] at hp
     by_cases h1:one c∈g
     .rw [if_pos h1] at hp;obtain rfl:=Option.some.inj hp;rw [iS,aF,decide_eq_true h1];exact iteT ⟨hsz,c,ha,q⟩
     .rw [if_neg h1] at hp;cases hp
theorem sc_cut:FnScope ["known", "text", "figures", "pieces", "parts", "at", "part"] ["known", "text", "figures"] (C3 s_cut):=G2
abbrev n_cut:List Str:=["known", "text", "figures", "pieces", "parts", "at", "part"]
theorem vbR:VS n_cut s_cut "known" 0:=vq
theorem vbS:VS n_cut s_cut "text" 1:=vq
theorem vbT:VS n_cut s_cut "figures" 2:=vq
theorem vbU:VS n_cut s_cut "pieces" 3:=vq
theorem vbV:VS n_cut s_cut "parts" 4:=vq
theorem vbW:VS n_cut s_cut "at" 5:=vq
theorem vbX:VS n_cut s_cut "part" 6:=vq
theorem vbY:LS s_cut "pieces":=lq
theorem vbZ:LS s_cut "parts":=lq
theorem vb0:LS s_cut "at":=lq
theorem vb1:LS s_cut "part":=lq
theorem amR(F:FunD K "cut" "cut" s_cut f fd)(T:Txt P w K mg C C_Shelf)(G_part_at:FO P w K mg base 3 "part_at" ["known", "text", "at", "figures"] [] aki):FnOk P w K mg base D9 4 f fd ["known", "text", "figures"] (qG K):=by
 refine F.ok sc_cut ?_ ?_
 .rintro _ _ _ _ ⟨a,z,ks,w,rfl,_⟩;rfl
 .intro cdv A outer s H vs Q E hr h;have C5:=hu_of hr;have hu:=hr.units;refine ⟨_,QSs.out (A6 (D3 (n:=3) sc_cut.nd rfl vbY (qe_cT (ajO (K:=K) (calm:=true)) T.b_dict ajF (qa_c (Y0  (T9:CompOk ["known", "text", "figures", "pieces", "parts", "at", "part"] (C3 s_cut).names _ ["piece"] 1 []) (O7 (K:=K) (vi vbR)) (fun _ _ _ _ _=>D5 (n:=0) (show List.Nodup (["piece"]:List Str) by decide +kernel) rfl (Or.inl rfl)) (fun _ _ _ _ _=>l9) (fun _ _ _ _ _=>(O5 (qa_c (qv 0) (qa_c qe_bl A1))))) A1)))
   (A6 (D3 (n:=4) sc_cut.nd rfl vbZ (N1 A1))
   (A6 (D3 (n:=5) sc_cut.nd rfl vb0 A5)
   (A6 (uB PassesOwn.never (J5 q_lt (vi vbW) (qe_cB (q_len (K:=K)) T.b_len Q6 (qa_c (vi vbS) A1))) (A6 (D3 (n:=6) sc_cut.nd rfl vb1 (E8 G_part_at (hm hr) (qa_c (vi vbU) (qa_c (vi vbS) (qa_c (vi vbW) (qa_c (vi vbT) A1))))))
   (A6 (L9 (qe_mB (K:=K) O3 R9 R8 T7 (vi vbV) (qa_c (vi vbX) A1)))
   (A7 (amv (n:=5) sc_cut.nd rfl vb0 (qe_cB (q_len (K:=K)) T.b_len Q6 (qa_c (vi vbX) A1)) amx)))))
   (A7 (D8 (vi vbV))))))),?_⟩
  obtain ⟨a,z,ks,w,rfl,hS,U0,hz,hw,q⟩:=h;walk_at "rd";refine ⟨⟨_,hS⟩,compL (xs:=ks.map V.str) [] rfl (fun D i ys H4=>∃ ts:List Addr,ys=ts.map V.ref/\Paired (fun t k=>H4 t=some (.tup [V.str k,V.bl true])) ts (ks.take i)/\Same H H4) (fun D nD=>⟨[],rfl,.nil,Same.new nD⟩) (by rintro D i ys H4 nD _ ⟨_,_,_,S⟩;exact S.seq hS) ?_ ?_⟩
  .rintro D i x ys H4 nD hi hx ⟨ts,rfl,P,S⟩ hD hy;obtain ⟨k,hk,rfl⟩:=G9 hx;rw [A4] at hi;walk_at "rd";refine ⟨by decide,fun t nt=>⟨C9 hD nt,G5 (by lia),CW.put (by rw [A4];exact hi) hy ⟨ts++[t],by rw [D6];rfl,?_,Same.put (fun b o h=>C9 (S b o h) nt) nD⟩⟩⟩;have hDt:D≠t:=fun e=>by rw [e,nt] at hD;cases hD
   rw [g6,hk,Option.toList_some];refine Paired.snoc (T3 P fun r k h=>?_) (by rw [A3 hDt.symm,A2]);rw [A3 (fun e=>by rw [e,hD] at h;cases h)];exact C9 h nt
  rintro D ys H4 nD ⟨ts,rfl,P,S⟩ hD hy;rw [A4,K9] at P;have P2:Paired (fun t (kx:C1×V)=>C6 K H4 t [kV kx.1,kx.2]) ts (kvOf ks):=by
   clear hD hy nD S U0 hS q hw
   induction P with
   | nil=>exact .nil
   | cons h t ih=>exact .cons (.of h) ih
  refine ⟨rfl,D,ts,kvOf ks,rfl,.of hD,P2,fun d nd=>?_⟩;rw [show W5 [] (kvOf ks)=kvOf (G8 [] ks) from ae7 ks []];have S1:Same H (A0 H4 d (.dK (kvOf (G8 [] ks)))):=fun b o h=>C9 (S b o h) nd
  have hd:A0 H4 d (.dK (kvOf (G8 [] ks))) d=some (.dK (kvOf (G8 [] ks))):=A2;generalize A0 H4 d (.dK (kvOf (G8 [] ks)))=H5 at S1 hd;have zR:∀ l,cutF w (G8 [] ks) l=cutF w ks l:=aiP fun x=>by rw [v7];simp
  generalize G8 [] ks=g at hd zR;refine fun p np=>uD (fun m O H6=>∃ (pre rest:List Nat) (ps:List Str) (u:Option V),O=[some (.ref a),some (.str z),some (.bl w),some (.ref d),some (.ref p),some (.int pre.length),u]/\Same H5 H6/\H6 p=some (.lst (ps.map V.str))/\z.cps.toList=pre++rest/\(cutF w g z.cps.toList).1=pre.length+(cutF w g rest).1/\(cutF w g z.cps.toList).2=ps++(cutF w g rest).2/\ps.length<=pre.length/\m=rest.length) z.cps.toList.length
   ⟨[],z.cps.toList,[],none,rfl,Same.new np,A2,rfl,by simp,rfl,F7 _,rfl⟩ ?_
  rintro m O H6 ⟨pre,rest,ps,u,rfl,S6,h6,R1,nN,P8,O0,rfl⟩;have A9:z.length=pre.length+rest.length:=by
   have:=congrArg i0 R1
   simp [Str.length] at this ⊢
   lia
  walk_at "rd";refine ⟨i9 (by lia),iteD (fun C4=>?_) fun dH=>?_⟩
  .cases rest with
   | nil=>simp at A9;lia
   | cons c r=>
    cases hy:partF w g (c::r) with
    | none=>
     exfalso
     rw [lM hy] at nN;have zS:=hw;unfold aO at zS;rw [<- zR,nN] at zS;simp at A9 zS;lia
    | some y=>
     refine ⟨_,fun _ _ h=>h,d,z,g,pre,c,r,w,y,rfl,S6 _ _ hd,hz,R1,hy,?_⟩;obtain ⟨rest',e1,e2,e3⟩:=iU hy;rw [e2] at nN P8;have el:y.cps.toList.length=y.length:=by simp [Str.length]
     have erl:(c::r).length=y.length+rest'.length:=by rw [e1,C8,el]
     refine ⟨N7 h6,appOk h6 (by rw [A4];exact G5 (by lia)) ?_⟩;walk_at "rd";refine ⟨i9 (by lia),rest'.length,by rw [G6] at erl;lia,pre++y.cps.toList,by rw [C8,el];lia,S6.put np,rest',ps++[y],by rw [A2,D6];rfl,R1.trans (by rw [W8];exact congrArg (pre++·) e1),by rw [C8,el,nN];dsimp only;lia,by rw [P8,W8];rfl,by rw [C8,C8,el,R3];lia,rfl⟩
  .have hr:rest=[]:=bP.mp (by lia);rw [hr] at nN P8;refine q p H6 (S1.free np) (S1.trans S6) ?_;rw [h6,<- zR,P8];show some (HO.lst (ps.map V.str))=some (HO.lst ((ps++[]).map V.str));rw [N3]
theorem aeK:FnScope ["self"] ["self"] (C3 eU):=G2
abbrev afV:List Str:=["self"]
theorem vb2:VS afV eU "self" 0:=vq
theorem aeL(F:FunD K "known" "Order.known" eU f fd)(T:Txt P w K mg C C_Shelf):FnOk P w K mg base D9 1 f fd ["self"] (vG C):=by
 refine F.ok aeK ?_ ?_
 .rintro _ _ _ _ ⟨x,j,ll,ml,md,g,R,L,M,rfl,_⟩;rfl
 .intro cdv A outer s H vs Q E hr h;have C5:=hu_of hr;have hu:=hr.units;refine ⟨_,QSs.out (A7 (D8 (qe_cT (pQ (K:=K) (calm:=true)) T.b_list lA (qa_c (T5 (K:=K) (vi vb2)) A1)))),?_⟩;obtain ⟨x,j,ll,ml,md,g,R,L,M,rfl,hO,q⟩:=h;obtain ⟨dx,h1⟩:=hO.ob;walk_at "rd";refine ⟨_,_,_,h1,T.cl,T.na_jobs,_,aj1 _ _ _ _ _ _,?_⟩;walk_at "rd";refine rListR.d (.of hO.jobs) fun l nl=>?_
  rw [show (A8 (keysP (D0 R)++Y1 R) (jobG g)).map (fun kv=>kV kv.1)=(F9 R).map V.str by unfold A8 F9;rw [g9];rfl];exact q l nl
theorem aeM:FnScope ["self", "piece"] ["self", "piece"] (C3 cP):=G2
abbrev adt:List Str:=["self", "piece"]
theorem vb3:VS adt cP "self" 0:=vq
theorem vb4:VS adt cP "piece" 1:=vq
theorem aeN(F:FunD K "steps" "Order.steps" cP f fd)(T:Txt P w K mg C C_Shelf):FnOk P w K mg base D9 1 f fd ["self", "piece"] (qH C):=by
 refine F.ok aeM ?_ ?_
 .rintro _ _ _ _ ⟨x,j,ll,ml,md,p,g,R,L,M,rfl,_⟩;rfl
 .intro cdv A outer s H vs Q E hr h;have C5:=hu_of hr;have hu:=hr.units;refine ⟨_,QSs.out (A7 (D8 (alE C5 (T5 (K:=K) (vi vb3)) (vi vb4) (O5 A1)))),?_⟩;obtain ⟨x,j,ll,ml,md,p,g,R,L,M,rfl,hO,q⟩:=h;obtain ⟨dx,h1⟩:=hO.ob;obtain ⟨ad,a1,a2⟩:=hO.made;walk_at "rd";refine ⟨_,_,_,h1,T.cl,T.na_made,_,akj _ _ _ _ _ _,md,rfl,.inl ⟨_,.inl a1⟩,fun e ne=>⟨_,W4 (k:=Sum.inr p) (C9 a1 ne),?_⟩⟩;rw [N8];have S:Same H (A0 H e (.tup [])):=Same.new ne
  by_cases hp:p∈G8 [] (allKs R L M)
  .rw [if_pos hp];exact q _ _ S ((a2 p hp).same S)
  .rw [if_neg hp];refine q _ _ S ⟨[],A2,?_⟩;rw [aiQ fun h=>hp ((v7 _ _ _).mpr (.inr h))];exact .nil
theorem ahA:FnScope ["order", "text"] ["order", "text"] (C3 lQ):=G2
abbrev afh:List Str:=["order", "text"]
theorem vb5:VS afh lQ "order" 0:=vq
theorem vb6:VS afh lQ "text" 1:=vq
theorem ahB(F:FunD K "parts_of" "parts_of" lQ f fd)(T:Txt P w K mg C C_Shelf)(G3_cut:FO P w K mg base 4 "cut" ["known", "text", "figures"] [] (qG K))(G_Order_known:MO P w K mg base 1 C "known" ["self"] (vG C)):FnOk P w K mg base D9 5 f fd ["order", "text"] (vH C):=by
 refine F.ok ahA ?_ ?_
 .rintro _ _ _ _ ⟨x,j,ll,ml,md,z,g,R,L,M,rfl,_⟩;rfl
 .intro cdv A outer s H vs Q E hr h;have C5:=hu_of hr;have hu:=hr.units;refine ⟨_,QSs.out (A7 (D8 (E8 G3_cut (hm hr) (qa_c (uP (vi vb5) G_Order_known (hm hr)) (qa_c (vi vb6) (qa_c (T5 (K:=K) (vi vb5)) A1)))))),?_⟩;obtain ⟨x,j,ll,ml,md,z,g,R,L,M,rfl,hO,hk,hz,hw,q⟩:=h;obtain ⟨dx,h1⟩:=hO.ob;walk_at "rd";refine ⟨_,_,h1,aj2 _ _ _ _ _ _ (by decide +kernel),x,j,ll,ml,md,g,R,L,M,rfl,hO,fun l nl=>?_⟩;have S:Same H (A0 H l (.lst ((F9 R).map V.str))):=Same.new nl;exact ⟨_,_,_,S _ _ h1,T.cl,T.na_figures,_,adQ _ _ _ _ _ _,l,z,F9 R,_,rfl,.of A2,hk,hz,hw,fun l2 H2 n2 S2 h2=>q l2 H2 (S.free n2) (S.trans S2) h2⟩
theorem ahC:FnScope ["order", "part"] ["order", "part"] (C3 lR):=G2
abbrev afi:List Str:=["order", "part"]
theorem vb7:VS afi lR "order" 0:=vq
theorem xA:VS afi lR "part" 1:=vq
theorem ahD(F:FunD K "steps_by" "steps_by" lR f fd)(T:Txt P w K mg C C_Shelf)(G_is_figure:FO P w K mg base 1 "is_figure" ["sign"] [] iQ)(G_Order_steps:MO P w K mg base 1 C "steps" ["self", "piece"] (qH C)):FnOk P w K mg base D9 2 f fd ["order", "part"] (agG C):=by
 refine F.ok ahC ?_ ?_
 .rintro _ _ _ _ ⟨x,j,ll,ml,md,c,r,y,g,R,L,M,rfl,_⟩;rfl
 .intro cdv A outer s H vs Q E hr h;have C5:=hu_of hr;have hu:=hr.units;refine ⟨_,QSs.out (A6 (qs_if (QW.pt (pO (R4 (K:=K) (T5 (K:=K) (vi vb7))) (pM (R4 (K:=K) (E8 G_is_figure (hm hr) (qa_c (qe_ix (K:=K) (vi xA) A5) A1)))))) (A7 (D8 (O5 (qa_c (O5 (qa_c (cD T.g_FIGURES) (qa_c (qe_cT amG T.b_int pG (qa_c (vi xA) A1)) (qa_c A5 A1)))) A1)))) K8)
   (A7 (D8 (lF (vi vb7) G_Order_steps (hm hr) (qa_c (vi xA) A1))))),?_⟩
  obtain ⟨x,j,ll,ml,md,c,r,y,g,R,L,M,rfl,hy,M8,hO,hf,q⟩:=h;obtain ⟨dx,h1⟩:=hO.ob;have zT:y.cps.toList.headD 0=c:=by rw [hy];rfl
  walk_at "rd";refine ⟨_,_,_,h1,T.cl,T.na_figures,_,adQ _ _ _ _ _ _,?_⟩;walk_at "rd";have fin:stepY R L M y=stepF R L M y->∃ x_5 x_6,H x=some (HO.ins C x_5 x_6)/\aE (Str.ofString "steps") x_6=none/\qH C [V.ref x,V.str y] H Q E0:=fun e=>⟨_,_,h1,aj2 _ _ _ _ _ _ (by decide +kernel),x,j,ll,ml,md,y,g,R,L,M,rfl,hO,by rw [<- e];exact q⟩
  by_cases hw:hasW R "figures"=true
  .rw [if_pos hw];refine ⟨i9 (by lia),c,by rw [hy];exact V4 _ _,c,rfl,?_⟩
   by_cases hc:figO c=true
   .have hsy:stepY R L M y=[(1,((kP y.cps.toList:Nat):Int),0)]:=by unfold stepY;rw [hw,zT,hc];rfl
    have hAD:=hf hw (by rw [zT];exact hc);rw [hc];walk_at "rd";refine ⟨hAD,by rw [<- lenL,hy];simp,M8,by decide,fun p np=>⟨by decide,fun p1 G4=>?_⟩⟩;refine q p1 _ ((Same.new np).trans (Same.new G4)) ?_;rw [hsy];exact StepAt.one A2 (C9 A2 G4)
   .rw [kN] at hc;rw [hc];walk_at "rd";exact fin (by unfold stepY;rw [zT,hc,Bool.and_false,if_neg L3])
  .rw [if_neg hw];rw [kN] at hw;exact fin (by rw [al1 hw])
theorem ahE:FnScope ["made", "place"] ["made", "place"] (C3 lS):=G2
abbrev afj:List Str:=["made", "place"]
theorem xB:VS afj lS "made" 0:=vq
theorem vca:VS afj lS "place" 1:=vq
theorem ahF(F:FunD K "add_mark" "add_mark" lS f fd)(T:Txt P w K mg C C_Shelf):FnOk P w K mg base D9 1 f fd ["made", "place"] (agH K):=by
 refine F.ok ahE ?_ ?_
 .rintro _ _ _ _ ⟨l,p,H0,es,U,rfl,_⟩;rfl
 .intro cdv A outer s H vs Q E hr h;have C5:=hu_of hr;have hu:=hr.units;refine ⟨_,QSs.out (iJ (qs_if (aN (R4 (K:=K) (vi xB))) (A7 (L9 (qe_mB (K:=K) O3 R9 R8 T7 (vi xB) (qa_c (O5 (qa_c (cD T.g_MARK) (qa_c A5 (qa_c (N1 A1) (qa_c A5 A1))))) A1)))) K8)
   (A7 (L9 (qe_mB (K:=K) O3 R9 R8 T7 (qe_ix (K:=K) (qe_ix (K:=K) (vi xB) (qe_un q_neg A5)) A5) (qa_c (vi vca) A1))))),?_⟩
  obtain ⟨l,p,H0,es,U,rfl,J,hU,hM,q⟩:=h;walk_at "rd";refine eK (fun O H1=>∃ (es':List (Addr×Addr)) (e:Addr×Addr) (U':List E6) (u:E6),O=[some (.ref l),some (.int p)]/\UnI H0 H1 l (es'++[e]) (U'++[u])/\addM U p=U'++[(u.1,u.2.1,u.2.2.1++[p],u.2.2.2)]/\u.2.2.1.length<=10000) ?_ ?_
  .walk_at "rd";refine ⟨_,uF J.top,?_⟩
   by_cases he:es=[]
   .subst he;have hU0:=aiT J.row;subst hU0;simp only [List.map_nil,List.isEmpty_nil,Bool.not_true,Bool.not_false,if_true];refine ⟨N7 J.top,fun m nm=>⟨by decide,fun t nt=>appOk ((Same.new nm).trans (Same.new nt) _ _ J.top) (by decide) ⟨[],(t,m),[],(0,0,[],0),?_,rfl,by decide⟩⟩⟩;exact J.push nm nt
   .obtain ⟨es',e,rfl⟩:=vK he;have hUn:U≠[]:=fun h=>by subst h;have:=Paired.length J.row;simp at this
    obtain ⟨U',u,rfl⟩:=vK hUn;have N4:((es'++[e]).map fun e=>V.ref e.1).isEmpty=false:=by simp
    rw [N4];simp only [Bool.not_false,Bool.not_true,kM,if_false];refine ⟨es',e,U',u,J,?_,hM u (by simp)⟩;unfold addM;rw [List.getLast?_append,List.getLast?_singleton]
    simp
  rintro O H1 ⟨es',e,U',u,rfl,J1,ea,hul⟩;obtain ⟨hr,hu⟩:=uA J1.row;have K3:K7 ((es'++[e]).map fun e=>V.ref e.1) (-1)=some (V.ref e.1):=by rw [D6];exact ak8 _ _
  walk_at "rd";refine ⟨_,.inl (.of J1.top),_,K3,?_⟩;walk_at "rd";refine ⟨_,.inr (.of hu.1),V.ref e.2,G7 (j:=2) rfl,N7 hu.2,appOk hu.2 (by rw [A4];exact G5 (by lia)) ?_⟩;refine q (es'++[e]) _ ?_;rw [ea];exact J1.mark p
theorem sc_add_part:FnScope ["order", "made", "part", "kind", "worth", "case"] ["order", "made", "part"] (C3 j6):=G2
abbrev jG:List Str:=["order", "made", "part", "kind", "worth", "case"]
theorem vcb:VS jG j6 "order" 0:=vq
theorem vcc:VS jG j6 "made" 1:=vq
theorem vcd:VS jG j6 "part" 2:=vq
theorem vce:VS jG j6 "kind" 3:=vq
theorem vcf:VS jG j6 "worth" 4:=vq
theorem vcg:VS jG j6 "case" 5:=vq
theorem vch:LS j6 "kind":=lq
theorem vci:LS j6 "worth":=lq
theorem vcj:LS j6 "case":=lq
theorem ahG(F:FunD K "add_part" "add_part" j6 f fd)(T:Txt P w K mg C C_Shelf)(G_steps_by:FO P w K mg base 2 "steps_by" ["order", "part"] [] (agG C))(G_add_mark:FO P w K mg base 1 "add_mark" ["made", "place"] [] (agH K)):FnOk P w K mg base D9 3 f fd ["order", "made", "part"] (agI C):=by
 refine F.ok sc_add_part ?_ ?_
 .rintro _ _ _ _ ⟨x,l,j,ll,ml,md,c,r,y,g,R,L,M,H0,es,U,rfl,_⟩;rfl
 .intro cdv A outer s H vs Q E hr h;have C5:=hu_of hr;have hu:=hr.units;refine ⟨_,QSs.out (A7 (N2 PassesOwn.never (cI (K:=K) (E8 G_steps_by (hm hr) (qa_c (vi vcb) (qa_c (vi vcd) A1)))) (cH (K:=K) (n:=3) (T6 ((D5 (n:=3) sc_add_part.nd rfl vch (.inl rfl))) (T6 ((D5 (n:=4) sc_add_part.nd rfl vci (.inl rfl))) (T6 ((D5 (n:=5) sc_add_part.nd rfl vcj (.inl rfl))) cG)))) (A7 (qs_if (J5 (q_eq (K:=K) hu) (vi vce) (cD T.g_MARK)) (A7 (L9 (E8 G_add_mark (hm hr) (qa_c (vi vcc) (qa_c (vi vcf) A1))))) (A7 (L9 (qe_mB (K:=K) O3 R9 R8 T7 (vi vcc) (qa_c (O5 (qa_c (vi vce) (qa_c (vi vcf) (qa_c (N1 A1) (qa_c (vi vcg) A1))))) A1)))))))),?_⟩;obtain ⟨x,l,j,ll,ml,md,c,r,y,g,R,L,M,H0,es,U,rfl,hy,M8,hO,hf,J,hs,hU,hM,q⟩:=h;walk_at "rd";refine ⟨x,j,ll,ml,md,c,r,y,g,R,L,M,rfl,hy,M8,hO.same J.same,hf,fun a H1 S1 X2=>?_⟩;obtain ⟨ts,e1,e2⟩:=X2.ex;obtain ⟨H0',B0,J0,tp⟩:=(J.more S1).cut;have e1':=tp _ _ e1;have e2':=T3 e2 fun t s (e:H1 t=some (tupT s))=>(show H0' t=some (tupT s) from tp _ _ e)
  generalize stepY R L M y=ss at hs e2 e2' q;refine ⟨a,rfl,⟨_,.of e1⟩,forT (xs:=ts.map V.ref) (fun i O H2=>∃ (u v w:Option V) (es:List (Addr×Addr)),O=[some (.ref x),some (.ref l),some (.str y),u,v,w]/\UnI H0' H2 l es ((ss.take i).foldl addS U)) ⟨none,none,none,es,rfl,J0⟩ (by rintro i O H2 _ ⟨_,_,_,_,_,h⟩;exact .of (h.same _ _ e1')) ?_ ?_⟩
  .rintro i v O H2 hv ⟨u1,u2,u3,es,rfl,J2⟩;obtain ⟨t,ht,rfl⟩:=G9 hv;obtain ⟨s',dE,nC⟩:=Paired.at e2' ht;have hi:i<ss.length:=(F6.mp dE).1;have X4:=vI (ss.take i) U;have bB:=vJ (ss.take i) U 9000 hM;rw [L0] at X4 bB;have et:(ss.take (i+1)).foldl addS U=addS ((ss.take i).foldl addS U) s':=by rw [J7 dE,aB];rfl
   have htt:C6 K H2 t [V.int s'.1,V.int s'.2.1,V.int s'.2.2]:=.of (J2.same _ _ nC);walk_at "rd";refine ⟨_,htt,rfl,_,_,rfl,_,_,rfl,_,_,rfl,rfl,?_⟩;walk_at "rd";rw [et];generalize (ss.take i).foldl addS U=U2 at J2 X4 bB;refine iteD (fun e=>⟨l,s'.2.1,H0',es,U2,rfl,J2,by lia,fun u hu=>by have:=bB u hu;lia,fun es' H3 J3=>?_⟩) fun e=>⟨N7 J2.top,fun m nm=>⟨by decide,fun t2 jY=>appOk ((Same.new nm).trans (Same.new jY) _ _ J2.top) (by rw [A4,Paired.length J2.row];exact G5 (by lia)) ?_⟩⟩
   .unfold addS;rw [if_pos e];exact ⟨es',J3⟩
   .unfold addS;rw [if_neg e];exact ⟨_,J2.push nm jY⟩
  rintro O H2 ⟨u1,u2,u3,es,rfl,J2⟩;rw [A4,Paired.length e2,K9] at J2;exact q es H2 (J2.base B0)
theorem sc_units:FnScope ["order", "text", "made", "part"] ["order", "text"] (C3 w6):=G2
abbrev rD:List Str:=["order", "text", "made", "part"]
theorem vck:VS rD w6 "order" 0:=vq
theorem vcl:VS rD w6 "text" 1:=vq
theorem vcm:VS rD w6 "made" 2:=vq
theorem vcn:VS rD w6 "part" 3:=vq
theorem vco:LS w6 "made":=lq
theorem vcp:LS w6 "part":=lq
theorem aml(F:FunD K "units" "units" w6 f fd)(T:Txt P w K mg C C_Shelf)(G_parts_of:FO P w K mg base 5 "parts_of" ["order", "text"] [] (vH C))(G_add_part:FO P w K mg base 3 "add_part" ["order", "made", "part"] [] (agI C)):FnOk P w K mg base D9 6 f fd ["order", "text"] (vL C):=by
 refine F.ok sc_units ?_ ?_
 .rintro _ _ _ _ ⟨x,j,ll,ml,md,z,g,R,L,M,rfl,_⟩;rfl
 .intro cdv A outer s H vs Q E hr h;have C5:=hu_of hr;have hu:=hr.units;refine ⟨_,QSs.out (A6 (D3 (n:=2) sc_units.nd rfl vco (N1 A1))
   (A6 (N2 PassesOwn.never (O7 (K:=K) (E8 G_parts_of (hm hr) (qa_c (vi vck) (qa_c (vi vcl) A1)))) (D5 (n:=3) sc_units.nd rfl vcp (.inl rfl)) (A7 (L9 (E8 G_add_part (hm hr) (qa_c (vi vck) (qa_c (vi vcm) (qa_c (vi vcn) A1)))))))
   (A7 (D8 (Y0  (T9:CompOk ["order", "text", "made", "part"] (C3 w6).names _ ["kind", "worth", "marks", "case"] 4 []) (O7 (K:=K) (vi vcm)) (fun _ _ _ _ _=>(cH (K:=K) (n:=4) (T6 (D5 (n:=0) (show List.Nodup (["kind", "worth", "marks", "case"]:List Str) by decide +kernel) rfl (Or.inl rfl)) (T6 (D5 (n:=1) (show List.Nodup (["kind", "worth", "marks", "case"]:List Str) by decide +kernel) rfl (Or.inl rfl)) (T6 (D5 (n:=2) (show List.Nodup (["kind", "worth", "marks", "case"]:List Str) by decide +kernel) rfl (Or.inl rfl)) (T6 (D5 (n:=3) (show List.Nodup (["kind", "worth", "marks", "case"]:List Str) by decide +kernel) rfl (Or.inl rfl)) cG)))))) (fun _ _ _ _ _=>l9) (fun _ _ _ _ _=>(O5 (qa_c (qv 0) (qa_c (qv 1) (qa_c (qe_cT (uE (K:=K)) T.b_tuple pE (qa_c (qv 2) A1)) (qa_c (qv 3) A1))))))))))),?_⟩
  obtain ⟨x,j,ll,ml,md,z,g,R,L,M,rfl,hO,hk,hz,hw,hs,q⟩:=h;have hf:=aia (w:=hasW R "figures") (g:=F9 R) _ z.cps.toList (B5 _);have N4:=akk (w:=hasW R "figures") (g:=F9 R) _ z.cps.toList (B5 _);have sJ:=(qF (w:=hasW R "figures") (g:=F9 R) _ z.cps.toList (B5 _)).2.1;rw [lenL] at sJ;have p5:=agJ (w:=hasW R "figures") (g:=F9 R) _ z.cps.toList (B5 _);rw [lenL] at p5;walk_at "rd";intro l nl;have S1:Same H (A0 H l (.lst [])):=Same.new nl;have Y6:A0 H l (.lst []) l=some (.lst []):=A2;generalize A0 H l (.lst [])=H1 at S1 Y6;refine ⟨x,j,ll,ml,md,z,g,R,L,M,rfl,hO.same S1,hk,by lia,hw,fun a H2 na S2 ha=>?_⟩;generalize (cutF (hasW R "figures") (F9 R) z.cps.toList).2=ps at ha hf N4 sJ p5 q;have nal:a≠l:=fun e=>by rw [e,Y6] at na;cases na
  have C0:UnI (cutH H2 [l]) H2 l [] []:=⟨S2 _ _ Y6,.nil,by simp,fun b hb=>by unfold cutH;exact if_pos (by simpa using hb),qI _ _⟩
  have S0:Same H (cutH H2 [l]):=fun b o hb=>by
   unfold cutH;rw [if_neg (fun e=>by rw [D1.mp e,nl] at hb;cases hb)];exact S2 _ _ (S1 _ _ hb)
  have ha0:cutH H2 [l] a=some (.lst (ps.map V.str)):=by
   unfold cutH;rw [if_neg (fun e=>nal (D1.mp e))];exact ha
  have hO0:=hO.same S0;generalize cutH H2 [l]=H0 at C0 S0 ha0 hO0;refine ⟨a,rfl,⟨_,.of ha⟩,forL (xs:=ps.map V.str) (fun i O H3=>∃ (u:Option V) (es:List (Addr×Addr)),O=[some (.ref x),some (.str z),some (.ref l),u]/\UnI H0 H3 l es (U6 (stepY R L M) (ps.take i))) ⟨none,[],rfl,C0⟩ (by rintro i O H3 _ ⟨_,_,_,h⟩;exact .of (h.same _ _ ha0)) ?_ ?_⟩
  .rintro i v O H3 hv ⟨u,es,rfl,J⟩;obtain ⟨y,hy,rfl⟩:=G9 hv;have hi:i<ps.length:=(F6.mp hy).1;have zU:=K4 hy;obtain ⟨C5,y4⟩:=qJ (S:=stepY R L M) hs (ps.take i);rw [L0] at C5 y4;obtain ⟨c,r,hcr⟩:∃ c r,y.cps.toList=c::r:=by
    have:=N4 y zU
    rw [<- lenL] at this;cases e:y.cps.toList with
    | nil=>rw [e] at this;simp at this
    | cons c r=>exact ⟨c,r,rfl⟩
   have M8:y.length<=640:=by have:=p5 y zU;lia
   walk_at "rd";refine ⟨x,l,j,ll,ml,md,c,r,y,g,R,L,M,H0,es,_,rfl,hcr,M8,hO0,hf y zU,J,by have:=hs y;lia,by lia,fun v hv=>by have:=y4 v hv;lia,fun es' H4 J4=>?_⟩;rw [<- ahi hy] at J4;exact ⟨es',J4⟩
  rintro O H3 ⟨u,es,rfl,J⟩;rw [A4,K9] at J;obtain ⟨C5,y4⟩:=qJ (S:=stepY R L M) hs ps;have dF:=Paired.length J.row;generalize U6 (stepY R L M) ps=U at J C5 y4 dF q;walk_at "rd";refine ⟨⟨_,.of J.top⟩,aq5 (xs:=es.map fun e=>V.ref e.1) [] rfl (fun D i ys H4=>∃ fs:List (Addr×Addr),ys=fs.map (fun e=>V.ref e.1)/\Same H3 H4/\Paired (fun e (u:E6)=>H4 e.1=some (.tup [.int u.1,.int u.2.1,.ref e.2,.int u.2.2.2])/\H4 e.2=some (.tup (u.2.2.1.map V.int))) fs (U.take i)) (fun D nD=>⟨[],rfl,Same.new nD,.nil⟩) (by rintro D i ys H4 nD _ ⟨_,_,S,_⟩;exact .of (S _ _ J.top)) ?_ ?_⟩
  .rintro D i v ys H4 nD hi hv ⟨fs,rfl,S4,P⟩ hD M8;obtain ⟨e,he,rfl⟩:=G9 hv;obtain ⟨w,hw,bK⟩:=Paired.at J.row he;have o7:fs.length<=7500:=by
    have:=Paired.length P
    rw [L0] at this;lia
   refine ⟨e.1,_,_,_,_,rfl,.of (S4 _ _ bK.1),?_⟩;walk_at "rd";refine rTupR.l (.of (S4 _ _ bK.2)) fun m nm=>⟨by decide,fun t nt=>?_⟩
   have S5:Same H4 (A0 (A0 H4 m (.tup (w.2.2.1.map V.int))) t (.tup [V.int w.1,V.int w.2.1,V.ref m,V.int w.2.2.2])):=(Same.new nm).trans (Same.new nt);have zV:A0 (A0 H4 m (.tup (w.2.2.1.map V.int))) t (.tup [V.int w.1,V.int w.2.1,V.ref m,V.int w.2.2.2]) m=some (.tup (w.2.2.1.map V.int)):=C9 A2 nt;have zW:A0 (A0 H4 m (.tup (w.2.2.1.map V.int))) t (.tup [V.int w.1,V.int w.2.1,V.ref m,V.int w.2.2.2]) t=some (.tup [V.int w.1,V.int w.2.1,V.ref m,V.int w.2.2.2]):=A2;generalize A0 (A0 H4 m (.tup (w.2.2.1.map V.int))) t (.tup [V.int w.1,V.int w.2.1,V.ref m,V.int w.2.2.2])=H5 at S5 zV zW;have hD5:=S5 _ _ hD;have dn:∀ {b:Addr} {xs:List V},H5 b=some (.tup xs)->b≠D:=fun h q=>by rw [q,hD5] at h;cases h
   refine ⟨hD5,by rw [A4];exact G5 (by lia),hi,by rw [C8,R3];lia,⟨_,_,_,_,rfl⟩,fs++[(t,m)],by rw [D6];rfl,(S4.trans S5).put nD,?_⟩;rw [J7 hw];refine Paired.snoc (T3 P fun f w h=>⟨?_,?_⟩) ⟨?_,?_⟩
   .rw [A3 (dn (S5 _ _ h.1))];exact S5 _ _ h.1
   .rw [A3 (dn (S5 _ _ h.2))];exact S5 _ _ h.2
   .rw [A3 (dn zW)];exact zW
   .rw [A3 (dn zV)];exact zV
  rintro D ys H4 nD ⟨fs,rfl,S4,P⟩ hD M8;rw [A4,dF,K9] at P;have SS:Same H H3:=S0.trans J.same;exact q D H4 (SS.free nD) (SS.trans S4) ⟨fs,hD,P⟩
theorem adV:FnScope ["kind", "worth"] ["kind", "worth"] (C3 lT):=G2
abbrev acU:List Str:=["kind", "worth"]
theorem vcq:VS acU lT "kind" 0:=vq
theorem vcr:VS acU lT "worth" 1:=vq
theorem adW(F:FunD K "first_numbers" "first_numbers" lT f fd)(T:Txt P w K mg C C_Shelf):FnOk P w K mg base D9 1 f fd ["kind", "worth"] aib:=by
 refine F.ok adV ?_ ?_
 .rintro _ _ _ _ ⟨k,w,rfl,_⟩;rfl
 .intro cdv A outer s H vs Q E hr h;have C5:=hu_of hr;have hu:=hr.units;refine ⟨_,QSs.out (A6 (qs_if (J5 (q_eq (K:=K) hu) (vi vcq) (cD T.g_MARK)) (A7 (D8 (N1 (qa_c A5 A1)))) K8)
   (A6 (qs_if (J5 (q_eq (K:=K) hu) (vi vcq) (cD T.g_FIGURES)) (A7 (D8 (N1 (qa_c A5 (qa_c (qe_op (q_add (K:=K)) (vi vcr) A5) A1))))) K8)
   (A7 (D8 (N1 (qa_c (qe_op (q_add (K:=K)) (vi vcr) A5) A1)))))),?_⟩
  obtain ⟨k,w,rfl,q⟩:=h;unfold b9 at q;walk_at "rd";refine iteD (fun h0=>?_) fun h0=>iteD (fun h1=>?_) fun h1=>?_
  .rw [if_pos h0] at q;exact ⟨by decide,q⟩
  .rw [if_neg h0,if_pos h1] at q;exact ⟨by decide,q⟩
  .rw [if_neg h0,if_neg h1] at q;exact ⟨by decide,q⟩
theorem sc_first_level:FnScope ["made", "level", "unit"] ["made"] (C3 cQ):=G2
abbrev xC:List Str:=["made", "level", "unit"]
theorem vcs:VS xC cQ "made" 0:=vq
theorem vct:VS xC cQ "level" 1:=vq
theorem vcu:VS xC cQ "unit" 2:=vq
theorem vcv:LS cQ "level":=lq
theorem vcw:LS cQ "unit":=lq
theorem aeO(F:FunD K "first_level" "first_level" cQ f fd)(T:Txt P w K mg C C_Shelf)(G_first_numbers:FO P w K mg base 1 "first_numbers" ["kind", "worth"] [] aib):FnOk P w K mg base D9 2 f fd ["made"] vP:=by
 refine F.ok sc_first_level ?_ ?_
 .rintro _ _ _ _ ⟨a,U,rfl,_⟩;rfl
 .intro cdv A outer s H vs Q E hr h;have C5:=hu_of hr;have hu:=hr.units;refine ⟨_,QSs.out (A6 (D3 (n:=1) sc_first_level.nd rfl vcv (N1 A1))
   (A6 (N2 PassesOwn.never (O7 (K:=K) (vi vcs)) (D5 (n:=2) sc_first_level.nd rfl vcw (.inl rfl)) (A7 (L9 (qe_mB (K:=K) O3 kL kK pR (vi vct) (qa_c (E8 G_first_numbers (hm hr) (qa_c (qe_ix (K:=K) (vi vcu) A5) (qa_c (qe_ix (K:=K) (vi vcu) A5) A1))) A1)))))
   (A7 (D8 (vi vct))))),?_⟩
  obtain ⟨a,U,rfl,⟨es,e1,e2⟩,hl,q⟩:=h;walk_at "rd";intro p np;have S1:Same H (A0 H p (.lst [])):=Same.new np;refine ⟨⟨_,.of (S1 _ _ e1)⟩,forL (xs:=es.map fun e=>V.ref e.1) (fun i O H2=>∃ (u:Option V),O=[some (.ref a),some (.ref p),u]/\Same H H2/\H2 p=some (.lst ((c9 (U.take i)).map V.int))) ⟨none,rfl,S1,A2⟩ (by rintro i O H2 _ ⟨_,_,S,_⟩;exact .of (S _ _ e1)) ?_ ?_⟩
  .rintro i x O H2 hx ⟨u,rfl,S2,h2⟩;obtain ⟨e,he,rfl⟩:=G9 (f:=fun e:Addr×Addr=>V.ref e.1) hx;obtain ⟨w,hw,bK⟩:=Paired.at e2 he;have t1:=S2 _ _ bK.1;have hi:i<U.length:=(F6.mp hw).1;have o7:=vO (U.take i);have U0:=afc w.1 w.2.1;rw [L0] at o7;walk_at "rd";refine ⟨N7 h2,_,.inr (.of t1),_,G7 (j:=0) rfl,_,.inr (.of t1),_,G7 (j:=1) rfl,_,_,rfl,fun l nl=>?_⟩;have S3:Same H2 (A0 H2 l (.lst ((b9 w.1 w.2.1).map V.int))):=Same.new nl;have hl3:A0 H2 l (.lst ((b9 w.1 w.2.1).map V.int)) l=some (.lst ((b9 w.1 w.2.1).map V.int)):=A2;generalize A0 H2 l (.lst ((b9 w.1 w.2.1).map V.int))=H3 at S3 hl3;refine ⟨p,l,_,_,rfl,rfl,S3 _ _ h2,hl3,by rw [A4,A4];have:=G5 (n:=(c9 (U.take i)).length+(b9 w.1 w.2.1).length) (by lia);lia,(S2.trans S3).put np,?_⟩;rw [A2,ahk hw,D6]
  rintro O H2 ⟨u,rfl,S2,h2⟩;rw [A4,Paired.length e2,K9] at h2;walk_at "rd";exact q p H2 np S2 h2
theorem sc_second_level:FnScope ["made", "behind", "level", "unit"] ["made", "behind"] (C3 w8):=G2
abbrev rE:List Str:=["made", "behind", "level", "unit"]
theorem vcx:VS rE w8 "made" 0:=vq
theorem vcy:VS rE w8 "behind" 1:=vq
theorem xD:VS rE w8 "level" 2:=vq
theorem vcA:VS rE w8 "unit" 3:=vq
theorem vcB:LS w8 "level":=lq
theorem vcC:LS w8 "unit":=lq
theorem aez(F:FunD K "second_level" "second_level" w8 f fd)(T:Txt P w K mg C C_Shelf):FnOk P w K mg base D9 1 f fd ["made", "behind"] agO:=by
 refine F.ok sc_second_level ?_ ?_
 .rintro _ _ _ _ ⟨a,b,U,rfl,_⟩;rfl
 .intro cdv A outer s H vs Q E hr h;have C5:=hu_of hr;have hu:=hr.units;refine ⟨_,QSs.out (A6 (D3 (n:=2) sc_second_level.nd rfl vcB (N1 A1))
   (A6 (N2 PassesOwn.never (O7 (K:=K) (ahT (R4 (K:=K) (vi vcy)) (aq7 (K:=K) (vi vcx) (O6 (qe_un q_neg A5))) (vi vcx))) (D5 (n:=3) sc_second_level.nd rfl vcC (.inl rfl)) (A6 (L9 (qe_mB (K:=K) O3 kL kK pR (vi xD) (qa_c (Y0  (T9:CompOk ["made", "behind", "level", "unit"] (C3 w8).names _ ["place"] 1 []) (cI (K:=K) (qe_ix (K:=K) (vi vcA) A5)) (fun _ _ _ _ _=>D5 (n:=0) (show List.Nodup (["place"]:List Str) by decide +kernel) rfl (Or.inl rfl)) (fun _ _ _ _ _=>l9) (fun _ _ _ _ _=>(qe_op (q_add (K:=K)) (qv 0) A5))) A1)))
   (A7 (L9 (qe_mB (K:=K) O3 R9 R8 T7 (vi xD) (qa_c A5 A1))))))
   (A7 (D8 (vi xD))))),?_⟩
  obtain ⟨a,b,U,rfl,⟨es,e1,e2⟩,hl,hm,hs,q⟩:=h;walk_at "rd";intro p np;have S1:Same H (A0 H p (.lst [])):=Same.new np;have y7:A0 H p (.lst []) p=some (.lst []):=A2;generalize A0 H p (.lst [])=H1 at S1 y7;have go:∀ (l0:Addr) (fs:List (Addr×Addr)) (V':List E6) (H2:Hp),Same H1 H2->H2 l0=some (.lst (fs.map fun e=>V.ref e.1))->l0≠p->Paired (fun e (u:E6)=>H e.1=some (.tup [.int u.1,.int u.2.1,.ref e.2,.int u.2.2.2])/\H e.2=some (.tup (u.2.2.1.map V.int))) fs V'->V'.length<=10000->(∀ u∈V',u.2.2.1.length<=10000)->Q0 V'<=100000->(∀ H',Same H H'->H' p=some (.lst ((j3 V').map V.int))->Q (.ref p) H')->
    ForIt (t9 K l0) (gName 3) (tSeq (tDrop (iC K "list" tM (tVar 2) (tCons (tComp (iTup K (l7 (eC K) (tVar 3) (tC (V.int 2)))) 1 [] (gName 0) tYes (l7 (rAddU K) (tVar 0) (tC (V.int 2)))) tNil))) (tDrop (iC K "list" oU (tVar 2) (tCons (tC (V.int 1)) tNil)))) { nx:=tRet (tVar 2) { nx:=fun x H'=>Q V.non H',rt:=Q },rt:=Q } [some (V.ref a),some (V.bl b),some (V.ref p),none] H2:=by
   intro l0 fs V' H2 S2 fC nl0 hP hV hVm hVn q;have j8:=S2 _ _ y7;have SB:Same H (cutH H2 [p]):=fun c o hc=>by
    unfold cutH;rw [if_neg (fun e=>by rw [D1.mp e,np] at hc;cases hc)];exact S2 _ _ (S1 _ _ hc)
   have hlB:cutH H2 [p] l0=some (.lst (fs.map fun e=>V.ref e.1)):=by
    unfold cutH;rw [if_neg (fun e=>nl0 (D1.mp e))];exact fC
   have nB:cutH H2 [p] p=none:=by unfold cutH;exact if_pos (by simp)
   have hB2:=qI H2 [p];generalize cutH H2 [p]=B at SB hlB nB hB2;refine forL (xs:=fs.map fun e=>V.ref e.1) (fun i O H3=>∃ (v:Option V),O=[some (.ref a),some (.bl b),some (.ref p),v]/\Same B H3/\H3 p=some (.lst ((j3 (V'.take i)).map V.int))) ⟨none,rfl,hB2,j8⟩ (by rintro i O H3 _ ⟨_,_,S,_⟩;exact .of (S _ _ hlB)) ?_ ?_
   .rintro i x O H3 hx ⟨v,rfl,S3,h3⟩;obtain ⟨e,he,rfl⟩:=G9 (f:=fun e:Addr×Addr=>V.ref e.1) hx;obtain ⟨u,hu,bK⟩:=Paired.at hP he;have hum:=hVm u (K4 hu);have t1:=S3 _ _ (SB _ _ bK.1);have t2:=S3 _ _ (SB _ _ bK.2);have ea:j3 (V'.take (i+1))=j3 (V'.take i)++(u.2.2.1.map fun p=>p+2)++[1]:=by
     unfold j3;rw [J7 hu,Z4,W8]
     simp
    have U1:(j3 (V'.take i)).length<=110000:=by
     rw [aev,L0]
     have:Q0 (V'.take i)<=Q0 V':=by
      have e2:Q0 V'=Q0 (V'.take i)+Q0 (V'.drop i):=by
       unfold Q0;rw [<- List.sum_append,<- D6,j9]
      lia
     lia
    generalize j3 (V'.take i)=acc at h3 ea U1;walk_at "rd";refine ⟨N7 h3,_,.inr (.of t1),_,G7 (j:=2) rfl,e.2,rfl,⟨_,.of t2⟩,compT (xs:=u.2.2.1.map V.int) [] rfl (fun D k ys H4=>Same H3 H4/\ys=((u.2.2.1.take k).map fun p=>p+2).map V.int) (fun D nD=>⟨Same.new nD,rfl⟩) (by rintro D k ys H4 nD _ ⟨S,_⟩;exact .of (S _ _ t2)) ?_ ?_⟩
    .rintro D k y ys H4 nD hk hy ⟨S4,rfl⟩ hD M8;obtain ⟨m,bB,rfl⟩:=G9 hy;walk_at "rd";refine ⟨hD,by simp only [A4,L0];exact G5 (by lia),CW.put hk M8 ⟨S4.put nD,?_⟩⟩;rw [J7 bB,D6,D6];rfl
    rintro D ys H4 nD ⟨S4,rfl⟩ hD _;rw [A4,K9] at hD;refine ⟨p,D,_,_,rfl,rfl,S4 _ _ h3,hD,by simp only [A4];have:=G5 (n:=acc.length+u.2.2.1.length) (by lia);lia,?_⟩;have h5:A0 H4 p (.lst (acc.map V.int++(u.2.2.1.map fun p=>p+2).map V.int)) p=some (.lst (acc.map V.int++(u.2.2.1.map fun p=>p+2).map V.int)):=A2;have S5:Same B (A0 H4 p (.lst (acc.map V.int++(u.2.2.1.map fun p=>p+2).map V.int))):=(S3.trans S4).put nB;generalize A0 H4 p (.lst (acc.map V.int++(u.2.2.1.map fun p=>p+2).map V.int))=H5 at h5 S5;walk_at "rd";refine ⟨N7 h5,appOk h5 (by simp only [C8,A4];exact G5 (by lia)) ⟨S5.put nB,?_⟩⟩;rw [A2,ea,D6,D6];rfl
   rintro O H3 ⟨v,rfl,S3,h3⟩;rw [A4,Paired.length hP,K9] at h3;walk_at "rd";exact q H3 (SB.trans S3) h3
  by_cases hb:b=true
  .rw [if_pos hb] at q ⊢
   refine ⟨_,.of (S1 _ _ e1),fun p1 G4=>?_⟩;refine ⟨⟨_,.of A2⟩,go p1 es.reverse U.reverse _ (Same.new G4) (by rw [A2,List.map_reverse]) (fun e=>by rw [e,y7] at G4;cases G4) (afe e2) (by rw [List.length_reverse];exact hl) (fun u hu=>hm u (List.mem_reverse.mp hu)) (by rw [afd];exact hs) fun H' S h=>q p H' np S h⟩
  .rw [if_neg hb] at q ⊢
   exact ⟨⟨_,.of (S1 _ _ e1)⟩,go a es U _ (Same.refl _) (S1 _ _ e1) (fun e=>by rw [e,np] at e1;cases e1) e2 hl hm hs fun H' S h=>q p H' np S h⟩
theorem aeP:FnScope ["made"] ["made"] (C3 lU):=G2
abbrev afX:List Str:=["made"]
theorem vcD:VS afX lU "made" 0:=vq
theorem aeQ(F:FunD K "third_level" "third_level" lU f fd)(T:Txt P w K mg C C_Shelf):FnOk P w K mg base D9 1 f fd ["made"] aic:=by
 refine F.ok aeP ?_ ?_
 .rintro _ _ _ _ ⟨a,U,rfl,_⟩;rfl
 .intro cdv A outer s H vs Q E hr h;have C5:=hu_of hr;have hu:=hr.units;refine ⟨_,QSs.out (A7 (D8 (Y0  (T9:CompOk ["made"] (C3 lU).names _ ["unit"] 1 []) (O7 (K:=K) (vi vcD)) (fun _ _ _ _ _=>D5 (n:=0) (show List.Nodup (["unit"]:List Str) by decide +kernel) rfl (Or.inl rfl)) (fun _ _ _ _ _=>l9) (fun _ _ _ _ _=>(qe_op (q_add (K:=K)) (qe_ix (K:=K) (qv 0) A5) A5))))),?_⟩;obtain ⟨a,U,rfl,⟨es,e1,e2⟩,hl,q⟩:=h;walk_at "rd";refine ⟨⟨_,.of e1⟩,compL (xs:=es.map fun e=>V.ref e.1) [] rfl (fun D i ys H2=>Same H H2/\ys=((U.take i).map fun u=>u.2.2.2+1).map V.int) (fun D nD=>⟨Same.new nD,rfl⟩) (by rintro D i ys H2 nD _ ⟨S,_⟩;exact .of (S _ _ e1)) ?_ ?_⟩
  .rintro D i x ys H2 nD hi hx ⟨S2,rfl⟩ hD M8;obtain ⟨e,he,rfl⟩:=G9 (f:=fun e:Addr×Addr=>V.ref e.1) hx;obtain ⟨w,hw,bK⟩:=Paired.at e2 he;have sE:i<U.length:=(F6.mp hw).1;walk_at "rd";refine ⟨_,.inr (.of (S2 _ _ bK.1)),V.int w.2.2.2,G7 (j:=3) rfl,?_⟩;walk_at "rd";refine ⟨hD,by simp only [A4,L0];exact G5 (by lia),CW.put hi M8 ⟨S2.put nD,?_⟩⟩;rw [J7 hw,D6,D6];rfl
  rintro D ys H2 nD ⟨S2,rfl⟩ hD _;rw [A4,Paired.length e2,K9] at hD;exact q D H2 nD S2 hD
theorem aeA:FnScope ["text"] ["text"] (C3 lV):=G2
abbrev aeR:List Str:=["text"]
theorem vcE:VS aeR lV "text" 0:=vq
theorem aeB(F:FunD K "fourth_level" "fourth_level" lV f fd)(T:Txt P w K mg C C_Shelf):FnOk P w K mg base D9 1 f fd ["text"] agM:=by
 refine F.ok aeA ?_ ?_
 .rintro _ _ _ _ ⟨z,rfl,_⟩;rfl
 .intro cdv A outer s H vs Q E hr h;have C5:=hu_of hr;have hu:=hr.units;refine ⟨_,QSs.out (A7 (D8 (Y0  (T9:CompOk ["text"] (C3 lV).names _ ["sign"] 1 []) (amw (vi vcE)) (fun _ _ _ _ _=>D5 (n:=0) (show List.Nodup (["sign"]:List Str) by decide +kernel) rfl (Or.inl rfl)) (fun _ _ _ _ _=>l9) (fun _ _ _ _ _=>(qe_cB q_ord T.b_ord aqz (qa_c (qv 0) A1)))))),?_⟩;obtain ⟨z,rfl,hz,q⟩:=h;walk_at "rd";refine compS [] rfl (fun D i ys H2=>Same H H2/\ys=((z.cps.toList.take i).map fun c:Nat=>(c:Int)).map V.int) (fun D nD=>⟨Same.new nD,rfl⟩) ?_ ?_
  .rintro D i x ys H2 nD hi hx ⟨S2,rfl⟩ hD M8;have hsz:z.cps.size=z.length:=rfl;walk_at "rd";refine ⟨rfl,hD,by simp only [A4,L0];exact G5 (by lia),CW.put hi M8 ⟨S2.put nD,?_⟩⟩;rw [J7 hx,D6,D6];rfl
  .rintro D ys H2 nD ⟨S2,rfl⟩ hD _;rw [show z.cps.size=z.cps.toList.length by simp,K9] at hD;exact q D H2 nD S2 hD
theorem sc_key:FnScope ["order", "text", "strength", "made", "levels", "numbers", "level"] ["order", "text", "strength"] (C3 s_key):=G2
abbrev n_key:List Str:=["order", "text", "strength", "made", "levels", "numbers", "level"]
theorem vcF:VS n_key s_key "order" 0:=vq
theorem vcG:VS n_key s_key "text" 1:=vq
theorem vcH:VS n_key s_key "strength" 2:=vq
theorem xE:VS n_key s_key "made" 3:=vq
theorem vcJ:VS n_key s_key "levels" 4:=vq
theorem xF:VS n_key s_key "numbers" 5:=vq
theorem vcL:VS n_key s_key "level" 6:=vq
theorem vcM:LS s_key "made":=lq
theorem vcN:LS s_key "levels":=lq
theorem vcO:LS s_key "numbers":=lq
theorem vcP:LS s_key "level":=lq
theorem arh(F:FunD K "key" "key" s_key f fd)(T:Txt P w K mg C C_Shelf)(G_units:FO P w K mg base 6 "units" ["order", "text"] [] (vL C))(G_first_level:FO P w K mg base 2 "first_level" ["made"] [] vP)(G_second_level:FO P w K mg base 1 "second_level" ["made", "behind"] [] agO)(G_third_level:FO P w K mg base 1 "third_level" ["made"] [] aic)(G_fourth_level:FO P w K mg base 1 "fourth_level" ["text"] [] agM):FnOk P w K mg base D9 7 f fd ["order", "text", "strength"] (spKey C):=by
 refine F.ok sc_key ?_ ?_
 .rintro _ _ _ _ ⟨x,j,ll,ml,md,z,n,g,R,L,M,rfl,_⟩;rfl
 .intro cdv A outer s H vs Q E hr h;have C5:=hu_of hr;have hu:=hr.units;refine ⟨_,QSs.out (A6 (D3 (n:=3) sc_key.nd rfl vcM (E8 G_units (hm hr) (qa_c (vi vcF) (qa_c (vi vcG) A1))))
   (A6 (D3 (n:=4) sc_key.nd rfl vcN (N1 (qa_c (E8 G_first_level (hm hr) (qa_c (vi xE) A1)) (qa_c (E8 G_second_level (hm hr) (qa_c (vi xE) (qa_c (T5 (K:=K) (vi vcF)) A1))) (qa_c (E8 G_third_level (hm hr) (qa_c (vi xE) A1)) (qa_c (E8 G_fourth_level (hm hr) (qa_c (vi vcG) A1)) A1))))))
   (A6 (D3 (n:=5) sc_key.nd rfl vcO (N1 A1))
   (A6 (N2 PassesOwn.never (O7 (K:=K) (T4 (K:=K) (vi vcJ) Z9 (O6 (vi vcH)))) (D5 (n:=6) sc_key.nd rfl vcP (.inl rfl)) (A6 (L9 (qe_mB (K:=K) O3 kL kK pR (vi xF) (qa_c (vi vcL) A1)))
   (A7 (L9 (qe_mB (K:=K) O3 R9 R8 T7 (vi xF) (qa_c A5 A1))))))
   (A7 (D8 (vi xF))))))),?_⟩
  obtain ⟨x,j,ll,ml,md,z,n,g,R,L,M,rfl,hn,hO,hk,hz,hw,hs,q⟩:=h;have hp:=(qF (w:=hasW R "figures") (g:=F9 R) _ z.cps.toList (B5 _)).2.1;rw [lenL] at hp;obtain ⟨C5,y4⟩:=qJ hs (cutF (hasW R "figures") (F9 R) z.cps.toList).2;have hu3:=agN hs (cutF (hasW R "figures") (F9 R) z.cps.toList).2;walk_at "rd";refine ⟨x,j,ll,ml,md,z,g,R,L,M,rfl,hO,hk,hz,hw,hs,fun u H1 nu S1 hU=>?_⟩;generalize U6 (stepY R L M) (cutF (hasW R "figures") (F9 R) z.cps.toList).2=U at C5 y4 hu3 hU q;refine ⟨u,U,rfl,hU,by lia,fun a1 H2 n1 S2 h1=>?_⟩;obtain ⟨dx,ho⟩:=hO.ob;refine ⟨_,_,_,S2 _ _ (S1 _ _ ho),T.cl,T.na_behind,_,aha _ _ _ _ _ _,?_⟩;refine ⟨u,_,U,rfl,hU.same S2,by lia,fun v hv=>by have:=y4 v hv;lia,by lia,fun a2 H3 n2 S3 h2=>?_⟩;refine ⟨u,U,rfl,hU.same (S2.trans S3),by lia,fun a3 H4 n3 S4 h3=>?_⟩;refine ⟨z,rfl,by lia,fun a4 H5 n4 S5 h4=>?_⟩;refine ⟨by decide,fun p np p1 G4=>?_⟩;have hLS:∀ l∈iW (hasW R "behind") U z,l.length<=20000:=fun l hl=>by
   unfold iW at hl;simp only [E4,Z6,or_false] at hl
   rcases hl with rfl | rfl | rfl | rfl
   .have:=vO U;lia
   .rw [aev]
    by_cases hb:hasW R "behind"=true
    .rw [if_pos hb,afd,List.length_reverse];lia
    .rw [if_neg hb];lia
   .rw [A4];lia
   .rw [A4,lenL];lia
  have hP:Paired (fun a (l:List Int)=>H5 a=some (.lst (l.map V.int))) [a1,a2,a3,a4] (iW (hasW R "behind") U z):=.cons ((S3.trans (S4.trans S5)) _ _ h1) (.cons ((S4.trans S5) _ _ h2) (.cons (S5 _ _ h3) (.cons h4 .nil)));unfold keyF at q;have jZ:=S1.trans (S2.trans (S3.trans (S4.trans S5)));generalize iW (hasW R "behind") U z=LS at hLS hP q;have S6:Same H5 (A0 H5 p (.lst [V.ref a1,V.ref a2,V.ref a3,V.ref a4])):=Same.new np;have zX:A0 H5 p (.lst [V.ref a1,V.ref a2,V.ref a3,V.ref a4]) p=some (.lst (([a1,a2,a3,a4]:List Addr).map V.ref)):=A2;generalize A0 H5 p (.lst [V.ref a1,V.ref a2,V.ref a3,V.ref a4])=H6 at S6 zX G4;have S7:Same H6 (A0 H6 p1 (.lst [])):=Same.new G4;have fY:A0 H6 p1 (.lst []) p1=some (.lst []):=A2;generalize A0 H6 p1 (.lst [])=H7 at S7 fY;generalize [a1,a2,a3,a4]=as at hP zX;refine rSlR.l (.of (S7 _ _ zX)) fun s ns=>?_
  rw [iK,<- aD];have hP2:Paired (fun a (l:List Int)=>H5 a=some (.lst (l.map V.int))) (as.take n) (LS.take n):=adR hP n;have hL2:(LS.take n).length<=4:=by rw [L0];lia
  have hLS2:∀ l∈LS.take n,l.length<=20000:=fun l hl=>hLS l (oI hl)
  generalize as.take n=bs at hP2 ns;generalize LS.take n=MS at hP2 hL2 hLS2 q;have nsp:s≠p1:=fun e=>by rw [e,fY] at ns;cases ns
  have S8:Same H7 (A0 H7 s (.lst (bs.map V.ref))):=Same.new ns;have zY:A0 H7 s (.lst (bs.map V.ref)) s=some (.lst (bs.map V.ref)):=A2;generalize A0 H7 s (.lst (bs.map V.ref))=H8 at S8 zY;have hp8:=S8 _ _ fY;have SB:Same H6 (cutH H8 [p1]):=fun a o ha=>by
   unfold cutH;rw [if_neg (fun e=>by rw [D1.mp e,G4] at ha;cases ha)];exact S8 _ _ (S7 _ _ ha)
  have hsB:cutH H8 [p1] s=some (.lst (bs.map V.ref)):=by
   unfold cutH;rw [if_neg (fun e=>nsp (D1.mp e))];exact zY
  have nB:cutH H8 [p1] p1=none:=by unfold cutH;exact if_pos (by simp)
  have hB8:=qI H8 [p1];generalize cutH H8 [p1]=B at SB hsB nB hB8;have hPB:=T3 hP2 fun a l (e:H5 a=some (.lst (l.map V.int)))=>(show B a=some (.lst (l.map V.int)) from SB _ _ (S6 _ _ e))
  have A9:=Paired.length hPB;refine ⟨s,rfl,⟨_,.of zY⟩,forL (xs:=bs.map V.ref) (fun i O H9=>∃ (v:Option V),O=[some (.ref x),some (.str z),some (.int n),some (.ref u),some (.ref p),some (.ref p1),v]/\Same B H9/\H9 p1=some (.lst (((MS.take i).flatMap fun l=>l++[0]).map V.int))/\((MS.take i).flatMap fun l=>l++[0]).length<=20001*i) ⟨none,rfl,hB8,hp8,F7 _⟩ (by rintro i O H9 _ ⟨_,_,S,_⟩;exact .of (S _ _ hsB)) ?_ ?_⟩
  .rintro i v O H9 hv ⟨w,rfl,S9,h9,jU⟩;obtain ⟨a,ha,rfl⟩:=G9 hv;obtain ⟨l,hl,nG⟩:=Paired.at hPB ha;have hi:i<MS.length:=(F6.mp hl).1;have zJ:=hLS2 l (K4 hl);have ea:(MS.take (i+1)).flatMap (fun l=>l++[0])=(MS.take i).flatMap (fun l=>l++[0])++l++[0]:=by
    rw [J7 hl,Z4,W8]
    simp
   generalize (MS.take i).flatMap (fun l=>l++[0])=acc at h9 jU ea;walk_at "rd";refine ⟨N7 h9,⟨p1,a,_,_,rfl,rfl,h9,S9 _ _ nG,by rw [A4,A4];have:=G5 (n:=acc.length+l.length) (by lia);lia,?_⟩⟩;have h10:A0 H9 p1 (.lst (acc.map V.int++l.map V.int)) p1=some (.lst (acc.map V.int++l.map V.int)):=A2;have o9:Same B (A0 H9 p1 (.lst (acc.map V.int++l.map V.int))):=S9.put nB;generalize A0 H9 p1 (.lst (acc.map V.int++l.map V.int))=V0 at h10 o9;walk_at "rd";refine ⟨N7 h10,appOk h10 (by rw [C8,A4,A4];exact G5 (by lia)) ⟨o9.put nB,?_,?_⟩⟩
   .rw [A2,ea,D6,D6];rfl
   .rw [ea,C8,C8,R3];lia
  rintro O H9 ⟨w,rfl,S9,h9,_⟩;rw [A4,A9,K9] at h9;walk_at "rd";exact q p1 H9 ((jZ.trans S6).free G4) (jZ.trans (S6.trans (SB.trans S9))) h9
theorem afY:FnScope ["order", "text"] ["order", "text"] (C3 lW):=G2
abbrev adS:List Str:=["order", "text"]
theorem vcQ:VS adS lW "order" 0:=vq
theorem vcR:VS adS lW "text" 1:=vq
theorem afZ(F:FunD K "letters_of" "letters_of" lW f fd)(T:Txt P w K mg C C_Shelf)(G_units:FO P w K mg base 6 "units" ["order", "text"] [] (vL C))(G_first_level:FO P w K mg base 2 "first_level" ["made"] [] vP):FnOk P w K mg base D9 7 f fd ["order", "text"] (qK C):=by
 refine F.ok afY ?_ ?_
 .rintro _ _ _ _ ⟨x,j,ll,ml,md,z,g,R,L,M,rfl,_⟩;rfl
 .intro cdv A outer s H vs Q E hr h;have C5:=hu_of hr;have hu:=hr.units;refine ⟨_,QSs.out (A7 (D8 (E8 G_first_level (hm hr) (qa_c (E8 G_units (hm hr) (qa_c (vi vcQ) (qa_c (vi vcR) A1))) A1)))),?_⟩;obtain ⟨x,j,ll,ml,md,z,g,R,L,M,rfl,hO,hk,hz,hw,hs,q⟩:=h;have hp:=(qF (w:=hasW R "figures") (g:=F9 R) _ z.cps.toList (B5 _)).2.1;rw [lenL] at hp;obtain ⟨C5,y4⟩:=qJ hs (cutF (hasW R "figures") (F9 R) z.cps.toList).2;walk_at "rd";refine ⟨x,j,ll,ml,md,z,g,R,L,M,rfl,hO,hk,hz,hw,hs,fun u H1 nu S1 hU=>?_⟩;exact ⟨u,_,rfl,hU,by lia,fun l H2 nl S2 h2=>q l H2 (S1.free nl) (S1.trans S2) h2⟩
theorem ahH:FnScope ["_law_script", "_law_k"] ["_law_script", "_law_k"] (C3 lX):=G2
abbrev afk:List Str:=["_law_script", "_law_k"]
theorem vcS:VS afk lX "_law_script" 0:=vq
theorem vcT:VS afk lX "_law_k" 1:=vq
theorem ahI(F:FunD K "_law_number" "_law_number" lX f fd)(T:Txt P w K mg C C_Shelf):FnOk P w K mg base D9 1 f fd ["_law_script", "_law_k"] (vV K):=by
 refine F.ok ahH ?_ ?_
 .rintro _ _ _ _ ⟨a,ns,k,rfl,_⟩;rfl
 .intro cdv A outer s H vs Q E hr h;have C5:=hu_of hr;have hu:=hr.units;refine ⟨_,QSs.out (A6 (qs_if (J5 q_lt (vi vcT) (qe_cB (q_len (K:=K)) T.b_len Q6 (qa_c (vi vcS) A1))) (A7 (D8 (qe_op q_mod (qe_op q_mul (qe_ix (K:=K) (vi vcS) (vi vcT)) A5) A5))) K8)
   (A7 (D8 A5))),?_⟩
  obtain ⟨a,ns,k,rfl,hS,hk,q⟩:=h;walk_at "rd";refine ⟨ns.length,.inl ⟨_,hS,by rw [A4]⟩,iteD (fun e=>⟨_,.inl hS,V.int (ns.getD k.toNat 0),?_,?_⟩) fun e=>?_⟩
  .obtain ⟨j,rfl⟩:∃ j:Nat,k=(j:Int):=⟨k.toNat,by lia⟩
   have hl:j<ns.length:=by lia
   refine G7 ?_;rw [O1,G0 hl];show some (V.int ns[j])=_;rw [V1,Int.toNat_natCast,G0 hl];rfl
  .walk_at "rd";unfold numF cellF at q;rw [if_pos e] at q;exact ⟨.inr ⟨by lia,by lia⟩,q⟩
  .unfold numF cellF at q;rw [if_neg e] at q;exact q
theorem sc_l_sign:FnScope ["_law_number_here", "_law_k", "_law_figures", "_law_signs", "_law_step"] ["_law_number_here", "_law_k", "_law_figures"] (C3 x0):=G2
abbrev mF:List Str:=["_law_number_here", "_law_k", "_law_figures", "_law_signs", "_law_step"]
theorem vcU:VS mF x0 "_law_number_here" 0:=vq
theorem vcV:VS mF x0 "_law_k" 1:=vq
theorem vcW:VS mF x0 "_law_figures" 2:=vq
theorem xG:VS mF x0 "_law_signs" 3:=vq
theorem vcY:VS mF x0 "_law_step" 4:=vq
theorem vcZ:LS x0 "_law_signs":=lq
theorem vc0:LS x0 "_law_step":=lq
theorem akN(F:FunD K "_law_sign" "_law_sign" x0 f fd)(T:Txt P w K mg C C_Shelf):FnOk P w K mg base D9 1 f fd ["_law_number_here", "_law_k", "_law_figures"] akE:=by
 refine F.ok sc_l_sign ?_ ?_
 .rintro _ _ _ _ ⟨n,k,w,rfl,_⟩;rfl
 .intro cdv A outer s H vs Q E hr h;have C5:=hu_of hr;have hu:=hr.units;refine ⟨_,QSs.out (A6 (D3 (n:=3) sc_l_sign.nd rfl vcZ K2)
   (iJ (qs_if (aN (R4 (K:=K) (vi vcW))) (A7 (D3 (n:=3) sc_l_sign.nd rfl vcZ (qe_op (q_add (K:=K)) (vi xG) K2))) K8)
   (A6 (D3 (n:=4) sc_l_sign.nd rfl vc0 (qe_ix (K:=K) (N1 (qa_c A5 (qa_c A5 (qa_c A5 (qa_c A5 (qa_c A5 (qa_c A5 (qa_c A5 (qa_c A5 (qa_c A5 (qa_c A5 (qa_c A5 (qa_c A5 A1))))))))))))) (qe_op q_mod (qe_op b8 (vi vcU) A5) A5)))
   (A7 (D8 (qe_ix (K:=K) (vi xG) (qe_op q_mod (qe_op (q_add (K:=K)) (vi vcU) (qe_op q_mul (vi vcV) (vi vcY))) (qe_cB (q_len (K:=K)) T.b_len Q6 (qa_c (vi xG) A1))))))))),?_⟩
  obtain ⟨n,k,w,rfl,hk,q⟩:=h;walk_at "rd";refine eK (fun O H2=>∃ z:Str,O=[some (.int n),some (.int k),some (.bl w),some (.str z),none]/\H2=H/\z.cps.toList=listF (!w)) ?_ ?_
  .walk_at "rd"
   cases w with
   | true=>exact SA_eq
   | false=>exact ⟨by decide,SB_eq⟩
  rintro O H2 ⟨z,rfl,rfl,hz⟩;have X2:=aoq n;have R1:(z.length:Int)=lenF (!w):=by rw [<- uT,<- hz];simp [Str.length]
  have hp:=uV (!w);have K3:=(amM w n k).1;rw [<- hz,<- R1] at K3;have hsz:z.length<=sizeLine:=i9 (by lia);walk_at "rd";refine ⟨by decide,fun p np=>⟨_,.inl (.of A2),V.int (e9 n),(vU n).1,?_⟩⟩;walk_at "rd";exact ⟨.inr ⟨by lia,by lia⟩,hsz,by lia,hsz,_,K3,q _ (Same.new np)⟩
theorem sc_l_rules:FnScope ["_law_number_here", "_law_flags", "_law_pool_here", "_law_two", "_law_more", "_law_k", "_law_tail", "_law_row", "_law_at", "_law_rules_here", "_law_known"] ["_law_number_here"] (C3 O8):=G2
abbrev m8:List Str:=["_law_number_here", "_law_flags", "_law_pool_here", "_law_two", "_law_more", "_law_k", "_law_tail", "_law_row", "_law_at", "_law_rules_here", "_law_known"]
theorem vc1:VS m8 O8 "_law_number_here" 0:=vq
theorem eW:VS m8 O8 "_law_flags" 1:=vq
theorem Q2:VS m8 O8 "_law_pool_here" 2:=vq
theorem vc4:VS m8 O8 "_law_two" 3:=vq
theorem xH:VS m8 O8 "_law_more" 4:=vq
theorem vc6:VS m8 O8 "_law_k" 5:=vq
theorem vc7:VS m8 O8 "_law_tail" 6:=vq
theorem xI:VS m8 O8 "_law_row" 7:=vq
theorem vc9:VS m8 O8 "_law_at" 8:=vq
theorem eX:VS m8 O8 "_law_rules_here" 9:=vq
theorem rF:VS m8 O8 "_law_known" 10:=vq
theorem vdc:LS O8 "_law_flags":=lq
theorem vdd:LS O8 "_law_pool_here":=lq
theorem vde:LS O8 "_law_two":=lq
theorem vdf:LS O8 "_law_more":=lq
theorem vdg:LS O8 "_law_k":=lq
theorem vdh:LS O8 "_law_tail":=lq
theorem vdi:LS O8 "_law_row":=lq
theorem vdj:LS O8 "_law_at":=lq
theorem vdk:LS O8 "_law_rules_here":=lq
theorem vdl:LS O8 "_law_known":=lq
theorem ai3(F:FunD K "_law_rules" "_law_rules" O8 f fd)(T:Txt P w K mg C C_Shelf)(G_l_sign:FO P w K mg base 1 "_law_sign" ["_law_number_here", "_law_k", "_law_figures"] [] akE):FnOk P w K mg base D9 2 f fd ["_law_number_here"] amN:=by
 refine F.ok sc_l_rules ?_ ?_
 .rintro _ _ _ _ ⟨n,rfl,_⟩;rfl
 .intro cdv A outer s H vs Q E hr h;have C5:=hu_of hr;have hu:=hr.units;refine ⟨_,QSs.out (A6 (D3 (n:=1) sc_l_rules.nd rfl vdc (qe_op b8 (vi vc1) A5))
   (A6 (D3 (n:=2) sc_l_rules.nd rfl vdd (Y0  (T9:CompOk ["_law_number_here", "_law_flags", "_law_pool_here", "_law_two", "_law_more", "_law_k", "_law_tail", "_law_row", "_law_at", "_law_rules_here", "_law_known"] (C3 O8).names _ ["_law_k", "_law_number_here", "_law_flags"] 1 [0,1]) (qi_r1 T.b_range (qa_c A5 A1)) (fun _ _ _ _ _=>D5 (n:=0) (show List.Nodup (["_law_k", "_law_number_here", "_law_flags"]:List Str) by decide +kernel) rfl (Or.inl rfl)) (fun _ _ _ _ _=>l9) (fun _ _ _ _ _=>(E8 G_l_sign (hm hr) (qa_c (qv 1) (qa_c (qv 0) (qa_c (eI (q_eq (K:=K) hu) (qe_op q_mod (qv 2) A5) A5) A1)))))))
   (A6 (D3 (n:=3) sc_l_rules.nd rfl vde (qe_op (q_add (K:=K)) (qe_ix (K:=K) (vi Q2) A5) (qe_ix (K:=K) (vi Q2) (qe_op q_mod (qe_op b8 (vi eW) A5) A5))))
   (A6 (D3 (n:=4) sc_l_rules.nd rfl vdf (qe_op b8 (vi eW) A5))
   (A6 (N2 PassesOwn.never (O7 (K:=K) (N1 (qa_c A5 (qa_c A5 (qa_c A5 A1))))) (D5 (n:=5) sc_l_rules.nd rfl vdg (.inl rfl)) (A6 (D3 (n:=6) sc_l_rules.nd rfl vdh (qe_ix (K:=K) (vi Q2) (qe_op q_mod (qe_op b8 (vi xH) A5) A5)))
   (A6 (amu (qe_op (q_add (K:=K)) (qe_ix (K:=K) (vi Q2) (vi vc6)) (qe_op aqU (vi vc7) (qe_cT amG T.b_int pG (qa_c (eI (q_eq (K:=K) hu) (qe_op q_mod (vi xH) A5) A5) A1)))) (an9 (vi Q2) (vi vc6)))
   (A7 (D3 (n:=4) sc_l_rules.nd rfl vdf (qe_op b8 (vi xH) A5))))))
   (A6 (D3 (n:=7) sc_l_rules.nd rfl vdi (N1 (qa_c (qe_ix (K:=K) (vi Q2) A5) (qa_c (qe_ix (K:=K) (vi Q2) A5) (qa_c (qe_ix (K:=K) (vi Q2) A5) (qa_c (qe_ix (K:=K) (vi Q2) A5) A1))))))
   (A6 (D3 (n:=8) sc_l_rules.nd rfl vdj (qe_op q_mod (qe_op b8 (vi eW) A5) A5))
   (A6 (D3 (n:=7) sc_l_rules.nd rfl vdi (qe_op (q_add (K:=K)) (qe_op (q_add (K:=K)) (T4 (K:=K) (vi xI) Z9 (O6 (vi vc9))) (N1 (qa_c (vi vc4) A1))) (T4 (K:=K) (vi xI) (O6 (vi vc9)) Z9)))
   (A6 (D3 (n:=9) sc_l_rules.nd rfl vdk (N1 (qa_c (qe_op (q_add (K:=K)) (O5 (qa_c K2 A1)) (qe_cT (uE (K:=K)) T.b_tuple pE (qa_c (vi xI) A1))) (qa_c (O5 (qa_c K2 (qa_c (qe_ix (K:=K) (vi Q2) A5) (qa_c (qe_ix (K:=K) (vi Q2) A5) A1)))) A1))))
   (A6 (L9 (qe_mB (K:=K) O3 R9 R8 T7 (vi eX) (qa_c (O5 (qa_c K2 (qa_c (qe_ix (K:=K) (vi Q2) A5) (qa_c (qe_ix (K:=K) (vi Q2) A5) (qa_c (qe_ix (K:=K) (vi Q2) A5) A1))))) A1)))
   (A6 (L9 (qe_mB (K:=K) O3 R9 R8 T7 (vi eX) (qa_c (O5 (qa_c K2 (qa_c (qe_ix (K:=K) (vi Q2) A5) (qa_c (qe_ix (K:=K) (vi Q2) A5) (qa_c (qe_ix (K:=K) (N1 (qa_c (qe_ix (K:=K) (vi Q2) A5) (qa_c (qe_ix (K:=K) (vi Q2) A5) A1))) (qe_op q_mod (qe_op b8 (vi eW) A5) A5)) A1))))) A1)))
   (A6 (L9 (qe_mB (K:=K) O3 R9 R8 T7 (vi eX) (qa_c (O5 (qa_c K2 (qa_c (qe_ix (K:=K) (vi Q2) A5) A1))) A1)))
   (A6 (uC (n:=10) sc_l_rules.nd rfl vdl (T9:CompOk ["_law_number_here", "_law_flags", "_law_pool_here", "_law_two", "_law_more", "_law_k", "_law_tail", "_law_row", "_law_at", "_law_rules_here", "_law_known"] (C3 O8).names _ ["_law_k", "_law_pool_here"] 1 [2]) (O7 (K:=K) (N1 (qa_c A5 (qa_c A5 (qa_c A5 (qa_c A5 (qa_c A5 (qa_c A5 (qa_c A5 A1))))))))) (fun _ _ _ _ _=>D5 (n:=0) (show List.Nodup (["_law_k", "_law_pool_here"]:List Str) by decide +kernel) rfl (Or.inl rfl)) (fun _ _ _ _ _=>l9) (fun _ _ _ _ _=>(qe_ix (K:=K) (qv 1) (qv 0))))
   (A6 (D3 (n:=10) sc_l_rules.nd rfl vdl (qe_op (q_add (K:=K)) (vi rF) (N1 (qa_c (vi vc4) (qa_c (qe_ix (K:=K) (vi Q2) A5) (qa_c (qe_ix (K:=K) (vi Q2) A5) (qa_c (qe_ix (K:=K) (vi Q2) A5) A1)))))))
   (iJ (qs_if (J5 (q_eq (K:=K) hu) (qe_op q_mod (vi eW) A5) A5) (A6 (L9 (qe_mB (K:=K) O3 R9 R8 T7 (vi eX) (qa_c (O5 (qa_c K2 A1)) A1)))
   (A7 (L9 (qe_mB (K:=K) O3 kL kK pR (vi rF) (qa_c (N1 (qa_c K2 (qa_c K2 (qa_c K2 (qa_c K2 A1))))) A1))))) K8)
   (iJ (qs_if (J5 (q_eq (K:=K) hu) (qe_op q_mod (qe_op b8 (vi eW) A5) A5) A5) (A6 (L9 (qe_mB (K:=K) O3 R9 R8 T7 (vi eX) (qa_c (O5 (qa_c K2 A1)) A1)))
   (A7 (L9 (qe_mB (K:=K) O3 R9 R8 T7 (vi rF) (qa_c K2 A1))))) K8)
   (iJ (qs_if (J5 (q_eq (K:=K) hu) (qe_op q_mod (qe_op b8 (vi eW) A5) A5) A5) (A7 (L9 (qe_mB (K:=K) O3 R9 R8 T7 (vi eX) (qa_c (O5 (qa_c K2 A1)) A1)))) K8)
   (A7 (D8 (O5 (qa_c (vi eX) (qa_c (vi rF) A1)))))))))))))))))))))),?_⟩
  obtain ⟨n,rfl,q⟩:=h;walk_at "rd";refine ⟨by decide,by decide,compR [some (.int n),some (.int (n / 1116))] rfl (fun D j ys H4=>ys=(P1 j).map (fun k:Nat=>V.str (one (x5 (decide (n / 1116 % 2=1)) n (k:Int))))/\Same H H4) (fun D nD=>⟨rfl,Same.new nD⟩) ?_ ?_⟩
  .rintro D i ys H4 nD hi ⟨rfl,S⟩ hD hy;walk_at "rd";refine ⟨n,_,_,rfl,by lia,fun H5 S5=>⟨S5 _ _ hD,G5 (by lia),CW.put hi hy ⟨?_,(S.trans S5).put nD⟩⟩⟩;rw [List.range_succ,D6,Int.zero_add];rfl
  generalize hw:decide (n / 1116 % 2=1)=w;obtain ⟨c,hc⟩:∃ c:Nat->Nat,c=fun k:Nat=>x5 w n (k:Int):=⟨_,rfl⟩
  have inj:∀ k<10,∀ l<10,c k=c l->k=l:=fun k hk l hl e=>by
   rw [hc] at e
   have:=aor (w:=w) (n:=n) (k:=k) (l:=l) (by lia) (by lia) (by lia) (by lia) e
   lia
  have ok:∀ k,m6 w (c k):=fun k=>by rw [hc];exact ard w n k
  rintro D ys H2 nD ⟨rfl,S2⟩ hD hy;clear hy
  replace hD:H2 D=some (.lst (Y4 fun k=>one (c k))):=by rw [hD,hc];rfl
  clear hc;generalize n / 1116=fl at hw;obtain ⟨j,hj,hj4⟩:∃ j:Nat,fl / 8 % 4=(j:Int)/\j<4:=⟨(fl / 8 % 4).toNat,by lia,by lia⟩
  walk_at "rd";refine ⟨_,.inl (.of hD),_,G7 (j:=0) (jA _ (by decide)),_,.inl (.of hD),V.str (one (c j)),by rw [hj];exact G7 (jA _ (by lia)),?_⟩;walk_at "rd";refine ⟨by show 1+1<=sizeLine;decide,by decide,fun p np=>?_⟩;rw [show one (c 0)++one (c j)=two (c 0) (c j) from rfl];have npD:D≠p:=fun e=>by rw [<- e,hD] at np;cases np
  have S3:Same H (A0 H2 p (.lst [V.int 4,V.int 8,V.int 9])):=S2.trans (Same.new np);have o5:A0 H2 p (.lst [V.int 4,V.int 8,V.int 9]) p=some (.lst [V.int 4,V.int 8,V.int 9]):=A2;have hD3:=C9 (u:=HO.lst [V.int 4,V.int 8,V.int 9]) hD np;generalize A0 H2 p (.lst [V.int 4,V.int 8,V.int 9])=H3 at S3 o5 hD3;clear S2 hD np;refine ⟨⟨_,.of o5⟩,forL (xs:=[V.int 4,V.int 8,V.int 9]) (fun i O H4=>∃ (m:Int) (u5 u6:Option V) (pc:Nat->Str),O=[some (.int n),some (.int fl),some (.ref D),some (.str (two (c 0) (c j))),some (.int m),u5,u6,none,none,none,none]/\Same H H4/\H4 p=some (.lst [V.int 4,V.int 8,V.int 9])/\H4 D=some (.lst (Y4 pc))/\cV c i pc/\∀ k<4,pc k=one (c k))
   ⟨_,_,_,_,rfl,S3,o5,hD3,fun k=>.inl rfl,fun _ _=>rfl⟩ (by rintro i O H4 _ ⟨_,_,_,_,_,_,hp,_⟩;exact .of hp) ?_ ?_⟩
  .rintro i x O H4 hx ⟨m,u5,u6,pc,rfl,S4,bE,hD4,P,P4⟩;obtain ⟨k,hk,rfl⟩:∃ k:Nat,([4,8,9]:List Nat)[i]?=some k/\x=V.int k:=by
    rw [show [V.int 4,V.int 8,V.int 9]=([4,8,9]:List Nat).map (fun k:Nat=>V.int (k:Int)) from rfl,O1] at hx;obtain ⟨k,h1,h2⟩:=kQ.mp hx;exact ⟨k,h1,h2.symm⟩
   have fZ:4<=k/\k<10:=(show ∀ k∈([4,8,9]:List Nat),4<=k/\k<10 by decide) k (K4 hk);obtain ⟨t,ht,sK⟩:∃ t:Nat,m / 27 % 4=(t:Int)/\t<4:=⟨(m / 27 % 4).toNat,by lia,by lia⟩
   obtain ⟨y8,PN⟩:=P.step hk (decide (m % 3=1)) sK;walk_at "rd";refine ⟨_,.inl (.of hD4),V.str (one (c t)),by rw [ht,<- P4 t sK];exact G7 (jA _ (by lia)),?_⟩;refine ⟨_,.inl (.of hD4),V.str (one (c k)),by rw [<- y8];exact G7 (jA _ (by lia)),?_⟩;refine ⟨_,_,rfl,rfl,(mulB _ _).1,?_⟩;rw [(mulB _ _).2];generalize decide (m % 3=1)=b at PN;have ed:one (c k)++(if b=true then one (c t) else Str.empty)=(if b=true then two (c k) (c t) else one (c k)):=by cases b <;> rfl
   have hix:W9 (Y4 pc).length (k:Int)=some k:=by
    unfold Y4 W9;rw [A4,gN,if_pos (by lia),if_pos (by lia)];rfl
   have hsz:(one (c k)).length+(if b=true then one (c t) else Str.empty).length<=sizeLine:=by
    cases b
    .show 1+0<=sizeLine;decide
    .show 1+1<=sizeLine;decide
   refine ⟨hsz,_,hD4,k,hix,?_⟩;rw [ed,aot pc fZ.2];refine ⟨S4.put nD,by rw [A3 npD.symm];exact bE,_,A2,PN,fun k' fF=>?_⟩;rw [if_neg (by lia)];exact P4 k' fF
  rintro O H4 ⟨m,u5,u6,pc,rfl,S4,bE,hD4,P,P4⟩;clear bE npD o5 hD3 S3;have p6:∀ k,k<4->(Y4 pc)[k]?=some (V.str (one (c k))):=fun k hk=>by rw [<- P4 k hk];exact jA _ (by lia)
  have atP:∀ k,k<10->(Y4 pc)[k]?=some (V.str (pc k)):=fun k hk=>jA _ hk
  obtain ⟨t,ht,sK⟩:∃ t:Nat,fl / 32 % 5=(t:Int)/\t<=4:=⟨(fl / 32 % 5).toNat,by lia,by lia⟩
  walk_at "rd";refine ⟨_,.inl (.of hD4),_,G7 (j:=0) (p6 0 (by decide)),_,.inl (.of hD4),_,G7 (j:=1) (p6 1 (by decide)),_,.inl (.of hD4),_,G7 (j:=2) (p6 2 (by decide)),_,.inl (.of hD4),_,G7 (j:=3) (p6 3 (by decide)),?_⟩;refine ⟨by decide,fun b nb=>?_⟩;have sL:A0 H4 b (HO.lst [V.str (one (c 0)),V.str (one (c 1)),V.str (one (c 2)),V.str (one (c 3))]) b=some (.lst ((R5 c).map V.str)):=A2;have S5:Same H4 (A0 H4 b (HO.lst [V.str (one (c 0)),V.str (one (c 1)),V.str (one (c 2)),V.str (one (c 3))])):=Same.new nb;generalize A0 H4 b (HO.lst [V.str (one (c 0)),V.str (one (c 1)),V.str (one (c 2)),V.str (one (c 3))])=H5 at sL S5;rw [ht];refine rSlR.l (.of sL) fun s1 kA=>⟨by decide,fun s2 jW=>?_⟩
  rw [iK,<- aD] at jW ⊢
  walk_at "rd";refine rAddR.l (C9 A2 jW) A2 (by rw [A4,L0,R3];exact i9 (by lia)) fun s3 ns3=>?_
  have S6:Same H5 (A0 (A0 (A0 H5 s1 (.lst (((R5 c).take t).map V.str))) s2 (.lst [V.str (two (c 0) (c j))])) s3 (.lst (((R5 c).take t).map V.str++[V.str (two (c 0) (c j))]))):=((Same.new kA).trans (Same.new jW)).trans (Same.new ns3);have gB:A0 (A0 (A0 H5 s1 (.lst (((R5 c).take t).map V.str))) s2 (.lst [V.str (two (c 0) (c j))])) s3 (.lst (((R5 c).take t).map V.str++[V.str (two (c 0) (c j))])) s3=some (.lst (((R5 c).take t++[two (c 0) (c j)]).map V.str)):=by rw [A2,D6];rfl
  generalize A0 (A0 (A0 H5 s1 (.lst (((R5 c).take t).map V.str))) s2 (.lst [V.str (two (c 0) (c j))])) s3 (.lst (((R5 c).take t).map V.str++[V.str (two (c 0) (c j))]))=H6 at S6 gB;clear kA jW ns3;refine rSlR.l (.of (S6 _ _ sL)) fun s4 zZ=>?_
  rw [eN,<- List.map_drop];walk_at "rd";refine rAddR.l (C9 gB zZ) A2 (by simp only [A4,C8,L0,q9,R3];exact i9 (by show min t 4+1+(4-t)<=1000000;lia)) fun s5 ns5=>⟨by decide,fun p1 G4=>?_⟩
  have S7:Same H6 (A0 (A0 (A0 H6 s4 (.lst (((R5 c).drop t).map V.str))) s5 (.lst (((R5 c).take t++[two (c 0) (c j)]).map V.str++((R5 c).drop t).map V.str))) p1 (.tup [V.str (Str.ofString "row")])):=((Same.new zZ).trans (Same.new ns5)).trans (Same.new G4);have gC:A0 (A0 (A0 H6 s4 (.lst (((R5 c).drop t).map V.str))) s5 (.lst (((R5 c).take t++[two (c 0) (c j)]).map V.str++((R5 c).drop t).map V.str))) p1 (.tup [V.str (Str.ofString "row")]) s5=some (.lst ((rowS c j t).map V.str)):=C9 (by rw [A2,<- D6];rfl) G4;have fY:A0 (A0 (A0 H6 s4 (.lst (((R5 c).drop t).map V.str))) s5 (.lst (((R5 c).take t++[two (c 0) (c j)]).map V.str++((R5 c).drop t).map V.str))) p1 (.tup [V.str (Str.ofString "row")]) p1=some (.tup [V.str (Str.ofString "row")]):=A2;generalize A0 (A0 (A0 H6 s4 (.lst (((R5 c).drop t).map V.str))) s5 (.lst (((R5 c).take t++[two (c 0) (c j)]).map V.str++((R5 c).drop t).map V.str))) p1 (.tup [V.str (Str.ofString "row")])=H7 at S7 gC fY;clear zZ ns5 G4 gB;have S47:=S5.trans (S6.trans S7);clear S5 S6 S7 sL nb;have hq4:∃ z,K7 [V.str (pc 4),V.str (one (c 1))] (fl / 160 % 2)=some (V.str z)/\(z=pc 4\/z=one (c 1)):=by
   rcases (by lia:fl / 160 % 2=0\/fl / 160 % 2=1) with e | e
   .rw [e];exact ⟨_,rfl,.inl rfl⟩
   .rw [e];exact ⟨_,rfl,.inr rfl⟩
  obtain ⟨qz,hqa,hqz⟩:=hq4;have sh:=arf ok inj P hj4 sK hqz;have y9:(rowS c j t).length=5:=sh.l1;walk_at "rd";refine rTupR.l (.of gC) fun t1 nt1=>?_
  walk_at "rd";refine rAddR.t (.of (C9 fY nt1)) (.of A2) (by simp) (by simp only [A4,G6,k4];exact i9 (by lia)) (fun e=>by rw [List.map_eq_nil_iff.mp e] at y9;cases y9) fun _ t2 jY=>?_
  have S8:Same H4 (A0 H7 t1 (.tup ((rowS c j t).map V.str))):=S47.trans (Same.new nt1);have n2:H4 t2=none:=S8.free jY;have S9:=S8.trans (Same.new (u:=HO.tup ([V.str (Str.ofString "row")]++(rowS c j t).map V.str)) jY);have nO:A0 (A0 H7 t1 (.tup ((rowS c j t).map V.str))) t2 (HO.tup ([V.str (Str.ofString "row")]++(rowS c j t).map V.str)) t2=some (tupR (("row" : Str),rowS c j t)):=A2;generalize A0 (A0 H7 t1 (.tup ((rowS c j t).map V.str))) t2 (HO.tup ([V.str (Str.ofString "row")]++(rowS c j t).map V.str))=H9 at S9 nO;clear nt1 jY S8 S47 gC fY;have hD9:=S9 _ _ hD4;refine ⟨_,.inl (.of hD9),_,G7 (j:=4) (atP 4 (by decide)),_,.inl (.of hD9),_,G7 (j:=5) (atP 5 (by decide)),by decide,fun t3 kB=>⟨by decide,fun r nr=>?_⟩⟩;have kC:H9 r=none:=(Same.new kB).free nr;have nDr:D≠r:=fun e=>by rw [<- e,hD9] at kC;cases kC
  have n23:t2≠t3:=fun e=>by rw [<- e,nO] at kB;cases kB
  have n2r:t2≠r:=fun e=>by rw [<- e,nO] at kC;cases kC
  have n3r:t3≠r:=fun e=>by rw [<- e,A2] at nr;cases nr
  have o9:Same H9 (A0 (A0 H9 t3 (HO.tup [V.str (Str.ofString "marks"),V.str (pc 4),V.str (pc 5)])) r (HO.lst [V.ref t2,V.ref t3])):=(Same.new kB).trans (Same.new nr);have RA:RulesAt H (A0 (A0 H9 t3 (HO.tup [V.str (Str.ofString "marks"),V.str (pc 4),V.str (pc 5)])) r (HO.lst [V.ref t2,V.ref t3])) r [t2,t3] [(("row" : Str),rowS c j t),(("marks" : Str),[pc 4,pc 5])]:=by
   refine ⟨⟨A2,.cons (o9 _ _ nO) (.cons (by rw [A3 n3r,A2];rfl) .nil)⟩,by simp only [V2,E4,Z6,or_false,not_or,List.nodup_nil,not_false_iff,and_true];exact ⟨⟨n2r.symm,n3r.symm⟩,n23⟩,fun x hx=>?_,S4.trans (S9.trans o9)⟩;simp only [E4,Z6,or_false] at hx
   rcases hx with rfl | rfl | rfl
   .exact (S4.trans S9).free kC
   .exact S4.free n2
   .exact (S4.trans S9).free kB
  have hD10:=o9 _ _ hD9;generalize A0 (A0 H9 t3 (HO.tup [V.str (Str.ofString "marks"),V.str (pc 4),V.str (pc 5)])) r (HO.lst [V.ref t2,V.ref t3])=V0 at RA hD10;clear o9 n3r n2r n23 kC nr kB nO hD9 S9 n2 S4 hD4;refine ⟨N7 RA.rows.top,_,.inl (.of hD10),_,G7 (j:=0) (p6 0 (by decide)),_,.inl (.of hD10),_,G7 (j:=6) (atP 6 (by decide)),_,.inl (.of hD10),_,G7 (j:=7) (atP 7 (by decide)),by decide,fun t4 nQ=>?_⟩;refine appOk (C9 RA.rows.top nQ) (show 2<sizeLine by decide) ?_;have RB:RulesAt H (A0 (A0 V0 t4 (HO.tup [V.str (Str.ofString "great"),V.str (one (c 0)),V.str (pc 6),V.str (pc 7)])) r (.lst ([t2,t3].map V.ref++[V.ref t4]))) r ([t2,t3]++[t4]) _:=RA.grow (Same.new nQ) nQ (z:=(("great" : Str),[one (c 0),pc 6,pc 7])) A2;have hD11:A0 (A0 V0 t4 (HO.tup [V.str (Str.ofString "great"),V.str (one (c 0)),V.str (pc 6),V.str (pc 7)])) r (.lst ([t2,t3].map V.ref++[V.ref t4])) D=some (.lst (Y4 pc)):=by rw [A3 nDr];exact C9 hD10 nQ
  generalize A0 (A0 V0 t4 (HO.tup [V.str (Str.ofString "great"),V.str (one (c 0)),V.str (pc 6),V.str (pc 7)])) r (.lst ([t2,t3].map V.ref++[V.ref t4]))=fT at RB hD11;clear nQ hD10 RA;refine ⟨N7 RB.rows.top,_,.inl (.of hD11),_,G7 (j:=8) (atP 8 (by decide)),_,.inl (.of hD11),_,G7 (j:=0) (p6 0 (by decide)),_,.inl (.of hD11),_,G7 (j:=4) (atP 4 (by decide)),_,.inl (.of hD11),_,G7 (j:=1) (p6 1 (by decide)),by decide,fun u1 nu1=>⟨_,.inl (.of A2),_,hqa,by decide,fun t5 kD=>?_⟩⟩;have f9:Same fT (A0 (A0 fT u1 (.lst [V.str (pc 4),V.str (one (c 1))])) t5 (HO.tup [V.str (Str.ofString "as"),V.str (pc 8),V.str (one (c 0)),V.str qz])):=(Same.new nu1).trans (Same.new kD);refine appOk (f9 _ _ RB.rows.top) (show 3<sizeLine by decide) ?_;have RC:RulesAt H (A0 (A0 (A0 fT u1 (.lst [V.str (pc 4),V.str (one (c 1))])) t5 (HO.tup [V.str (Str.ofString "as"),V.str (pc 8),V.str (one (c 0)),V.str qz])) r (.lst (([t2,t3]++[t4]).map V.ref++[V.ref t5]))) r ([t2,t3]++[t4]++[t5]) _:=RB.grow f9 ((Same.new nu1).free kD) (z:=(("as" : Str),[pc 8,one (c 0),qz])) A2;have hD12:A0 (A0 (A0 fT u1 (.lst [V.str (pc 4),V.str (one (c 1))])) t5 (HO.tup [V.str (Str.ofString "as"),V.str (pc 8),V.str (one (c 0)),V.str qz])) r (.lst (([t2,t3]++[t4]).map V.ref++[V.ref t5])) D=some (.lst (Y4 pc)):=by rw [A3 nDr];exact f9 _ _ hD11
  generalize A0 (A0 (A0 fT u1 (.lst [V.str (pc 4),V.str (one (c 1))])) t5 (HO.tup [V.str (Str.ofString "as"),V.str (pc 8),V.str (one (c 0)),V.str qz])) r (.lst (([t2,t3]++[t4]).map V.ref++[V.ref t5]))=nK at RC hD12;clear nu1 kD f9 hD11 RB;refine ⟨N7 RC.rows.top,_,.inl (.of hD12),_,G7 (j:=9) (atP 9 (by decide)),by decide,fun t6 nR=>?_⟩;refine appOk (C9 RC.rows.top nR) (show 4<sizeLine by decide) ?_;have RD:RulesAt H (A0 (A0 nK t6 (HO.tup [V.str (Str.ofString "over"),V.str (pc 9)])) r (.lst (([t2,t3]++[t4]++[t5]).map V.ref++[V.ref t6]))) r ([t2,t3]++[t4]++[t5]++[t6]) _:=RC.grow (Same.new nR) nR (z:=(("over" : Str),[pc 9])) A2;have hD13:A0 (A0 nK t6 (HO.tup [V.str (Str.ofString "over"),V.str (pc 9)])) r (.lst (([t2,t3]++[t4]++[t5]).map V.ref++[V.ref t6])) D=some (.lst (Y4 pc)):=by rw [A3 nDr];exact C9 hD12 nR
  generalize A0 (A0 nK t6 (HO.tup [V.str (Str.ofString "over"),V.str (pc 9)])) r (.lst (([t2,t3]++[t4]++[t5]).map V.ref++[V.ref t6]))=nS at RD hD13;clear nR hD12 RC
  replace RD:∃ ts,RulesAt H nS r ts (x6 (rowS c j t) [pc 4,pc 5] (one (c 0)) (pc 6) (pc 7) (pc 8) qz (pc 9))/\ts.length=5:=⟨_,RD,rfl⟩
  obtain ⟨ts,RD,nC⟩:=RD;refine ⟨by decide,fun u2 nu2=>?_⟩;have bL:A0 nS u2 (HO.lst [V.int 0,V.int 6,V.int 4,V.int 9,V.int 8,V.int 5,V.int 7]) u2=some (.lst (([0,6,4,9,8,5,7]:List Nat).map fun k:Nat=>V.int (k:Int))):=A2;have dP:Same nS (A0 nS u2 (HO.lst [V.int 0,V.int 6,V.int 4,V.int 9,V.int 8,V.int 5,V.int 7])):=Same.new nu2;generalize A0 nS u2 (HO.lst [V.int 0,V.int 6,V.int 4,V.int 9,V.int 8,V.int 5,V.int 7])=H14 at bL dP
  replace RD:=RD.more dP
  replace hD13:=dP _ _ hD13
  clear dP nu2;refine ⟨⟨_,.of bL⟩,compL [some (.ref D)] rfl (fun D2 i ys H'=>ys=(([0,6,4,9,8,5,7]:List Nat).take i).map (fun k=>V.str (pc k))/\Same H14 H') (fun D2 nD2=>⟨rfl,Same.new nD2⟩) (by rintro D2 i ys H' _ _ ⟨_,S⟩;exact .of (S _ _ bL)) ?_ ?_⟩
  .rintro D2 i x ys H' nD2 hi hx ⟨rfl,S⟩ hD2 hy;obtain ⟨k,hk,rfl⟩:∃ k:Nat,([0,6,4,9,8,5,7]:List Nat)[i]?=some k/\x=V.int k:=by
    rw [O1] at hx;obtain ⟨k,h1,h2⟩:=kQ.mp hx;exact ⟨k,h1,h2.symm⟩
   have fZ:k<10:=(show ∀ k∈([0,6,4,9,8,5,7]:List Nat),k<10 by decide) k (K4 hk);walk_at "rd";refine ⟨_,.inl (.of (S _ _ hD13)),V.str (pc k),G7 (atP k fZ),hD2,G5 (by rw [A4] at hi;exact K6 hy (K6 (dW hi) (by decide))),CW.put hi hy ⟨?_,S.put nD2⟩⟩;rw [J7 hk,D6];rfl
  rintro D2 ys kE nD2 ⟨rfl,jZ⟩ hD2 hy;clear hy
  replace hD2:kE D2=some (.lst (([pc 0,pc 6,pc 4,pc 9,pc 8,pc 5,pc 7]:List Str).map V.str)):=hD2
  replace RD:=RD.more jZ
  replace hD13:=jZ _ _ hD13
  clear jZ nD2 bL;refine ⟨_,.inl (.of hD13),_,G7 (j:=1) (p6 1 (by decide)),_,.inl (.of hD13),_,G7 (j:=2) (p6 2 (by decide)),_,.inl (.of hD13),_,G7 (j:=3) (p6 3 (by decide)),by decide,fun u3 sM=>?_⟩;walk_at "rd";refine rAddR.l (C9 hD2 sM) A2 (show 7+4<=sizeLine by decide) fun k nk=>?_
  have S16:Same kE (A0 (A0 kE u3 (HO.lst [V.str (two (c 0) (c j)),V.str (one (c 1)),V.str (one (c 2)),V.str (one (c 3))])) k (.lst (([pc 0,pc 6,pc 4,pc 9,pc 8,pc 5,pc 7]:List Str).map V.str++[V.str (two (c 0) (c j)),V.str (one (c 1)),V.str (one (c 2)),V.str (one (c 3))]))):=(Same.new sM).trans (Same.new nk);have p7:A0 (A0 kE u3 (HO.lst [V.str (two (c 0) (c j)),V.str (one (c 1)),V.str (one (c 2)),V.str (one (c 3))])) k (.lst (([pc 0,pc 6,pc 4,pc 9,pc 8,pc 5,pc 7]:List Str).map V.str++[V.str (two (c 0) (c j)),V.str (one (c 1)),V.str (one (c 2)),V.str (one (c 3))])) k=some (.lst (([pc 0,pc 6,pc 4,pc 9,pc 8,pc 5,pc 7,two (c 0) (c j),one (c 1),one (c 2),one (c 3)]:List Str).map V.str)):=A2;have nk15:kE k=none:=(Same.new sM).free nk;have nkr:k≠r:=fun e=>by rw [e,RD.rows.top] at nk15;cases nk15
  have nkH:H k=none:=RD.same.free nk15;generalize A0 (A0 kE u3 (HO.lst [V.str (two (c 0) (c j)),V.str (one (c 1)),V.str (one (c 2)),V.str (one (c 3))])) k (.lst (([pc 0,pc 6,pc 4,pc 9,pc 8,pc 5,pc 7]:List Str).map V.str++[V.str (two (c 0) (c j)),V.str (one (c 1)),V.str (one (c 2)),V.str (one (c 3))]))=H16 at S16 p7
  replace RD:=RD.more S16
  clear S16 nk sM hD2 hD13 nk15;have nU:∀ p∈([pc 0,pc 6,pc 4,pc 9,pc 8,pc 5,pc 7,two (c 0) (c j),one (c 1),one (c 2),one (c 3)]:List Str),p∈rowS c j t++([pc 4,pc 5]++[pc 6,pc 7,pc 8,pc 9]):=fun p hp=>by
   rw [P4 0 (by decide)] at hp;rw [D4,rowS_mem];simp only [dU,bS,E4,Z6,or_false] at hp ⊢
   rcases hp with h | h | h | h | h | h | h | h | h | h | h <;> simp [h]
  have y8:([pc 0,pc 6,pc 4,pc 9,pc 8,pc 5,pc 7,two (c 0) (c j),one (c 1),one (c 2),one (c 3)]:List Str)≠[]/\([pc 0,pc 6,pc 4,pc 9,pc 8,pc 5,pc 7,two (c 0) (c j),one (c 1),one (c 2),one (c 3)]:List Str).length=11:=⟨List.cons_ne_nil _ _,rfl⟩
  generalize ([pc 0,pc 6,pc 4,pc 9,pc 8,pc 5,pc 7,two (c 0) (c j),one (c 1),one (c 2),one (c 3)]:List Str)=ks0 at p7 nU y8;clear P P4 p6 atP hqa hqz ok inj;generalize htp:rowS c j t++([pc 4,pc 5]++[pc 6,pc 7,pc 8,pc 9])=tp at nU;refine eK (fun O H'=>∃ (ts:List Addr) (ks:List Str),O=[some (.int n),some (.int fl),some (.ref D),some (.str (two (c 0) (c j))),some (.int m),u5,u6,some (.ref s5),some (.int (t:Int)),some (.ref r),some (.ref k)]/\RulesAt H H' r ts (x6 (rowS c j t) [pc 4,pc 5] (one (c 0)) (pc 6) (pc 7) (pc 8) qz (pc 9)++U9 "figures" w)/\ts.length<=6/\H' k=some (.lst (ks.map V.str))/\ks≠[]/\ks.length<=15/\∀ p∈ks,vZ w false tp p) ?_ ?_
  .walk_at "rd";refine iteD (fun e=>?_) fun e=>?_
   .rw [decide_eq_true e] at hw;subst hw;refine ⟨N7 RD.rows.top,by decide,fun p1 G4=>appOk (C9 RD.rows.top G4) (by rw [A4,nC];decide) ?_⟩;have RE:RulesAt H (A0 (A0 H16 p1 (HO.tup [V.str (Str.ofString "figures")])) r (.lst (ts.map V.ref++[V.ref p1]))) r (ts++[p1]) _:=RD.grow (Same.new G4) G4 (z:=(("figures" : Str),[])) A2;have P9:A0 (A0 H16 p1 (HO.tup [V.str (Str.ofString "figures")])) r (.lst (ts.map V.ref++[V.ref p1])) k=some (.lst (ks0.map V.str)):=by rw [A3 nkr];exact C9 p7 G4
    generalize A0 (A0 H16 p1 (HO.tup [V.str (Str.ofString "figures")])) r (.lst (ts.map V.ref++[V.ref p1]))=sN at RE P9;refine ⟨N7 P9,by decide,fun p2 fV=>⟨k,p2,_,_,rfl,rfl,C9 P9 fV,A2,by rw [A4,y8.2];exact (by decide:11+4<=sizeLine),_,afg (RE.more (Same.new fV)) (C9 P9 fV) nkr nkH,by rw [C8,R3];lia,ks0++[Str.ofString "7",Str.ofString "12",Str.ofString "007",Str.ofString "0"],by rw [A2,D6];rfl,fun e=>y8.1 (List.append_eq_nil_iff.mp e).1,by rw [C8,y8.2];exact (by decide:11+4<=15),fun p hp=>?_⟩⟩
    rcases D4.mp hp with hp | hp
    .exact .inl (nU p hp)
    .exact .inr (.inl ⟨rfl,amj p hp⟩)
   .rw [decide_eq_false e] at hw;subst hw;exact ⟨ts,by unfold U9;rw [if_neg (by decide),N3];exact RD,by lia,ks0,p7,y8.1,by lia,fun p hp=>.inl (nU p hp)⟩
  clear nU y8 p7 RD nC;rintro O sN ⟨dQ,gE,rfl,RE,mQ,P9,dM,U0,nV⟩;refine eK (fun O H'=>∃ (b2:Bool) (ts:List Addr) (ks:List Str),O=[some (.int n),some (.int fl),some (.ref D),some (.str (two (c 0) (c j))),some (.int m),u5,u6,some (.ref s5),some (.int (t:Int)),some (.ref r),some (.ref k)]/\RulesAt H H' r ts (x6 (rowS c j t) [pc 4,pc 5] (one (c 0)) (pc 6) (pc 7) (pc 8) qz (pc 9)++U9 "figures" w++U9 "blanks" b2)/\ts.length<=7/\H' k=some (.lst (ks.map V.str))/\ks≠[]/\ks.length<=16/\∀ p∈ks,vZ w b2 tp p) ?_ ?_
  .walk_at "rd";refine iteD (fun e=>?_) fun e=>?_
   .refine ⟨N7 RE.rows.top,by decide,fun p1 G4=>appOk (C9 RE.rows.top G4) (by rw [A4];exact G5 (by lia)) ?_⟩;have RF:RulesAt H (A0 (A0 sN p1 (HO.tup [V.str (Str.ofString "blanks")])) r (.lst (dQ.map V.ref++[V.ref p1]))) r (dQ++[p1]) _:=RE.grow (Same.new G4) G4 (z:=(("blanks" : Str),[])) A2;have bM:A0 (A0 sN p1 (HO.tup [V.str (Str.ofString "blanks")])) r (.lst (dQ.map V.ref++[V.ref p1])) k=some (.lst (gE.map V.str)):=by rw [A3 nkr];exact C9 P9 G4
    generalize A0 (A0 sN p1 (HO.tup [V.str (Str.ofString "blanks")])) r (.lst (dQ.map V.ref++[V.ref p1]))=H18 at RF bM;refine ⟨N7 bM,appOk bM (by rw [A4];exact G5 (by lia)) ⟨true,_,afg RF bM nkr nkH,by rw [C8,R3];lia,gE++[Str.ofString " "],by rw [A2,D6];rfl,fun e=>dM (List.append_eq_nil_iff.mp e).1,by rw [C8,R3];lia,fun p hp=>?_⟩⟩
    rcases D4.mp hp with hp | hp
    .exact (nV p hp).imp id fun q=>q.imp id fun ⟨h,_⟩=>by cases h
    .exact .inr (.inr ⟨rfl,(D1.mp hp).trans vN⟩)
   .exact ⟨false,dQ,by rw [show U9 "blanks" false=[] from rfl,N3];exact RE,by lia,gE,P9,dM,by lia,nV⟩
  clear RE P9 dM U0 nV mQ gE dQ;rintro O H18 ⟨b2,dQ,gE,rfl,RE,mQ,P9,dM,U0,nV⟩;refine eK (fun O H'=>∃ (b3:Bool) (ts:List Addr),O=[some (.int n),some (.int fl),some (.ref D),some (.str (two (c 0) (c j))),some (.int m),u5,u6,some (.ref s5),some (.int (t:Int)),some (.ref r),some (.ref k)]/\RulesAt H H' r ts (G3 (rowS c j t) [pc 4,pc 5] (one (c 0)) (pc 6) (pc 7) (pc 8) qz (pc 9) w b2 b3)/\H' k=some (.lst (gE.map V.str))) ?_ ?_
  .walk_at "rd";refine iteD (fun e=>?_) fun e=>?_
   .refine ⟨N7 RE.rows.top,by decide,fun p1 G4=>appOk (C9 RE.rows.top G4) (by rw [A4];exact G5 (by lia)) ?_⟩;exact ⟨⟨true,_,RE.grow (Same.new G4) G4 (z:=(("behind" : Str),[])) A2⟩,by rw [A3 nkr];exact C9 P9 G4⟩
   .exact ⟨⟨false,dQ,by unfold G3;rw [show U9 "behind" false=[] from rfl,N3];exact RE⟩,P9⟩
  rintro O H19 ⟨b3,ts2,rfl,RF,hk19⟩;walk_at "rd";refine ⟨by decide,fun l nl=>?_⟩;have S20:Same H19 (A0 H19 l (HO.tup [V.ref r,V.ref k])):=Same.new nl;exact q l r k ts2 _ _ gE _ _ _ _ _ _ w b2 b3 _ (RF.same.trans S20) (RF.new r L5) nkH A2 (RF.rows.same S20) sh (S20 _ _ hk19) (sh.pks dM U0 (by rw [htp];exact nV))
theorem adJ:FnScope ["self", "order"] ["self", "order"] (C3 cR):=G2
abbrev acK:List Str:=["self", "order"]
theorem vdm:VS acK cR "self" 0:=vq
theorem vdn:VS acK cR "order" 1:=vq
theorem adK(F:FunD K "__init__" "Shelf.__init__" cR f fd)(T:Txt P w K mg C C_Shelf):FnOk P w K mg base D9 1 f fd ["self", "order"] (wC C_Shelf):=by
 refine F.ok adJ ?_ ?_
 .rintro _ _ _ _ ⟨s,ds,o,rfl,_⟩;rfl
 .intro cdv A outer s H vs Q E hr h;have C5:=hu_of hr;have hu:=hr.units;refine ⟨_,QSs.out (A6 (cF (K:=K) (vi vdm) (vi vdn))
   (A7 (cF (K:=K) (vi vdm) cE))),?_⟩
  obtain ⟨s1,ds,o,rfl,hs,q⟩:=h;walk_at "rd";refine ⟨C_Shelf,ds,[],hs,T.cl_Shelf,T.na_order,by decide,fun d nd=>?_⟩;have nds:s1≠d:=fun e=>by rw [<- e,A2] at nd;cases nd
  have Y6:(putF ("order" : Str) (V.ref o) ([]:List (Str×V))).length<1000:=(by decide:1<1000)
  have fU:H d=none:=by rw [A3 nds.symm] at nd;exact nd
  refine ⟨C_Shelf,ds,_,by rw [A3 nds,A2],T.cl_Shelf,T.na_kept,Y6,q d _ fU (fun b o' hb e=>?_) (by rw [A2];rfl) (by rw [A3 nds.symm,A2])⟩;rw [A3 hb,A3 (fun e2=>by rw [e2,fU] at e;cases e),A3 hb];exact e
theorem sc_Shelf_put:FnScope ["self", "text", "numbers"] ["self", "text"] (C3 x3):=G2
abbrev xJ:List Str:=["self", "text", "numbers"]
theorem xK:VS xJ x3 "self" 0:=vq
theorem xL:VS xJ x3 "text" 1:=vq
theorem vdq:VS xJ x3 "numbers" 2:=vq
theorem vdr:LS x3 "numbers":=lq
theorem agV(F:FunD K "put" "Shelf.put" x3 f fd)(T:Txt P w K mg C C_Shelf)(G_key:FO P w K mg base 7 "key" ["order", "text", "strength"] [.int 4] (spKey C)):FnOk P w K mg base D9 8 f fd ["self", "text"] (spPut C C_Shelf):=by
 refine F.ok sc_Shelf_put ?_ ?_
 .rintro _ _ _ _ ⟨s,ds,o,d,z,R,L,M,ks,ad,rfl,_⟩;rfl
 .intro cdv A outer s H vs Q E hr h;have C5:=hu_of hr;have hu:=hr.units;refine ⟨_,QSs.out (A6 (D3 (n:=2) sc_Shelf_put.nd rfl vdr (E8 G_key (hm hr) (qa_c (T5 (K:=K) (vi xK)) (qa_c (vi xL) A1))))
   (A6 (qs_if (J5 (q_in (K:=K) hu) (vi xL) (T5 (K:=K) (vi xK))) (A7 iI) K8)
   (A7 (l8 C5 (T5 (K:=K) (vi xK)) (vi xL) (vi vdq))))),?_⟩
  obtain ⟨s1,ds,o,d,z,R,L,M,ks,ad,rfl,sh,hO,hz,hn,hl,q⟩:=h;walk_at "rd";refine ⟨C_Shelf,ds,_,sh.ob,T.cl_Shelf,T.na_order,V.ref o,wB _ _,?_⟩;refine hO.key hz fun p H1 np S1 hp=>?_
  have N5:=sh.same S1;refine ⟨C_Shelf,ds,_,N5.ob,T.cl_Shelf,T.na_kept,V.ref d,cX _ _,?_⟩;walk_at "rd";refine rInR.d (W4 (k:=Sum.inr z) N5.kp) ⟨_,rfl,?_⟩;rw [N8,if_neg hn,Option.isSome_none,aF];refine iteF ⟨C_Shelf,ds,_,N5.ob,T.cl_Shelf,T.na_kept,V.ref d,cX _ _,d,rfl,_,v4 (k:=Sum.inr z) N5.kp (by rw [Q7];exact G5 (by lia)),?_⟩;rw [amO hn];refine q p _ np (fun b o' hb e=>by rw [A3 hb];exact S1 _ _ e) (N5.put (iF sh.nd hn) fun y hy=>?_)
  by_cases e:y=z
  .rw [if_pos e,e];exact hp
  .rw [if_neg e]
   rcases D4.mp hy with h | h
   .exact N5.kl y h
   .exact absurd (D1.mp h) e
theorem af0:FnScope ["self", "text"] ["self", "text"] (C3 cS):=G2
abbrev adT:List Str:=["self", "text"]
theorem xM:VS adT cS "self" 0:=vq
theorem xN:VS adT cS "text" 1:=vq
theorem af1(F:FunD K "drop" "Shelf.drop" cS f fd)(T:Txt P w K mg C C_Shelf)(G_parts_of:FO P w K mg base 5 "parts_of" ["order", "text"] [] (vH C)):FnOk P w K mg base D9 6 f fd ["self", "text"] (wD C C_Shelf):=by
 refine F.ok af0 ?_ ?_
 .rintro _ _ _ _ ⟨s,ds,o,d,z,R,L,M,ks,ad,rfl,_⟩;rfl
 .intro cdv A outer s H vs Q E hr h;have C5:=hu_of hr;have hu:=hr.units;refine ⟨_,QSs.out (A6 (L9 (E8 G_parts_of (hm hr) (qa_c (T5 (K:=K) (vi xM)) (qa_c (vi xN) A1))))
   (A6 (qs_if (J5 (pP (K:=K) hu) (vi xN) (T5 (K:=K) (vi xM))) (A7 iI) K8)
   (A7 (L9 (alV (T5 (K:=K) (vi xM)) (vi xN)))))),?_⟩
  obtain ⟨s1,ds,o,d,z,R,L,M,ks,ad,rfl,sh,hO,hz,hn,hl,q⟩:=h;obtain ⟨j,ll,ml,md,g,oo⟩:=hO.ord;walk_at "rd";refine ⟨C_Shelf,ds,_,sh.ob,T.cl_Shelf,T.na_order,V.ref o,wB _ _,o,j,ll,ml,md,z,g,R,L,M,rfl,oo,hO.kn,by have:=hz.1;lia,hz.2,fun l H1 nl S1 Y6=>?_⟩;have N5:=sh.same S1;refine ⟨C_Shelf,ds,_,N5.ob,T.cl_Shelf,T.na_kept,V.ref d,cX _ _,?_⟩;walk_at "rd";refine rInR.d (W4 (k:=Sum.inr z) N5.kp) ⟨_,rfl,?_⟩;rw [N8,if_pos hn,show (true ^^ (some (V.ref (ad z))).isSome)=false from rfl];refine iteF ⟨C_Shelf,ds,_,N5.ob,T.cl_Shelf,T.na_kept,V.ref d,cX _ _,d,rfl,.inl ⟨_,.of N5.kp⟩,_,N5.kp,⟨_,by rw [N8,if_pos hn]⟩,?_⟩;rw [amk _ _ sh.nd];exact q _ (fun b o' hb e=>by rw [A3 hb];exact S1 _ _ e) (N5.put (sh.nd.erase z) fun y hy=>N5.kl y (List.mem_of_mem_erase hy))
theorem aeS:FnScope ["self"] ["self"] (C3 cT):=G2
abbrev af2:List Str:=["self"]
theorem vdu:VS af2 cT "self" 0:=vq
theorem aeT(F:FunDL K "texts" "Shelf.texts" cT f fd cl_Shelf_texts)(BT:BaseT mg base tabs)(hm_Shelf_texts:(cl_Shelf_texts,pt_Shelf_texts)∈tabs)(T:Txt P w K mg C C_Shelf):FnOk P w K mg base D9 4 f fd ["self"] (qT C_Shelf pt_Shelf_texts ⟨307,37,307,65⟩ "Shelf.texts.<locals>.<lambda>"):=by
 refine F.ok aeS ?_ ?_
 .rintro _ _ _ _ ⟨s,ds,o,d,ks,κ,ad,rfl,_⟩;rfl
 .intro A outer s H vs Q E hr h;have C5:=hu_of hr;have hu:=hr.units;refine ⟨_,QSs.out (A7 (D8 (amg T.b_sorted hr (BT.lam hm_Shelf_texts rfl) (qa_c (T5 (K:=K) (vi vdu)) A1) (T9:CompOk ["self"] (C3 cT).names _ ["text", "self"] 1 [0]) (fun _ _ _ _=>(X1 (hu_of (hr.lam _)) (T5 (K:=K) (qv 1)) (qv 0)))))),?_⟩;obtain ⟨s1,ds,o,d,ks,κ,ad,rfl,sh,hl,hT,q⟩:=h;walk_at "rd";refine ⟨C_Shelf,ds,_,sh.ob,T.cl_Shelf,T.na_kept,V.ref d,cX _ _,ks.map V.str,⟨d,rfl,.inr ⟨rfl,_,.of sh.kp,(ah1 _ _).symm⟩⟩,by rw [A4];exact hl,hT,fun c H2 S2 hT2=>akv (ixs:=[0]) (O:=[some (.ref s1)]) (te:=fun τ H3 Z=>∃ v,τ[1]?.join=some v/\∃ a,v=V.ref a/\∃ C' d' f',H3 a=some (HO.ins C' d' f')/\Cls K C'/\NoAttr K C' (Str.ofString "kept")/\∃ x4,aE (Str.ofString "kept") f'=some x4/\∃ v,τ[0]?.join=some v/\∃ a,x4=V.ref a/\∃ x,DGet H3 a v (some x)/\Z x H3) [some (.ref s1)] rfl (fun v=>match v with | .str z=>κ z | _=>[]) hT2.2 ?_ ?_⟩
  .rintro H3 x Z hx S3 hZ;obtain ⟨z,hz,rfl⟩:=E5.mp hx;have sh3:=(sh.keep S2 hT).same S3;have hg:=W4 (k:=Sum.inr z) sh3.kp;rw [N8,if_pos hz] at hg;exact ⟨_,rfl,s1,rfl,C_Shelf,ds,_,sh3.ob,T.cl_Shelf,T.na_kept,V.ref d,cX _ _,_,rfl,d,rfl,V.ref (ad z),hg,hZ _ H3 (Same.refl _) (sh3.kl z hz)⟩
  .intro D H3 p S3 nD hp;have e0:(ks.map V.str).map (fun v=>match v with | .str z=>κ z | _=>[])=ks.map κ:=by rw [g9];rfl
   rw [e0] at hp;have hz:(p.map fun i=>(ks.map V.str).getD i .non)=(p.map fun i=>ks.getD i (Str.ofString "")).map V.str:=by
    rw [g9];refine gJ fun i hi=>?_
    have f7:=s0.mp (hp.pm.mem_iff.mp hi);rw [A4] at f7;show (ks.map V.str).getD i .non=V.str (ks.getD i (Str.ofString ""));rw [V1,V1,O1,G0 f7];rfl
   rw [hz];have nD0:H D=none:=by
    cases e:H D with
    | none=>rfl
    | some o'=>
     by_cases hD:D=pt_Shelf_texts
     .rw [hD,S3 _ _ hT2.1] at nD;cases nD
     .rw [S3 _ _ (S2 _ _ hD e)] at nD;cases nD
   exact q D _ _ nD0 ((S2.trans (.of S3)).trans (.of (Same.new nD))) (hT2.ok.same (S3.trans (Same.new nD))) A2 (hp.perm (by rw [A4])) hp.pw
theorem sc_Shelf_stretch:FnScope ["self", "numbers", "before", "those"] ["self", "numbers"] (C3 e8):=G2
abbrev xO:List Str:=["self", "numbers", "before", "those"]
theorem vdv:VS xO e8 "self" 0:=vq
theorem vdw:VS xO e8 "before" 2:=vq
theorem vdx:VS xO e8 "those" 3:=vq
theorem vdy:LS e8 "before":=lq
theorem vdz:LS e8 "those":=lq
theorem adX(F:FunD K "stretch" "Shelf.stretch" e8 f fd)(T:Txt P w K mg C C_Shelf):FnOk P w K mg base D9 1 f fd ["self", "numbers"] (wE C_Shelf):=by
 refine F.ok sc_Shelf_stretch ?_ ?_
 .rintro _ _ _ _ ⟨s,ds,o,d,a,ks,κ,ad,ns,rfl,_⟩;rfl
 .intro cdv A outer s H vs Q E hr h;have C5:=hu_of hr;have hu:=hr.units;refine ⟨_,QSs.out (A6 (D3 (n:=2) sc_Shelf_stretch.nd rfl vdy (qe_cB (q_len (K:=K)) T.b_len Q6 (qa_c (aid  (T9:CompOk ["self", "numbers", "before", "those"] (C3 e8).names _ ["held", "numbers"] 1 [1]) (aky (K:=K) (qe_m0 (K:=K) gT PySem.F.slot_dict_values PySem.F.type_dict_values aih (T5 (K:=K) (vi vdv)))) (fun _ _ _ _ _=>D5 (n:=0) (show List.Nodup (["held", "numbers"]:List Str) by decide +kernel) rfl (Or.inl rfl)) (fun _ _ _ _ _=>(eJ (J5 (q_ltK hu (K:=K)) (qv 0) (qv 1)))) (fun _ _ _ _ _=>(qv 0))) A1)))
   (A6 (D3 (n:=3) sc_Shelf_stretch.nd rfl vdz (qe_cB (q_len (K:=K)) T.b_len Q6 (qa_c (aid  (T9:CompOk ["self", "numbers", "before", "those"] (C3 e8).names _ ["held", "numbers"] 1 [1]) (aky (K:=K) (qe_m0 (K:=K) gT PySem.F.slot_dict_values PySem.F.type_dict_values aih (T5 (K:=K) (vi vdv)))) (fun _ _ _ _ _=>D5 (n:=0) (show List.Nodup (["held", "numbers"]:List Str) by decide +kernel) rfl (Or.inl rfl)) (fun _ _ _ _ _=>(eJ (J5 (q_eq (K:=K) hu) (T4 (K:=K) (qv 0) Z9 (O6 (qe_cB (q_len (K:=K)) T.b_len Q6 (qa_c (qv 1) A1)))) (qv 1)))) (fun _ _ _ _ _=>(qv 0))) A1)))
   (A7 (D8 (O5 (qa_c (vi vdw) (qa_c (qe_op (q_add (K:=K)) (vi vdw) (vi vdx)) A1))))))),?_⟩
  obtain ⟨s1,ds,o,d,a,ks,κ,ad,ns,rfl,sh,ha,hl,q⟩:=h;have nda:a≠d:=fun e=>by rw [e,sh.kp] at ha;cases ha
  walk_at "rd";refine ⟨d,_,sh.kp,C_Shelf,ds,_,sh.ob,T.cl_Shelf,T.na_kept,V.ref d,cX _ _,.inr (.inr (.inl ⟨rfl,.inl ⟨_,sh.kp⟩⟩)),?_⟩;walk_at "rd";refine ⟨⟨_,sh.kp⟩,fun p np=>⟨_,A2,_,C9 sh.kp np,fun o'=>?_⟩⟩;have S1:Same H (A0 H p (.ext (vwIs p d))):=Same.new np;have N5:=sh.same S1;generalize A0 H p (.ext (vwIs p d))=H1 at S1 N5;have fz:∀ {b:Addr} {u:HO},H1 b=some u->b≠d->A0 H1 d (.frz o' (.dK (A8 ks fun z=>.ref (ad z)))) b=some u:=fun h n=>by rw [A3 n];exact h
  have fd:A0 H1 d (.frz o' (.dK (A8 ks fun z=>.ref (ad z)))) d=some (.frz o' (.dK (A8 ks fun z=>.ref (ad z)))):=A2;have ndk:∀ z∈ks,ad z≠d:=fun z hz e=>by have:=N5.kl z hz;rw [e,N5.kp] at this;cases this
  refine amL [some (.ref a)] rfl (fun D i ys H'=>ys=((ks.take i).filter fun z=>decide (κ z<ns)).map (fun z=>V.ref (ad z))/\Same (A0 H1 d (.frz o' (.dK (A8 ks fun z=>.ref (ad z))))) H') (fun D nD=>⟨rfl,Same.new nD⟩) (by rintro D i ys H' _ _ ⟨_,S⟩;exact S _ _ fd) ?_ ?_
  .rintro D i k v ys H' nD hi hk ⟨rfl,S⟩ hD hy;obtain ⟨z,hz,rfl,rfl⟩:=pX hk;have W7:=K4 hz;walk_at "rd";refine .inl ⟨κ z,ns,.of (S _ _ (fz (N5.kl z W7) (ndk z W7))),.of (S _ _ (fz (S1 _ _ ha) nda)),_,rfl,?_⟩;rw [Q7] at hi;refine iteD (fun e=>⟨hD,G5 (by lia),CW.put (by rw [Q7];exact hi) hy ⟨?_,S.put nD⟩⟩) fun e=>⟨hD,pH (by rw [Q7];exact hi) hy ⟨?_,S⟩⟩
   .rw [J7 hz,q0,D6,bQ (by simpa using e)];rfl
   .rw [J7 hz,q0,D6,aA (by simpa using e)];simp
  rintro D ys H' nD ⟨rfl,S⟩ hD hy;rw [Q7,K9] at hD hy;clear hy;have nDd:D≠d:=fun e=>by rw [e,fd] at nD;cases nD
  have S2:Same H (A0 H' d (.dK (A8 ks fun z=>.ref (ad z)))):=S1.trans fun b u e=>by
   by_cases hb:b=d
   .rw [hb,A2,<- N5.kp,<- hb];exact e
   .rw [A3 hb];exact S _ _ (fz e hb)
  have hD2:A0 H' d (.dK (A8 ks fun z=>.ref (ad z))) D=some (.lst ((ks.filter fun z=>decide (κ z<ns)).map fun z=>V.ref (ad z))):=by rw [A3 nDd];exact hD
  refine ⟨⟨o',S _ _ fd⟩,?_⟩;generalize A0 H' d (.dK (A8 ks fun z=>.ref (ad z)))=H2 at S2 hD2;clear S fz fd nD S1 N5 hD nDd np;have kF:=sh.same S2;have ha2:=S2 _ _ ha;walk_at "rd";refine ⟨(ks.filter fun z=>decide (κ z<ns)).length,.inl ⟨_,.of hD2,by rw [A4]⟩,d,_,kF.kp,C_Shelf,ds,_,kF.ob,T.cl_Shelf,T.na_kept,V.ref d,cX _ _,.inr (.inr (.inl ⟨rfl,.inl ⟨_,kF.kp⟩⟩)),?_⟩;walk_at "rd";refine ⟨⟨_,kF.kp⟩,fun p np=>⟨_,A2,_,C9 kF.kp np,fun o'=>?_⟩⟩;have S1:Same H2 (A0 H2 p (.ext (vwIs p d))):=Same.new np;have N5:=kF.same S1;generalize A0 H2 p (.ext (vwIs p d))=H1 at S1 N5;have fz:∀ {b:Addr} {u:HO},H1 b=some u->b≠d->A0 H1 d (.frz o' (.dK (A8 ks fun z=>.ref (ad z)))) b=some u:=fun h n=>by rw [A3 n];exact h
  have fd:A0 H1 d (.frz o' (.dK (A8 ks fun z=>.ref (ad z)))) d=some (.frz o' (.dK (A8 ks fun z=>.ref (ad z)))):=A2;refine amL [some (.ref a)] rfl (fun D i ys H'=>ys=((ks.take i).filter fun z=>decide ((κ z).take ns.length=ns)).map (fun z=>V.ref (ad z))/\Same (A0 H1 d (.frz o' (.dK (A8 ks fun z=>.ref (ad z))))) H') (fun D nD=>⟨rfl,Same.new nD⟩) (by rintro D i ys H' _ _ ⟨_,S⟩;exact S _ _ fd) ?_ ?_
  .rintro D i k v ys H' nD hi hk ⟨rfl,S⟩ hD hy;obtain ⟨z,hz,rfl,rfl⟩:=pX hk;have W7:=K4 hz;rw [Q7] at hi;have zA:=S _ _ (fz (N5.kl z W7) (ndk z W7));have ha':=S _ _ (fz (S1 _ _ ha2) nda);walk_at "rd";refine ⟨ns.length,.inl ⟨_,.of ha',by rw [A4]⟩,rSlR.l (.of zA) fun q2 gF=>?_⟩;rw [iK,<- aD];refine ⟨_,.lst (.of A2) eE,_,.lst (.of (C9 ha' gF)) eE,K6 (Nat.min_le_left _ _) (by rw [PyData.depth,pI];decide),?_⟩;rw [k7,pB];have S':=S.trans (Same.new (u:=HO.lst (((κ z).take ns.length).map V.int)) gF);refine iteD (fun e=>⟨C9 hD gF,G5 (by lia),CW.put (by rw [Q7];exact hi) hy ⟨?_,S'.put nD⟩⟩) fun e=>⟨C9 hD gF,pH (by rw [Q7];exact hi) hy ⟨?_,S'⟩⟩
   .rw [J7 hz,q0,D6,bQ (by simpa using e)];rfl
   .rw [J7 hz,q0,D6,aA (by simpa using e)];simp
  rintro D ys H' nD ⟨rfl,S⟩ hD hy;rw [Q7,K9] at hD hy;clear hy;have nDd:D≠d:=fun e=>by rw [e,fd] at nD;cases nD
  have S3:Same H2 (A0 H' d (.dK (A8 ks fun z=>.ref (ad z)))):=S1.trans fun b u e=>by
   by_cases hb:b=d
   .rw [hb,A2,<- N5.kp,<- hb];exact e
   .rw [A3 hb];exact S _ _ (fz e hb)
  have hD3:A0 H' d (.dK (A8 ks fun z=>.ref (ad z))) D=some (.lst ((ks.filter fun z=>decide ((κ z).take ns.length=ns)).map fun z=>V.ref (ad z))):=by rw [A3 nDd];exact hD
  refine ⟨⟨o',S _ _ fd⟩,?_⟩;generalize A0 H' d (.dK (A8 ks fun z=>.ref (ad z)))=H3 at S3 hD3;walk_at "rd";refine ⟨(ks.filter fun z=>decide ((κ z).take ns.length=ns)).length,.inl ⟨_,.of hD3,by rw [A4]⟩,by decide,fun t nt=>?_⟩;exact q t _ _ _ rfl rfl (S2.trans (S3.trans (Same.new nt))) A2
theorem aeC:FnScope ["self", "text"] ["self", "text"] (C3 cU):=G2
abbrev adb:List Str:=["self", "text"]
theorem vdA:VS adb cU "self" 0:=vq
theorem vdB:VS adb cU "text" 1:=vq
theorem aeD(F:FunD K "begins" "Shelf.begins" cU f fd)(T:Txt P w K mg C C_Shelf)(G_letters_of:FO P w K mg base 7 "letters_of" ["order", "text"] [] (qK C))(G_Shelf_stretch:MO P w K mg base 1 C_Shelf "stretch" ["self", "numbers"] (wE C_Shelf)):FnOk P w K mg base D9 8 f fd ["self", "text"] (wF C C_Shelf):=by
 refine F.ok aeC ?_ ?_
 .rintro _ _ _ _ ⟨s,ds,o,d,z,R,L,M,ks,ad,rfl,_⟩;rfl
 .intro cdv A outer s H vs Q E hr h;have C5:=hu_of hr;have hu:=hr.units;refine ⟨_,QSs.out (A7 (D8 (lF (vi vdA) G_Shelf_stretch (hm hr) (qa_c (E8 G_letters_of (hm hr) (qa_c (T5 (K:=K) (vi vdA)) (qa_c (vi vdB) A1))) A1)))),?_⟩;obtain ⟨s1,ds,o,d,z,R,L,M,ks,ad,rfl,sh,hO,hz,hl,q⟩:=h;walk_at "rd";refine ⟨ds,_,sh.ob,jB _ _ (by decide +kernel) (by decide +kernel),C_Shelf,ds,_,sh.ob,T.cl_Shelf,T.na_order,V.ref o,wB _ _,hO.lets hz fun l H1 nl S1 Y6=>?_⟩;exact ⟨s1,ds,o,d,l,ks,_,ad,_,rfl,sh.same S1,Y6,hl,fun t H' b c hb hc S2 ht=>q t H' b c hb hc (S1.trans S2) ht⟩
theorem sc_l_held:FnScope ["_law_letters", "_law_shelf", "_law_text_here", "_law_got", "_law_number_here", "_law_texts", "_law_mine", "_law_k", "_law_here"] ["_law_letters", "_law_shelf", "_law_text_here"] (C3 U7):=G2
abbrev aV:List Str:=["_law_letters", "_law_shelf", "_law_text_here", "_law_got", "_law_number_here", "_law_texts", "_law_mine", "_law_k", "_law_here"]
theorem vdC:VS aV U7 "_law_letters" 0:=vq
theorem vdD:VS aV U7 "_law_shelf" 1:=vq
theorem vdE:VS aV U7 "_law_text_here" 2:=vq
theorem cY:VS aV U7 "_law_got" 3:=vq
theorem vdG:VS aV U7 "_law_number_here" 4:=vq
theorem xP:VS aV U7 "_law_texts" 5:=vq
theorem xQ:VS aV U7 "_law_mine" 6:=vq
theorem xR:VS aV U7 "_law_k" 7:=vq
theorem vdK:VS aV U7 "_law_here" 8:=vq
theorem vdL:LS U7 "_law_got":=lq
theorem vdM:LS U7 "_law_number_here":=lq
theorem vdN:LS U7 "_law_texts":=lq
theorem vdO:LS U7 "_law_mine":=lq
theorem vdP:LS U7 "_law_k":=lq
theorem vdQ:LS U7 "_law_here":=lq
theorem akO(F:FunD K "_law_held" "_law_held" U7 f fd)(T:Txt P w K mg C C_Shelf)(G_Shelf_texts:MO P w K mg base 4 C_Shelf "texts" ["self"] (qT C_Shelf pt_Shelf_texts ⟨307,37,307,65⟩ "Shelf.texts.<locals>.<lambda>"))(G_Shelf_begins:MO P w K mg base 8 C_Shelf "begins" ["self", "text"] (wF C C_Shelf)):FnOk P w K mg base D9 9 f fd ["_law_letters", "_law_shelf", "_law_text_here"] (ail C C_Shelf pt_Shelf_texts ⟨307,37,307,65⟩ "Shelf.texts.<locals>.<lambda>"):=by
 refine F.ok sc_l_held ?_ ?_
 .rintro _ _ _ _ ⟨D,s1,ds,o,d,z,R,L,M,ks,ps,ad,ld,rfl,_⟩;rfl
 .intro cdv A outer s H vs Q E hr h;have C5:=hu_of hr;have hu:=hr.units;refine ⟨_,QSs.out (A6 (D3 (n:=3) sc_l_held.nd rfl vdL (lF (vi vdD) G_Shelf_begins (hm hr) (qa_c (vi vdE) A1)))
   (A6 (qs_if (QW.pt (qw_or (aN (R4 (K:=K) (qe_cB q_isi T.b_isinstance iH (qa_c (vi cY) (qa_c (qe_ty T.b_tuple pE) A1))))) (pN (J5 (q_ne (K:=K) hu) (qe_cB (q_len (K:=K)) T.b_len Q6 (qa_c (vi cY) A1)) A5)))) (A7 (D8 qe_bl)) K8)
   (A6 (N2 PassesOwn.never (cI (K:=K) (vi cY)) (D5 (n:=4) sc_l_held.nd rfl vdM (.inl rfl)) (A7 (qs_if (QW.pt (qw_or (aN (R4 (K:=K) (qe_cB q_isi T.b_isinstance iH (qa_c (vi vdG) (qa_c (qe_ty T.b_int pG) A1))))) (pN (R4 (K:=K) (qe_cB q_isi T.b_isinstance iH (qa_c (vi vdG) (qa_c (qe_ty T.b_bool ajG) A1))))))) (A7 (D8 qe_bl)) K8)))
   (A6 (D3 (n:=5) sc_l_held.nd rfl vdN (uP (vi vdD) G_Shelf_texts (hm hr)))
   (A6 (qs_if (aN (akA q_le q_le q_le A5 (qe_ix (K:=K) (vi cY) A5) (qe_ix (K:=K) (vi cY) A5) (qe_cB (q_len (K:=K)) T.b_len Q6 (qa_c (vi xP) A1)))) (A7 (D8 qe_bl)) K8)
   (A6 (D3 (n:=6) sc_l_held.nd rfl vdO (X1 C5 (vi vdC) (vi vdE)))
   (A6 (N2 PassesOwn.never (qi_r1 T.b_range (qa_c (qe_cB (q_len (K:=K)) T.b_len Q6 (qa_c (vi xP) A1)) A1)) (D5 (n:=7) sc_l_held.nd rfl vdP (.inl rfl)) (A6 (D3 (n:=8) sc_l_held.nd rfl vdQ (X1 C5 (vi vdC) (qe_ix (K:=K) (vi xP) (vi xR))))
   (A6 (qs_if (J5 (q_ne (K:=K) hu) (eI (q_eq (K:=K) hu) (T4 (K:=K) (vi vdK) Z9 (O6 (qe_cB (q_len (K:=K)) T.b_len Q6 (qa_c (vi xQ) A1)))) (vi xQ)) (ahS q_le q_lt (qe_ix (K:=K) (vi cY) A5) (vi xR) (qe_ix (K:=K) (vi cY) A5))) (A7 (D8 qe_bl)) K8)
   (A7 (qs_if (J5 (q_ne (K:=K) hu) (eI (q_ltK hu (K:=K)) (vi vdK) (vi xQ)) (eI q_lt (vi xR) (qe_ix (K:=K) (vi cY) A5))) (A7 (D8 qe_bl)) K8)))))
   (A7 (D8 qe_bl))))))))),?_⟩
  obtain ⟨D,s1,ds,o,d,z,R,L,M,ks,ps,ad,ld,rfl,sh,hO,hz,hD,yM,hzp,hkp,hl,hT,q⟩:=h;walk_at "rd";refine ⟨ds,_,sh.ob,jB _ _ (by decide +kernel) (by decide +kernel),s1,ds,o,d,z,R,L,M,ks,ad,rfl,sh,hO,hz,by lia,fun t H1 b c hb hc S1 ht=>?_⟩;refine ⟨"tuple",anW ht,rfl,?_⟩;rw [if_neg (by decide)];walk_at "rd";refine ⟨2,.inr (.inl ⟨_,.of ht,rfl⟩),?_⟩;have N5:=sh.same S1;have hT1:=hT.same S1;have hD1:=S1 _ _ hD;have hld1:∀ y∈ps,H1 (ld y)=some (.lst ((LetOf R L M y).map V.int)):=fun y hy=>S1 _ _ (yM y hy)
  rw [if_neg (by decide)];refine ⟨⟨_,.of ht⟩,forT (xs:=[V.int b,V.int ((b:Int)+c)]) (fun i O H'=>H'=H1/\∃ u4:Option V,O=[some (.ref D),some (.ref s1),some (.str z),some (.ref t),u4,none,none,none,none]) ⟨rfl,none,rfl⟩ (fun i O H' _ ⟨e,_⟩=>by rw [e];exact .of ht) ?_ ?_⟩
  .rintro i x O H' hx ⟨rfl,u,rfl⟩;obtain ⟨n,hn,rfl⟩:∃ n:Int,True/\x=V.int n:=by
    have:=K4 hx
    simp only [E4,Z6,or_false] at this
    rcases this with h | h
    .exact ⟨_,trivial,h⟩
    .exact ⟨_,trivial,h⟩
   walk_at "rd";refine ⟨"int",rfl,rfl,?_⟩;rw [if_neg (by decide)];refine ⟨"int",rfl,rfl,?_⟩;rw [if_neg (by decide)]
   trivial
  rintro O H' ⟨rfl,u4,rfl⟩;walk_at "rd";refine ⟨ds,_,N5.ob,jB _ _ (by decide +kernel) (by decide +kernel),s1,ds,o,d,ks,_,ad,rfl,N5,hl,hT1,fun l H2 zs nl S2 hT2 X4 pm pw=>?_⟩;have kp:∀ {a:Addr} {v:HO},H' a=some v->(∀ p,v≠.tbl p)->H2 a=some v:=fun h n=>keepP S2 hT1 h n
  have nW:=kp ht (by intro p e;cases e);have hD2:=kp hD1 (by intro p e;cases e);have bN:∀ y∈ps,H2 (ld y)=some (.lst ((LetOf R L M y).map V.int)):=fun y hy=>kp (hld1 y hy) (by intro p e;cases e)
  have R1:zs.length=ks.length:=pm.length_eq;have hbc:b+c<=zs.length:=by
   rw [R1,hb,hc,<- wI (fun x h1 h2=>qV (of_decide_eq_true h2) (of_decide_eq_true h1))];exact oH _ _
  have hg:∀ {y:Str},y∈ps->∀ {H3:Hp},Same H2 H3->DGet H3 D (V.str y) (some (V.ref (ld y))):=fun {y} hy {H3} S=>by
   have:=W4 (k:=Sum.inr y) (S _ _ hD2)
   rw [N8,if_pos hy] at this;exact this
  walk_at "rd";refine ⟨_,.inr (.of nW),V.int b,V4 _ _,?_⟩;walk_at "rd";refine iteD (fun _=>⟨_,.inr (.of nW),V.int ((b:Int)+c),G7 (j:=1) rfl,?_⟩) fun e=>absurd (by lia) e
  walk_at "rd";refine iteD (fun _=>⟨zs.length,.inl ⟨_,.of X4,by rw [A4]⟩,?_⟩) fun e=>absurd (by lia) e
  rw [decide_eq_true (show (b:Int)+c<=(zs.length:Int) by lia),if_neg (by decide)];refine ⟨_,hg hzp (Same.refl _),zs.length,.inl ⟨_,.of X4,by rw [A4]⟩,by lia,by lia,?_⟩;refine forR (fun i O H'=>∃ (u7 u8:Option V),O=[some (.ref D),some (.ref s1),some (.str z),some (.ref t),u4,some (.ref l),some (.ref (ld z)),u7,u8]/\Same H2 H') ⟨none,none,rfl,Same.refl _⟩ ?_ ?_
  .rintro i O H3 hi ⟨u7,u8,rfl,S3⟩;have hi:i<zs.length:=by lia
   obtain ⟨y,hy⟩:∃ y,zs[i]?=some y:=⟨_,G0 hi⟩
   have hyp:y∈ps:=hkp y (pm.mem_iff.mp (K4 hy));obtain ⟨m1,m2⟩:=aiW (κ:=KeyOf R L M) (lt:=LetOf R L M) (akL R L M z) (aou R L M) pm pw hy;rw [<- hb] at m1;rw [<- hb,<- hc] at m2;have hy3:=S3 _ _ (bN y hyp);have rY:=S3 _ _ (bN z hzp);walk_at "rd";refine ⟨_,.inl (.of (S3 _ _ X4)),V.str y,?_,_,hg hyp S3,?_⟩
   .rw [Int.zero_add];exact G7 (by rw [O1,hy];rfl)
   walk_at "rd";have tail:∀ {H4:Hp},Same H2 H4->rLtR K (ld y) (ld z) H4 fun x H1=>∃ xs,(C7 K H1 t xs\/C6 K H1 t xs)/\∃ x_2,K7 xs 0=some x_2/\rLtU (V.int (0+(i:Int))) x_2 H1 fun y H2_1=>rNeU K x y H2_1 fun x H'=>∃ k,x=V.bl k/\if k=true then Q (V.bl false) H' else Same H2 H':=fun {H4} S4=>by
    refine .inl ⟨_,_,.of (S4 _ _ (bN y hyp)),.of (S4 _ _ (bN z hzp)),_,.inr (.of (S4 _ _ nW)),V.int b,V4 _ _,?_⟩;walk_at "rd";rw [show decide (LetOf R L M y<LetOf R L M z)=decide (0+(i:Int)<(b:Int)) from decide_eq_decide.mpr ⟨fun h=>by have:=m1.mp h;lia,fun h=>m1.mpr (by lia)⟩,decide_eq_true rfl,if_neg (by decide)];exact S4
   refine ⟨(LetOf R L M z).length,.inl ⟨_,.of rY,by rw [A4]⟩,rSlR.l (.of hy3) fun q2 gF=>?_⟩;rw [iK,<- aD];have S4:=S3.trans (Same.new (u:=HO.lst (((LetOf R L M y).take (LetOf R L M z).length).map V.int)) gF);refine ⟨_,.lst (.of A2) eE,_,.lst (.of (C9 rY gF)) eE,K6 (Nat.min_le_left _ _) (by rw [PyData.depth,pI];decide),_,.inr (.of (S4 _ _ nW)),V.int b,V4 _ _,?_⟩;rw [k7,pB];walk_at "rd";refine iteD (fun e=>⟨_,.inr (.of (S4 _ _ nW)),V.int ((b:Int)+c),G7 (j:=1) rfl,?_⟩) fun e=>?_
   .walk_at "rd";rw [show decide ((LetOf R L M y).take (LetOf R L M z).length=LetOf R L M z)=decide (0+(i:Int)<(b:Int)+c) from decide_eq_decide.mpr ⟨fun h=>by have:=m2.mp h;lia,fun h=>m2.mpr ⟨by lia,by lia⟩⟩,decide_eq_true rfl,if_neg (by decide)];exact tail S4
   .rw [decide_eq_false (p:=(LetOf R L M y).take (LetOf R L M z).length=LetOf R L M z) (fun h=>e (by have:=m2.mp h;lia)),decide_eq_true rfl,if_neg (by decide)];exact tail S4
  rintro O H3 ⟨u7,u8,rfl,S3⟩;walk_at "rd";exact q _ ((SameP.of S1).trans (S2.trans (.of S3))) (hT2.same S3)
theorem sc_l_numbers:FnScope ["_law_row", "_law_one"] ["_law_row"] (C3 iX):=G2
abbrev aeE:List Str:=["_law_row", "_law_one"]
theorem vdR:VS aeE iX "_law_row" 0:=vq
theorem xS:VS aeE iX "_law_one" 1:=vq
theorem vdT:LS iX "_law_one":=lq
theorem agW(F:FunD K "_law_numbers" "_law_numbers" iX f fd)(T:Txt P w K mg C C_Shelf):FnOk P w K mg base D9 1 f fd ["_law_row"] (aik K):=by
 refine F.ok sc_l_numbers ?_ ?_
 .rintro _ _ _ _ ⟨a,ns,rfl,_⟩;rfl
 .intro cdv A outer s H vs Q E hr h;have C5:=hu_of hr;have hu:=hr.units;refine ⟨_,QSs.out (A6 (qs_if (aN (R4 (K:=K) (qe_cB q_isi T.b_isinstance iH (qa_c (vi vdR) (qa_c (qe_ty T.b_list lA) A1))))) (A7 (D8 qe_bl)) K8)
   (A6 (N2 PassesOwn.never (O7 (K:=K) (vi vdR)) (D5 (n:=1) sc_l_numbers.nd rfl vdT (.inl rfl)) (A7 (qs_if (QW.pt (qw_or (aN (R4 (K:=K) (qe_cB q_isi T.b_isinstance iH (qa_c (vi xS) (qa_c (qe_ty T.b_int pG) A1))))) (qw_or (R4 (K:=K) (qe_cB q_isi T.b_isinstance iH (qa_c (vi xS) (qa_c (qe_ty T.b_bool ajG) A1)))) (pN (J5 q_lt (vi xS) A5))))) (A7 (D8 qe_bl)) K8)))
   (A7 (D8 qe_bl)))),?_⟩
  obtain ⟨a,ns,rfl,ha,hp,q⟩:=h;walk_at "rd";refine ⟨"list",anV ha,rfl,?_⟩;rw [if_neg (by decide)];refine ⟨⟨_,.of ha⟩,forL (xs:=ns.map V.int) (fun i O H'=>H'=H/\∃ u:Option V,O=[some (.ref a),u]) ⟨rfl,none,rfl⟩ (fun i O H' _ ⟨e,_⟩=>by rw [e];exact .of ha) ?_ ?_⟩
  .rintro i x O H' hx ⟨rfl,u,rfl⟩;obtain ⟨n,hn,rfl⟩:=G9 hx
   have:=hp n (K4 hn)
   walk_at "rd";refine ⟨"int",rfl,rfl,?_⟩;rw [if_neg (by decide)];refine ⟨"int",rfl,rfl,?_⟩;rw [if_neg (by decide),if_neg (by rw [decide_eq_true_eq];lia)]
   trivial
  rintro O H' ⟨rfl,u,rfl⟩;walk_at "rd";exact q
theorem sc_l_pool:FnScope ["_law_script", "_law_known", "_law_shape", "_law_parts", "_law_k", "_law_number_here", "_law_row", "_law_j", "_law_pool_here"] ["_law_script", "_law_known"] (C3 U8):=G2
abbrev cZ:List Str:=["_law_script", "_law_known", "_law_shape", "_law_parts", "_law_k", "_law_number_here", "_law_row", "_law_j", "_law_pool_here"]
theorem vdU:VS cZ U8 "_law_script" 0:=vq
theorem vdV:VS cZ U8 "_law_known" 1:=vq
theorem vdW:VS cZ U8 "_law_shape" 2:=vq
theorem rG:VS cZ U8 "_law_parts" 3:=vq
theorem vdY:VS cZ U8 "_law_k" 4:=vq
theorem jH:VS cZ U8 "_law_number_here" 5:=vq
theorem jI:VS cZ U8 "_law_row" 6:=vq
theorem xT:VS cZ U8 "_law_pool_here" 8:=vq
theorem vd2:LS U8 "_law_shape":=lq
theorem vd3:LS U8 "_law_parts":=lq
theorem vd4:LS U8 "_law_k":=lq
theorem xU:LS U8 "_law_number_here":=lq
theorem rH:LS U8 "_law_row":=lq
theorem vd7:LS U8 "_law_j":=lq
theorem vd8:LS U8 "_law_pool_here":=lq
theorem akP(F:FunD K "_law_pool" "_law_pool" U8 f fd)(T:Txt P w K mg C C_Shelf)(G_l_number:FO P w K mg base 1 "_law_number" ["_law_script", "_law_k"] [] (vV K)):FnOk P w K mg base D9 2 f fd ["_law_script", "_law_known"] (aim K):=by
 refine F.ok sc_l_pool ?_ ?_
 .rintro _ _ _ _ ⟨a,k,ns,ks,rfl,_⟩;rfl
 .intro cdv A outer s H vs Q E hr h;have C5:=hu_of hr;have hu:=hr.units;refine ⟨_,QSs.out (A6 (D3 (n:=2) sc_l_pool.nd rfl vd2 (E8 G_l_number (hm hr) (qa_c (vi vdU) (qa_c A5 A1))))
   (A6 (D3 (n:=3) sc_l_pool.nd rfl vd3 (N1 (qa_c (N1 A1) A1)))
   (A6 (N2 PassesOwn.never (qi_r1 T.b_range (qa_c (qe_op (q_add (K:=K)) A5 (qe_op q_mod (vi vdW) A5)) A1)) (D5 (n:=4) sc_l_pool.nd rfl vd4 (.inl rfl)) (A6 (D3 (n:=5) sc_l_pool.nd rfl xU (E8 G_l_number (hm hr) (qa_c (vi vdU) (qa_c (qe_op (q_add (K:=K)) A5 (vi vdY)) A1))))
   (A6 (D3 (n:=6) sc_l_pool.nd rfl rH (qe_ix (K:=K) (vi rG) (qe_op q_mod (vi jH) (qe_cB (q_len (K:=K)) T.b_len Q6 (qa_c (vi rG) A1)))))
   (A6 (D3 (n:=6) sc_l_pool.nd rfl rH (T4 (K:=K) (vi jI) Z9 (O6 (qe_op q_mod (qe_op b8 (vi jH) A5) (qe_op (q_add (K:=K)) (qe_cB (q_len (K:=K)) T.b_len Q6 (qa_c (vi jI) A1)) A5)))))
   (A6 (D3 (n:=5) sc_l_pool.nd rfl xU (qe_op (q_add (K:=K)) (qe_op b8 (vi jH) A5) (qe_op q_mul A5 (vi vdY))))
   (A6 (N2 PassesOwn.never (qi_r1 T.b_range (qa_c (qe_op q_mod (vi jH) A5) A1)) (D5 (n:=7) sc_l_pool.nd rfl vd7 (.inl rfl)) (A6 (D3 (n:=5) sc_l_pool.nd rfl xU (qe_op q_mod (qe_op q_mul (vi jH) A5) A5))
   (A7 (D3 (n:=6) sc_l_pool.nd rfl rH (qe_op (q_add (K:=K)) (vi jI) (N1 (qa_c (qe_ix (K:=K) (vi vdV) (qe_op q_mod (vi jH) (qe_cB (q_len (K:=K)) T.b_len Q6 (qa_c (vi vdV) A1)))) A1)))))))
   (A7 (L9 (qe_mB (K:=K) O3 R9 R8 T7 (vi rG) (qa_c (vi jI) A1))))))))))
   (A6 (D3 (n:=8) sc_l_pool.nd rfl vd8 (N1 A1))
   (A6 (N2 PassesOwn.never (O7 (K:=K) (vi rG)) (D5 (n:=6) sc_l_pool.nd rfl rH (.inl rfl)) (A7 (qs_if (J5 (pP (K:=K) hu) (qe_mB (K:=K) PySem.F.plainAttrs_str PySem.F.slot_str_join PySem.F.type_str_join (amA (K:=K)) K2 (qa_c (vi jI) A1)) (vi xT)) (A7 (L9 (qe_mB (K:=K) O3 R9 R8 T7 (vi xT) (qa_c (qe_mB (K:=K) PySem.F.plainAttrs_str PySem.F.slot_str_join PySem.F.type_str_join (amA (K:=K)) K2 (qa_c (vi jI) A1)) A1)))) K8)))
   (A7 (D8 (vi xT)))))))),?_⟩
  obtain ⟨a,k,ns,ks,rfl,hS,hk,h0,h1,h2,q⟩:=h;have hkp:0<ks.length:=List.length_pos_iff.mpr h0;walk_at "rd";refine ⟨a,ns,1,rfl,hS,by decide,?_⟩;generalize numF ns 1=n1;intro p np;refine ⟨by decide,fun l nl=>⟨_,rfl,by lia,by lia,?_⟩⟩;obtain ⟨n,hn,hn10⟩:∃ n:Nat,(3+n1 % 8).toNat=n/\n<=10:=⟨_,rfl,by lia⟩
  rw [hn];clear hn;have npl:p≠l:=fun e=>by rw [<- e,A2] at nl;cases nl
  have R0:RwI H (A0 (A0 H p (.lst [])) l (.lst [V.ref p])) l [p] [[]] ks 0:=⟨(Same.new np).trans (Same.new nl),(Same.new np).free nl,A2,.cons (by rw [A3 npl,A2];rfl) .nil,by simpa using npl.symm,fun ps f8=>by rw [D1.mp f8];exact ⟨by simp,B5 _⟩⟩
  generalize A0 (A0 H p (.lst [])) l (.lst [V.ref p])=H1 at R0;clear np nl npl;refine forR (fun i O H'=>∃ (u4 u5 u6 u7:Option V) (rs:List Addr) (pss:List (List Str)),O=[some (.ref a),some (.ref k),some (.int n1),some (.ref l),u4,u5,u6,u7,none]/\RwI H H' l rs pss ks (3*i)/\pss.length=i+1)
   ⟨none,none,none,none,[p],[[]],rfl,R0,rfl⟩ ?_ ?_
  .rintro i O H2 hi ⟨u4,u5,u6,u7,rs,pss,rfl,R,O0⟩;have y9:rs.length=i+1:=(Paired.length R.row).trans O0;walk_at "rd";refine ⟨a,ns,_,rfl,R.same.seq hS,by lia,rs.length,.inl ⟨_,.of R.top,by rw [A4]⟩,?_⟩;generalize numF ns (2+(0+(i:Int)))=m;walk_at "rd";have b0:=gY m (show (rs.length:Int)≠0 by lia);have b1:=gX m (show 0<(rs.length:Int) by lia);have sE:(m % (rs.length:Int)).toNat<rs.length:=by lia
   obtain ⟨ps,f8,hr⟩:=Paired.at R.row (G0 sE);have sA:=R.ok ps (K4 f8);have K3:K7 (rs.map V.ref) (m % (rs.length:Int))=some (V.ref rs[(m % (rs.length:Int)).toNat]):=by
    have:=G7 (xs:=rs.map V.ref) (j:=(m % (rs.length:Int)).toNat) (v:=V.ref rs[(m % (rs.length:Int)).toNat]) (by rw [O1,G0 sE];rfl)
    rw [show (((m % (rs.length:Int)).toNat:Nat):Int)=m % (rs.length:Int) by lia] at this;exact this
   refine ⟨by lia,_,.inl (.of R.top),_,K3,?_⟩;generalize rs[(m % (rs.length:Int)).toNat]=r0 at hr;walk_at "rd";refine ⟨ps.length,.inl ⟨_,.of hr,by rw [A4]⟩,?_⟩;refine ⟨by lia,rSlR.l (.of hr) fun r1 nr1=>⟨.inr ⟨by lia,by lia⟩,by lia,by lia,?_⟩⟩;obtain ⟨t,ht⟩:∃ t:Nat,m / 12 % ((ps.length:Int)+1)=(t:Int):=⟨(m / 12 % ((ps.length:Int)+1)).toNat,by
    have:=gY (m / 12) (show ((ps.length:Int)+1)≠0 by lia)
    lia⟩
   rw [ht,iK,<- aD];obtain ⟨nn,hnn,hn3⟩:∃ nn:Nat,((m / 72+5*(0+(i:Int))) % 4).toNat=nn/\nn<=3:=⟨_,rfl,by lia⟩
   rw [hnn];clear hnn;have nl1:l≠r1:=fun e=>by have:=R.top;rw [e,nr1] at this;cases this
   have U0:∀ {H':Hp},Same H2 H'->H' k=some (.lst (ks.map V.str)):=fun S=>S _ _ (R.same _ _ hk)
   refine forR (fun j O H'=>∃ (u7:Option V) (m:Int) (r:Addr) (qs:List Str),O=[some (.ref a),some (.ref k),some (.int n1),some (.ref l),some (.int (0+(i:Int))),some (.int m),some (.ref r),u7,none]/\Same H2 H'/\H' r=some (.lst (qs.map V.str))/\l≠r/\(∀ p∈qs,p∈ks)/\qs.length<=3*i+j)
    ⟨u7,_,r1,ps.take t,rfl,Same.new nr1,A2,nl1,fun p hp=>sA.1 p (oI hp),by rw [L0];lia⟩ ?_ ?_
   .rintro j O H3 hj ⟨u7,m,r,qs,rfl,S,hr3,nlr,jP,hql⟩;walk_at "rd";obtain ⟨p,hp,K3⟩:=(wG h0 (m*16807 % 2147483629)).2;refine ⟨.inr ⟨by lia,by lia⟩,ks.length,.inl ⟨_,.of (U0 S),by rw [A4]⟩,by lia,_,.inl (.of (U0 S)),_,K3,by decide,fun p1 G4=>?_⟩;refine rAddR.l (C9 hr3 G4) A2 (by rw [A4,R3];exact i9 (by lia)) fun r2 nr2=>?_
    have S4:=S.trans (Same.new (u:=HO.lst [V.str p]) G4);refine ⟨_,_,rfl,rfl,S4.trans (Same.new nr2),qs++[p],by rw [A2,D6];rfl,fun e=>?_,fun x hx=>?_,by rw [C8,R3];lia⟩
    .rw [<- e,S4 _ _ R.top] at nr2;cases nr2
    .rcases D4.mp hx with h | h
     .exact jP x h
     .rw [D1.mp h];exact hp
   rintro O H3 ⟨u7,m,r,qs,rfl,S,hr3,nlr,jP,hql⟩;walk_at "rd";refine ⟨N7 (S _ _ R.top),appOk (S _ _ R.top) (by rw [A4];exact G5 (by lia)) ?_⟩;exact ⟨_,_,R.push S hr3 nlr (by lia) jP (by lia),by rw [C8,O0];rfl⟩
  rintro O H2 ⟨u4,u5,u6,u7,rs,pss,rfl,R,O0⟩;have y9:rs.length=n+1:=(Paired.length R.row).trans O0;walk_at "rd";intro L nL;have S3:Same H2 (A0 H2 L (.lst [])):=Same.new nL;have hL3:A0 H2 L (.lst []) L=some (.lst (([]:List Str).map V.str)):=A2;generalize A0 H2 L (.lst [])=H3 at S3 hL3;refine ⟨⟨_,.of (S3 _ _ R.top)⟩,forL (xs:=rs.map V.ref) (fun i O H'=>∃ (u6:Option V) (zs:List Str),O=[some (.ref a),some (.ref k),some (.int n1),some (.ref l),u4,u5,u6,u7,some (.ref L)]/\Same H2 H'/\H' L=some (.lst (zs.map V.str))/\zs.Nodup/\zs.length<=i/\(∀ z∈zs,qU ks 30 z)/\(0<i->zs≠[]))
   ⟨_,[],rfl,S3,hL3,List.nodup_nil,B5 _,by simp,fun h=>absurd h (k5 0)⟩ (by rintro i O H' _ ⟨_,_,_,S,_⟩;exact .of (S _ _ R.top)) ?_ ?_⟩
  .rintro i x O H' hx ⟨u6,zs,rfl,S,hL,nd,hl,ho,hz0⟩;obtain ⟨r,hr,rfl⟩:=G9 hx;obtain ⟨ps,f8,hrp⟩:=Paired.at R.row hr;obtain ⟨po,pl⟩:=R.ok ps (K4 f8);have hi:i<rs.length:=(F6.mp hr).1;have hsum:(ps.map (·.length)).sum<=3*ps.length:=by
    clear f8 hrp pl
    induction ps with
    | nil=>exact B5 _
    | cons p ps ih=>
     have:=ih fun q hq=>po q (M3 _ hq)
     have:=h2 p (po p L5)
     simp only [K5,List.sum_cons,G6];lia
   have hof:qU ks 30 (Str.join (Str.ofString "") ps):=⟨ps,po,by lia,agK ps⟩
   have hr':=S _ _ hrp;walk_at "rd";refine ⟨_,r,ps,rfl,rfl,.inl (.of hr'),by decide,by lia,?_⟩;refine rInR.l (.inl (.of hL)) rfl (tZ _) ⟨_,rfl,?_⟩;rw [pK,Bool.true_xor];refine iteN (fun O9=>⟨N7 hL,_,r,ps,rfl,rfl,.inl (.of hr'),by decide,by lia,appOk hL (by rw [A4];exact G5 (by lia)) ⟨S.put nL,zs++[Str.join (Str.ofString "") ps],by rw [A2,D6];rfl,iF nd O9,by rw [C8,R3];lia,fun z hz=>?_,fun _=>by simp⟩⟩) fun nX=>⟨S,zs,hL,nd,by lia,ho,fun _ e=>by rw [e] at nX;cases nX⟩
   rcases D4.mp hz with h | h
   .exact ho z h
   .rw [D1.mp h];exact hof
  rintro O H' ⟨u6,zs,rfl,S,hL,nd,hl,ho,hz0⟩;walk_at "rd";rw [A4,y9] at hl hz0;exact q L _ zs (R.same.free nL) (R.same.trans S) hL (hz0 (by lia)) (by lia) nd ho
theorem sc_law:FnScope ["_law_script", "_law_rules_here", "_law_known", "_law_order", "_law_pool_here", "_law_letters", "_law_text_here", "_law_shelf", "_law_there", "_law_cell", "_law_number_here"] ["_law_script"] (C3 s_law):=G2
abbrev n_law:List Str:=["_law_script", "_law_rules_here", "_law_known", "_law_order", "_law_pool_here", "_law_letters", "_law_text_here", "_law_shelf", "_law_there", "_law_cell", "_law_number_here"]
theorem xV:VS n_law s_law "_law_script" 0:=vq
theorem vea:VS n_law s_law "_law_rules_here" 1:=vq
theorem veb:VS n_law s_law "_law_known" 2:=vq
theorem vec:VS n_law s_law "_law_order" 3:=vq
theorem mG:VS n_law s_law "_law_pool_here" 4:=vq
theorem xW:VS n_law s_law "_law_letters" 5:=vq
theorem dA:VS n_law s_law "_law_text_here" 6:=vq
theorem rJ:VS n_law s_law "_law_shelf" 7:=vq
theorem rK:VS n_law s_law "_law_there" 8:=vq
theorem vei:VS n_law s_law "_law_cell" 9:=vq
theorem vej:VS n_law s_law "_law_number_here" 10:=vq
theorem vek:LS s_law "_law_rules_here":=lq
theorem vel:LS s_law "_law_known":=lq
theorem vem:LS s_law "_law_order":=lq
theorem ven:LS s_law "_law_pool_here":=lq
theorem veo:LS s_law "_law_letters":=lq
theorem vep:LS s_law "_law_text_here":=lq
theorem veq:LS s_law "_law_shelf":=lq
theorem ver:LS s_law "_law_there":=lq
theorem ves:LS s_law "_law_cell":=lq
theorem vet:LS s_law "_law_number_here":=lq
theorem ari(F:FunD K "law" "law" s_law f fd)(T:Txt P w K mg C C_Shelf)(G_Order___init__:KO P w K mg base 5 C "Order" ["self", "rules"] (vD C))(G_letters_of:FO P w K mg base 7 "letters_of" ["order", "text"] [] (qK C))(G_l_number:FO P w K mg base 1 "_law_number" ["_law_script", "_law_k"] [] (vV K))(G_l_rules:FO P w K mg base 2 "_law_rules" ["_law_number_here"] [] amN)(G_Shelf___init__:KO P w K mg base 1 C_Shelf "Shelf" ["self", "order"] (wC C_Shelf))(G_Shelf_put:MO P w K mg base 8 C_Shelf "put" ["self", "text"] (spPut C C_Shelf))(G_Shelf_drop:MO P w K mg base 6 C_Shelf "drop" ["self", "text"] (wD C C_Shelf))(G_Shelf_texts:MO P w K mg base 4 C_Shelf "texts" ["self"] (qT C_Shelf pt_Shelf_texts ⟨307,37,307,65⟩ "Shelf.texts.<locals>.<lambda>"))(G_l_held:FO P w K mg base 9 "_law_held" ["_law_letters", "_law_shelf", "_law_text_here"] [] (ail C C_Shelf pt_Shelf_texts ⟨307,37,307,65⟩ "Shelf.texts.<locals>.<lambda>"))(G_l_numbers:FO P w K mg base 1 "_law_numbers" ["_law_row"] [] (aik K))(G_l_pool:FO P w K mg base 2 "_law_pool" ["_law_script", "_law_known"] [] (aim K)):FnOk P w K mg base D9 10 f fd ["_law_script"] (qW K [pt_Shelf_texts]):=by
 refine F.ok sc_law ?_ ?_
 .rintro _ _ _ _ ⟨a,ns,rfl,_⟩;rfl
 .intro cdv A outer s H vs Q E hr h;have C5:=hu_of hr;have hu:=hr.units;refine ⟨_,QSs.out (A6 (amu (E8 G_l_rules (hm hr) (qa_c (E8 G_l_number (hm hr) (qa_c (vi xV) (qa_c A5 A1))) A1)) (cH (K:=K) (n:=2) (T6 ((D5 (n:=1) sc_law.nd rfl vek (.inl rfl))) (T6 ((D5 (n:=2) sc_law.nd rfl vel (.inl rfl))) cG))))
   (A6 (D3 (n:=3) sc_law.nd rfl vem (ajY G_Order___init__ (hm hr) (qa_c (vi vea) A1)))
   (A6 (D3 (n:=4) sc_law.nd rfl ven (E8 G_l_pool (hm hr) (qa_c (vi xV) (qa_c (vi veb) A1))))
   (A6 (D3 (n:=5) sc_law.nd rfl veo cE)
   (A6 (N2 PassesOwn.never (O7 (K:=K) (vi mG)) (D5 (n:=6) sc_law.nd rfl vep (.inl rfl)) (A6 (l8 C5 (vi xW) (vi dA) (E8 G_letters_of (hm hr) (qa_c (vi vec) (qa_c (vi dA) A1))))
   (A7 (qs_if (aN (R4 (K:=K) (E8 G_l_numbers (hm hr) (qa_c (X1 C5 (vi xW) (vi dA)) A1)))) (A7 (D8 qe_bl)) K8))))
   (A6 (D3 (n:=7) sc_law.nd rfl veq (ajY G_Shelf___init__ (hm hr) (qa_c (vi vec) A1)))
   (A6 (D3 (n:=8) sc_law.nd rfl ver (N1 A1))
   (A6 (N2 PassesOwn.never (O7 (K:=K) (T4 (K:=K) (vi xV) (O6 A5) (O6 A5))) (D5 (n:=9) sc_law.nd rfl ves (.inl rfl)) (A6 (D3 (n:=10) sc_law.nd rfl vet (qe_op q_mod (qe_op q_mul (vi vei) A5) A5))
   (A6 (D3 (n:=6) sc_law.nd rfl vep (qe_ix (K:=K) (vi mG) (qe_op q_mod (vi vej) (qe_cB (q_len (K:=K)) T.b_len Q6 (qa_c (vi mG) A1)))))
   (iJ (qs_if (J5 (q_in (K:=K) hu) (vi dA) (vi rK)) (A6 (L9 (lF (vi rJ) G_Shelf_drop (hm hr) (qa_c (vi dA) A1)))
   (A7 (L9 (qe_mB (K:=K) O3 PySem.F.slot_list_remove PySem.F.type_list_remove alI (vi rK) (qa_c (vi dA) A1))))) (A6 (L9 (lF (vi rJ) G_Shelf_put (hm hr) (qa_c (vi dA) A1)))
   (A7 (L9 (qe_mB (K:=K) O3 R9 R8 T7 (vi rK) (qa_c (vi dA) A1))))))
   (A7 (qs_if (aN (R4 (K:=K) (E8 G_l_held (hm hr) (qa_c (vi xW) (qa_c (vi rJ) (qa_c (qe_ix (K:=K) (vi mG) (qe_op q_mod (qe_op b8 (vi vej) A5) (qe_cB (q_len (K:=K)) T.b_len Q6 (qa_c (vi mG) A1)))) A1)))))) (A7 (D8 qe_bl)) K8))))))
   (A7 (D8 (eI (q_eq (K:=K) hu) (qe_cB (q_len (K:=K)) T.b_len Q6 (qa_c (uP (vi rJ) G_Shelf_texts (hm hr)) A1)) (qe_cB (q_len (K:=K)) T.b_len Q6 (qa_c (vi rK) A1))))))))))))),?_⟩
  obtain ⟨a,ns,rfl,hS,A9,hT0,q⟩:=h;have hT:H pt_Shelf_texts=some (.tbl #[]):=hT0 _ (by simp);clear hT0;walk_at "rd";refine ⟨a,ns,0,rfl,hS,by decide,_,rfl,fun l r k ts ls ms ks aa f g xx qq o b1 b2 b3 H1 S1 nr nk hl hR sh hk hP=>?_⟩;refine ⟨l,rfl,_,.of hl,rfl,_,_,rfl,_,_,rfl,rfl,fun x dx nx ndx ndxx=>?_⟩;have S2:Same H1 (A0 (A0 H1 dx (.own x)) x (.ins C dx [])):=(Same.new ndx).trans (Same.new (by rw [A3 ndxx.symm];exact nx));have fX:A0 (A0 H1 dx (.own x)) x (.ins C dx []) x=some (.ins C dx []):=A2;generalize A0 (A0 H1 dx (.own x)) x (.ins C dx [])=H2 at S2 fX;refine ⟨x,dx,r,ts,_,_,_,_,rfl,fX,hR.same S2,sh.good,fun j ll ml md L M H3 nj nll nml nmd B3 hO=>⟨rfl,?_⟩⟩;obtain ⟨eL,eM⟩:=sh.lets hO.l1 hO.l2;have sO:Same H1 H3:=fun b o hb=>B3 _ _ (fun e=>by rw [e,nx] at hb;cases hb) (S2 _ _ hb)
  have ot:OrdT C H3 x (G3 ls ms aa f g xx qq o b1 b2 b3) L M:=⟨⟨_,_,_,_,_,hO⟩,sh.knownL,sh.steps L M⟩
  clear hO B3 fX S2 hR nx ndx ndxx eL eM nr nk hl;refine ⟨a,k,ns,ks,rfl,(S1.trans sO).seq hS,sO _ _ hk,hP.1,hP.2.1,fun p hp=>(hP.2.2 p hp).2.1,fun pl H4 zs npl S4 O0 z0 zl znd zof=>?_⟩;have txt:∀ z∈zs,TxtT (G3 ls ms aa f g xx qq o b1 b2 b3) z:=fun z hz=>sh.txt hP (zof z hz) (by decide)
  generalize G3 ls ms aa f g xx qq o b1 b2 b3=R at ot txt;have dP:=S1.trans (sO.trans S4);have ot4:=ot.same S4;clear zof hP hk sO S1 sh ot npl S4;intro D nD;refine ⟨pl,rfl,⟨_,.of (C9 O0 nD)⟩,forL (xs:=zs.map V.str) (fun i O H'=>∃ (u6:Option V) (ld:Str->Addr),O=[some (.ref a),some (.ref r),some (.ref k),some (.ref x),some (.ref pl),some (.ref D),u6,none,none,none,none]/\Same H4 H'/\H' D=some (.dK (A8 (zs.take i) fun y=>.ref (ld y)))/\∀ y∈zs.take i,H' (ld y)=some (.lst ((LetOf R L M y).map V.int)))
   ⟨none,fun _=>0,rfl,Same.new nD,A2,by simp⟩ (by rintro i O H' _ ⟨_,_,_,S,_⟩;exact .of (S _ _ O0)) ?_ ?_⟩
  .rintro i v O H5 hv ⟨u6,ld,rfl,S5,hD5,fW⟩;obtain ⟨z,hz,rfl⟩:=G9 hv;have W7:=K4 hz;have hi:i<zs.length:=(F6.mp hz).1;have sC:z∉zs.take i:=fun h=>by
    have nd:(zs.take (i+1)).Nodup:=List.Nodup.sublist (List.take_sublist _ _) znd;rw [J7 hz,Z5] at nd;exact nd.2.2 z h z (D1.mpr rfl) rfl
   walk_at "rd";refine (ot4.same S5).lets (txt z W7) fun p H6 np S6 hp=>⟨_,v4 (k:=Sum.inr z) (S6 _ _ hD5) (by rw [Q7,L0];exact G5 (by lia)),?_⟩
   rw [amO sC];have hdl:∀ {b:Addr} {xs:List V},H6 b=some (.lst xs)->b≠D:=fun h e=>by rw [e,S6 _ _ hD5] at h;cases h
   have hg:=W4 (k:=Sum.inr z) (A2 (H:=H6) (a:=D) (o:=.dK (A8 (zs.take i++[z]) fun y=>V.ref (if y=z then p else ld y))));rw [N8,if_pos (M0 _ (D1.mpr rfl)),if_pos rfl] at hg;refine ⟨_,hg,p,_,rfl,by rw [A3 (hdl hp)];exact hp,akL R L M z,?_⟩;walk_at "rd";refine ⟨(S5.trans S6).put nD,fun y=>if y=z then p else ld y,by rw [A2,J7 hz],fun y hy=>?_⟩
   by_cases e:y=z
   .show A0 H6 D _ (if y=z then p else ld y)=_;rw [if_pos e,A3 (hdl hp),e];exact hp
   .show A0 H6 D _ (if y=z then p else ld y)=_;rw [J7 hz] at hy
    rcases D4.mp hy with hy | hy
    .have:=S6 _ _ (fW y hy)
     rw [if_neg e,A3 (hdl this)];exact this
    .exact absurd (D1.mp hy) e
  rintro O H5 ⟨u6,ld,rfl,S5,hD5,fW⟩;rw [A4,K9] at hD5 fW;have ot5:=ot4.same S5;have hT5:=S5 _ _ (dP _ _ hT);have nY:=S5 _ _ O0;have nE:=dP.trans S5;clear ot4 S5 dP O0 nD hT;walk_at "rd";intro s1 ds kA nds ndss;have S6:Same H5 (A0 (A0 H5 ds (.own s1)) s1 (.ins C_Shelf ds [])):=(Same.new nds).trans (Same.new (by rw [A3 ndss.symm];exact kA));have gB:A0 (A0 H5 ds (.own s1)) s1 (.ins C_Shelf ds []) s1=some (.ins C_Shelf ds []):=A2;generalize A0 (A0 H5 ds (.own s1)) s1 (.ins C_Shelf ds [])=H6 at S6 gB;refine ⟨s1,ds,x,rfl,gB,fun d H7 nd B7 gC hd7=>⟨rfl,fun th nth=>?_⟩⟩;have nZ:Same H5 H7:=fun b o hb=>B7 _ _ (fun e=>by rw [e,kA] at hb;cases hb) (S6 _ _ hb)
  have nd5:H5 d=none:=S6.free nd;have nthd:th≠d:=fun e=>by rw [e,hd7] at nth;cases nth
  have nths:th≠s1:=fun e=>by rw [e,gC] at nth;cases nth
  have kD:H5 th=none:=nZ.free nth;refine rSlR.l ((nE.trans (nZ.trans (Same.new nth))).seq hS) fun c0 sP=>⟨c0,rfl,?_⟩
  rw [show cutV (ns.map V.int) (some 12) (some 72)=((ns.drop 12).take 60).map V.int by rw [show cutV (ns.map V.int) (some 12) (some 72)=_ from vB _ (i:=12) (j:=72) (by decide),<- List.map_drop,<- aD]];have bC:((ns.drop 12).take 60).length<=60:=by rw [L0];lia
  generalize (ns.drop 12).take 60=cs at bC;have nct:c0≠th:=fun e=>by rw [e,A2] at sP;cases sP
  have oA:Same H7 (A0 (A0 H7 th (.lst [])) c0 (.lst (cs.map V.int))):=(Same.new nth).trans (Same.new sP);have J0:OnS C_Shelf pt_Shelf_texts ⟨307,37,307,65⟩ "Shelf.texts.<locals>.<lambda>" H5 (A0 (A0 H7 th (.lst [])) c0 (.lst (cs.map V.int))) s1 ds x d th c0 cs [] (KeyOf R L M) (fun _=>0) zs:=
   ⟨.of (nZ.trans oA),.inl (oA _ _ (nZ _ _ hT5)),⟨oA _ _ gC,oA _ _ hd7,by simp,List.nodup_nil⟩,by rw [A3 nct.symm,A2];rfl,A2,by simp,by simp⟩
  generalize A0 (A0 H7 th (.lst [])) c0 (.lst (cs.map V.int))=H8 at J0;clear oA sP nth gC hd7 B7 nZ S6 gB nd kA nds ndss nths hT5 nE;have hg:∀ {H':Hp},Kp H5 H'->H' pl=some (.lst (zs.map V.str))/\H' D=some (.dK (A8 zs fun y=>.ref (ld y)))/\(∀ y∈zs,H' (ld y)=some (.lst ((LetOf R L M y).map V.int)))/\OrdT C H' x R L M:=fun k=>⟨k _ _ nY (by intro ps e;cases e),k _ _ hD5 (by intro ps e;cases e),fun y hy=>k _ _ (fW y hy) (by intro ps e;cases e),ot5.kp k⟩
  clear nY hD5 fW ot5;refine ⟨⟨_,.of J0.ct⟩,forL (xs:=cs.map V.int) (fun i O H'=>∃ (u6 u9 u10:Option V) (ks:List Str) (ad:Str->Addr),O=[some (.ref a),some (.ref r),some (.ref k),some (.ref x),some (.ref pl),some (.ref D),u6,some (.ref s1),some (.ref th),u9,u10]/\OnS C_Shelf pt_Shelf_texts ⟨307,37,307,65⟩ "Shelf.texts.<locals>.<lambda>" H5 H' s1 ds x d th c0 cs ks (KeyOf R L M) ad zs/\ks.length<=i)
   ⟨_,_,_,[],_,rfl,J0,B5 _⟩ (by rintro i O H' _ ⟨_,_,_,_,_,_,J,_⟩;exact .of J.ct) ?_ ?_⟩
  .rintro i v O H' hv ⟨u6,u9,u10,ks,ad,rfl,J,U0⟩;obtain ⟨n,hn,rfl⟩:=G9 hv;have hi:i<cs.length:=(F6.mp hn).1;obtain ⟨g1,g2,g3,g4⟩:=hg J.kp;walk_at "rd";generalize n*69621 % 2147483587=m;obtain ⟨zp,z,W7,K3⟩:=wG z0 m;refine ⟨.inr ⟨by lia,by lia⟩,zs.length,.inl ⟨_,.of g1,by rw [A4]⟩,zp,_,.inl (.of g1),_,K3,midS (fun O H6=>∃ (ks:List Str) (ad:Str->Addr),O=[some (.ref a),some (.ref r),some (.ref k),some (.ref x),some (.ref pl),some (.ref D),some (.str z),some (.ref s1),some (.ref th),some (.int n),some (.int m)]/\OnS C_Shelf pt_Shelf_texts ⟨307,37,307,65⟩ "Shelf.texts.<locals>.<lambda>" H5 H6 s1 ds x d th c0 cs ks (KeyOf R L M) ad zs/\ks.length<=i+1) ?_ ?_⟩
   .intro M' hM;walk_at "rd";refine rInR.l (.inl (.of J.tl)) rfl (tZ _) ⟨_,rfl,?_⟩;rw [pK,aF];refine iteD (fun L4=>⟨ds,_,J.sh.ob,jB _ _ (by decide +kernel) (by decide +kernel),s1,ds,x,d,z,R,L,M,ks,ad,rfl,J.sh,g4,txt z W7,L4,by lia,fun H6 B6 sh6=>?_⟩) fun L4=>⟨ds,_,J.sh.ob,jB _ _ (by decide +kernel) (by decide +kernel),s1,ds,x,d,z,R,L,M,ks,ad,rfl,J.sh,g4,txt z W7,L4,by lia,fun p H6 np B6 sh6=>?_⟩
    .obtain ⟨t6,J6⟩:=J.deed B6 sh6 (fun y hy=>J.nt y (List.mem_of_mem_erase hy)) (fun y hy=>J.sub y (List.mem_of_mem_erase hy)) nd5 kD nct;exact ⟨N7 t6,th,ks,z,rfl,rfl,t6,L4,hM _ _ ⟨ks.erase z,ad,rfl,J6,K6 (List.length_erase_le ..) (by lia)⟩⟩
    .have q1:∀ y∈ks++[z],(if y=z then p else ad y)≠th:=fun y hy=>by
      by_cases e:y=z
      .rw [if_pos e];exact fun e2=>by rw [e2,J.tl] at np;cases np
      .rw [if_neg e]
       rcases D4.mp hy with hy | hy
       .exact J.nt y hy
       .exact absurd (D1.mp hy) e
     have q2:∀ y∈ks++[z],y∈zs:=fun y hy=>by
      rcases D4.mp hy with hy | hy
      .exact J.sub y hy
      .rw [D1.mp hy];exact W7
     obtain ⟨t6,J6⟩:=J.deed B6 sh6 q1 q2 nd5 kD nct;rw [D6] at J6;exact ⟨N7 t6,appOk t6 (by rw [A4];exact G5 (by lia)) (hM _ _ ⟨ks++[z],_,rfl,J6,by rw [C8,R3];lia⟩)⟩
   clear J g1 g2 g3 g4 K3;rintro O H6 ⟨ks2,ad2,rfl,J,hkl2⟩;obtain ⟨g1,g2,g3,g4⟩:=hg J.kp;obtain ⟨_,z2,oB,hat2⟩:=wG z0 (m / 16);walk_at "rd";refine ⟨zs.length,.inl ⟨_,.of g1,by rw [A4]⟩,zp,_,.inl (.of g1),_,hat2,D,s1,ds,x,d,z2,R,L,M,ks2,zs,ad2,ld,rfl,J.sh,g4,txt z2 oB,g2,g3,oB,J.sub,by lia,J.tb,fun H7 S7 hT7=>?_⟩;walk_at "rd";exact ⟨ks2,⟨ad2,J.kept S7 hT7⟩,hkl2⟩
  rintro O H' ⟨u6,u9,u10,ks,ad,rfl,J,U0⟩;rw [A4] at U0;walk_at "rd";refine ⟨ds,_,J.sh.ob,jB _ _ (by decide +kernel) (by decide +kernel),s1,ds,x,d,ks,_,ad,rfl,J.sh,by lia,J.tb,fun l H9 zs9 nl S9 hT9 jU pm pw=>?_⟩;have J9:=J.kept S9 hT9;walk_at "rd";refine ⟨zs9.length,.inl ⟨_,.of jU,by rw [A4]⟩,ks.length,.inl ⟨_,.of J9.tl,by rw [A4]⟩,?_⟩;rw [pm.length_eq,decide_eq_true rfl];exact q _
end
theorem all_mk{l:PySem.W.OpenLaw}{w:World}{C_Shelf:Addr}(X:K.In h)(G:h.Ns mainGlobals mg)(sJ:mg "law"=some (.ref fa))(d0:DF K "told" v9)(d1:DF K "followers" Y3)(d2:DF K "count_ahead" w5)(d3:DF K "lined_up" Q1)(d4:DF K "is_figure" qQ)(d5:DF K "has_rule" lO)(d6:DF K "pieces_told" qR)(d7:DF K "is_clash" cM)(d8:DF K "jobs_of" j5)(d9:DF K "misused" aQ)(d10:DF K "check_letters" aR)(d11:DF K "line_of" lP)(d12:DF K "forms_of" cN)(d13:DF K "steps_of" P6){f14:Addr}{od14 an14:Option Addr}{sl14:Array (Option Value)}{oc14 kV14 dc14 pm14 cd14 ct14:Value}(a14:M9 K (.ref C) "__init__"=some (some (.ref f14)))(i14:i5 K (.ref f14)=true)(l14:K.lookup f14=some ⟨oc14,od14,.func (P3 "__init__" "Order.__init__" (Q5 cO) (P5 cO) (C3 cO) .none kV14 dc14 pm14 an14 cd14 ct14),sl14⟩)(c14:T0 K cd14 "Order.__init__"=true)(k14:Q4 K (.ref f14)=true)(d15:DF K "figures_at" eT)(d16:DF K "part_at" aS){f17:Addr}{od17 an17:Option Addr}{sl17:Array (Option Value)}{oc17 kV17 dc17 pm17 cd17 ct17:Value}{tD17:Addr}{nD17:Nat}{cD17:Value}{oD17:Option Addr}{sD17:Array (Option Value)}(dl17:K.lookup tD17=some ⟨cD17,oD17,.seq #[.bool false] nD17,sD17⟩)(a17:O4 K mainGlobals "cut"=some (some (.ref f17)))(l17:K.lookup f17=some ⟨oc17,od17,.func (P3 "cut" "cut" (Q5 s_cut) (P5 s_cut) (C3 s_cut) (.ref tD17) kV17 dc17 pm17 an17 cd17 ct17),sl17⟩)(c17:T0 K cd17 "cut"=true)(k17:Q4 K (.ref f17)=true){f18:Addr}{od18 an18:Option Addr}{sl18:Array (Option Value)}{oc18 kV18 dc18 pm18 cd18 ct18:Value}(a18:M9 K (.ref C) "known"=some (some (.ref f18)))(i18:i5 K (.ref f18)=true)(l18:K.lookup f18=some ⟨oc18,od18,.func (P3 "known" "Order.known" (Q5 eU) (P5 eU) (C3 eU) .none kV18 dc18 pm18 an18 cd18 ct18),sl18⟩)(c18:T0 K cd18 "Order.known"=true)(k18:Q4 K (.ref f18)=true){f19:Addr}{od19 an19:Option Addr}{sl19:Array (Option Value)}{oc19 kV19 dc19 pm19 cd19 ct19:Value}(a19:M9 K (.ref C) "steps"=some (some (.ref f19)))(i19:i5 K (.ref f19)=true)(l19:K.lookup f19=some ⟨oc19,od19,.func (P3 "steps" "Order.steps" (Q5 cP) (P5 cP) (C3 cP) .none kV19 dc19 pm19 an19 cd19 ct19),sl19⟩)(c19:T0 K cd19 "Order.steps"=true)(k19:Q4 K (.ref f19)=true)(d20:DF K "parts_of" lQ)(d21:DF K "steps_by" lR)(d22:DF K "add_mark" lS)(d23:DF K "add_part" j6)(d24:DF K "units" w6)(d25:DF K "first_numbers" lT)(d26:DF K "first_level" cQ)(d27:DF K "second_level" w8)(d28:DF K "third_level" lU)(d29:DF K "fourth_level" lV){f30:Addr}{od30 an30:Option Addr}{sl30:Array (Option Value)}{oc30 kV30 dc30 pm30 cd30 ct30:Value}{kD30:Tok}{tD30:Addr}{nD30:Nat}{cD30:Value}{oD30:Option Addr}{sD30:Array (Option Value)}(dl30:K.lookup tD30=some ⟨cD30,oD30,.seq #[.int 4 kD30] nD30,sD30⟩)(a30:O4 K mainGlobals "key"=some (some (.ref f30)))(l30:K.lookup f30=some ⟨oc30,od30,.func (P3 "key" "key" (Q5 s_key) (P5 s_key) (C3 s_key) (.ref tD30) kV30 dc30 pm30 an30 cd30 ct30),sl30⟩)(c30:T0 K cd30 "key"=true)(k30:Q4 K (.ref f30)=true)(d31:DF K "letters_of" lW)(d32:DF K "_law_number" lX)(d33:DF K "_law_sign" x0)(d34:DF K "_law_rules" O8){f35:Addr}{od35 an35:Option Addr}{sl35:Array (Option Value)}{oc35 kV35 dc35 pm35 cd35 ct35:Value}(a35:M9 K (.ref C_Shelf) "__init__"=some (some (.ref f35)))(i35:i5 K (.ref f35)=true)(l35:K.lookup f35=some ⟨oc35,od35,.func (P3 "__init__" "Shelf.__init__" (Q5 cR) (P5 cR) (C3 cR) .none kV35 dc35 pm35 an35 cd35 ct35),sl35⟩)(c35:T0 K cd35 "Shelf.__init__"=true)(k35:Q4 K (.ref f35)=true){f36:Addr}{od36 an36:Option Addr}{sl36:Array (Option Value)}{oc36 kV36 dc36 pm36 cd36 ct36:Value}(a36:M9 K (.ref C_Shelf) "put"=some (some (.ref f36)))(i36:i5 K (.ref f36)=true)(l36:K.lookup f36=some ⟨oc36,od36,.func (P3 "put" "Shelf.put" (Q5 x3) (P5 x3) (C3 x3) .none kV36 dc36 pm36 an36 cd36 ct36),sl36⟩)(c36:T0 K cd36 "Shelf.put"=true)(k36:Q4 K (.ref f36)=true){f37:Addr}{od37 an37:Option Addr}{sl37:Array (Option Value)}{oc37 kV37 dc37 pm37 cd37 ct37:Value}(a37:M9 K (.ref C_Shelf) "drop"=some (some (.ref f37)))(i37:i5 K (.ref f37)=true)(l37:K.lookup f37=some ⟨oc37,od37,.func (P3 "drop" "Shelf.drop" (Q5 cS) (P5 cS) (C3 cS) .none kV37 dc37 pm37 an37 cd37 ct37),sl37⟩)(c37:T0 K cd37 "Shelf.drop"=true)(k37:Q4 K (.ref f37)=true){f38:Addr}{od38 an38:Option Addr}{sl38:Array (Option Value)}{oc38 kV38 dc38 pm38 ct38:Value}(a38:M9 K (.ref C_Shelf) "texts"=some (some (.ref f38)))(i38:i5 K (.ref f38)=true){oL38:Value}{dL38:Option Addr}{vL38:Array Value}{sL38:Array (Option Value)}(l38:K.lookup f38=some ⟨oc38,od38,.func (P3 "texts" "Shelf.texts" (Q5 cT) (P5 cT) (C3 cT) .none kV38 dc38 pm38 an38 (.ref cl_Shelf_texts) ct38),sl38⟩)(c38:T0 K (.ref cl_Shelf_texts) "Shelf.texts"=true)(k38:Q4 K (.ref f38)=true)(lc38:K.lookup cl_Shelf_texts=some ⟨oL38,dL38,.fields vL38,sL38⟩)(lp38:vL38[11]?=some (.ref pt_Shelf_texts)){f39:Addr}{od39 an39:Option Addr}{sl39:Array (Option Value)}{oc39 kV39 dc39 pm39 cd39 ct39:Value}(a39:M9 K (.ref C_Shelf) "stretch"=some (some (.ref f39)))(i39:i5 K (.ref f39)=true)(l39:K.lookup f39=some ⟨oc39,od39,.func (P3 "stretch" "Shelf.stretch" (Q5 e8) (P5 e8) (C3 e8) .none kV39 dc39 pm39 an39 cd39 ct39),sl39⟩)(c39:T0 K cd39 "Shelf.stretch"=true)(k39:Q4 K (.ref f39)=true){f40:Addr}{od40 an40:Option Addr}{sl40:Array (Option Value)}{oc40 kV40 dc40 pm40 cd40 ct40:Value}(a40:M9 K (.ref C_Shelf) "begins"=some (some (.ref f40)))(i40:i5 K (.ref f40)=true)(l40:K.lookup f40=some ⟨oc40,od40,.func (P3 "begins" "Shelf.begins" (Q5 cU) (P5 cU) (C3 cU) .none kV40 dc40 pm40 an40 cd40 ct40),sl40⟩)(c40:T0 K cd40 "Shelf.begins"=true)(k40:Q4 K (.ref f40)=true)(d41:DF K "_law_held" U7)(d42:DF K "_law_numbers" iX)(d43:DF K "_law_pool" U8){f44:Addr}{od44 an44:Option Addr}{sl44:Array (Option Value)}{oc44 kV44 dc44 pm44 cd44 ct44:Value}(a44:O4 K mainGlobals "law"=some (some (.ref f44)))(l44:K.lookup f44=some ⟨oc44,od44,.func (P3 "law" "law" (Q5 s_law) (P5 s_law) (C3 s_law) .none kV44 dc44 pm44 an44 cd44 ct44),sl44⟩)(c44:T0 K cd44 "law"=true)(k44:Q4 K (.ref f44)=true)(aC:O4 K mainGlobals "Order"=some (some (.ref C)))(pgC:gW K C Str.empty=true)(hdC:kO K C=true)(poC:PySem.W.plainOver K C=true)(saC:M9 K (.ref C) "__setattr__"=some (some (.builtin "object.__setattr__")))(mkC:PySem.W.makesIn K C=true)(kcC:Q4 K (.ref C)=true)(nC_figures:M9 K (.ref C) "figures"=some none)(nC_behind:M9 K (.ref C) "behind"=some none)(nC_jobs:M9 K (.ref C) "jobs"=some none)(nC_letter_line:M9 K (.ref C) "letter_line"=some none)(nC_mark_line:M9 K (.ref C) "mark_line"=some none)(nC_made:M9 K (.ref C) "made"=some none)(aC_Shelf:O4 K mainGlobals "Shelf"=some (some (.ref C_Shelf)))(pgC_Shelf:gW K C_Shelf Str.empty=true)(hdC_Shelf:kO K C_Shelf=true)(poC_Shelf:PySem.W.plainOver K C_Shelf=true)(saC_Shelf:M9 K (.ref C_Shelf) "__setattr__"=some (some (.builtin "object.__setattr__")))(mkC_Shelf:PySem.W.makesIn K C_Shelf=true)(kcC_Shelf:Q4 K (.ref C_Shelf)=true)(nC_order:M9 K (.ref C_Shelf) "order"=some none)(nC_kept:M9 K (.ref C_Shelf) "kept"=some none)(z_any:O4 K mainGlobals "any"=some none)(z_bool:O4 K mainGlobals "bool"=some none)(z_dict:O4 K mainGlobals "dict"=some none)(z_enumerate:O4 K mainGlobals "enumerate"=some none)(z_int:O4 K mainGlobals "int"=some none)(z_isinstance:O4 K mainGlobals "isinstance"=some none)(z_len:O4 K mainGlobals "len"=some none)(z_list:O4 K mainGlobals "list"=some none)(z_min:O4 K mainGlobals "min"=some none)(z_ord:O4 K mainGlobals "ord"=some none)(z_range:O4 K mainGlobals "range"=some none)(z_sorted:O4 K mainGlobals "sorted"=some none)(z_tuple:O4 K mainGlobals "tuple"=some none)(z_zip:O4 K mainGlobals "zip"=some none){a_JOBS:Addr}{ep_JOBS:Nat}{h_JOBS_0:Int}{t_JOBS_0 u_JOBS_0:Tok}{h_JOBS_1:Int}{t_JOBS_1 u_JOBS_1:Tok}{h_JOBS_2:Int}{t_JOBS_2 u_JOBS_2:Tok}{h_JOBS_3:Int}{t_JOBS_3 u_JOBS_3:Tok}{h_JOBS_4:Int}{t_JOBS_4 u_JOBS_4:Tok}(y_JOBS:O4 K mainGlobals "JOBS"=some (some (.ref a_JOBS)))(d_JOBS:K.lookup a_JOBS=some { cls:=.type "dict",dict:=none,data:=.dict #[⟨h_JOBS_0,.str "row" t_JOBS_0,.str "letter" u_JOBS_0⟩,⟨h_JOBS_1,.str "marks" t_JOBS_1,.str "mark" u_JOBS_1⟩,⟨h_JOBS_2,.str "great" t_JOBS_2,.str "great" u_JOBS_2⟩,⟨h_JOBS_3,.str "as" t_JOBS_3,.str "as" u_JOBS_3⟩,⟨h_JOBS_4,.str "over" t_JOBS_4,.str "over" u_JOBS_4⟩] ep_JOBS,slots:=#[] })(s_JOBS:(a_JOBS==sysModules)=false)(e_JOBS_0:h_JOBS_0=keyH w (Sum.inr ("row" : Str)))(e_JOBS_1:h_JOBS_1=keyH w (Sum.inr ("marks" : Str)))(e_JOBS_2:h_JOBS_2=keyH w (Sum.inr ("great" : Str)))(e_JOBS_3:h_JOBS_3=keyH w (Sum.inr ("as" : Str)))(e_JOBS_4:h_JOBS_4=keyH w (Sum.inr ("over" : Str))){a_AGAIN:Addr}{n_AGAIN:Nat}{od_AGAIN:Option Addr}{sl_AGAIN:Array (Option Value)}{t_AGAIN_0:Tok}{t_AGAIN_1:Tok}{t_AGAIN_2:Tok}(y_AGAIN:O4 K mainGlobals "AGAIN"=some (some (.ref a_AGAIN)))(d_AGAIN:K.lookup a_AGAIN=some ⟨.type "tuple",od_AGAIN,.seq #[.str "letter" t_AGAIN_0,.str "mark" t_AGAIN_1,.str "over" t_AGAIN_2] n_AGAIN,sl_AGAIN⟩){tMARK tLETTER tFIGURES:Tok}(y_MARK:O4 K mainGlobals "MARK"=some (some (.int 0 tMARK)))(y_LETTER:O4 K mainGlobals "LETTER"=some (some (.int 2 tLETTER)))(y_FIGURES:O4 K mainGlobals "FIGURES"=some (some (.int 1 tFIGURES)))
  : ∃ fd:FuncData,(∀ (s:Shared) (v:Value),BindsTo s fd ⟨[v],[]⟩ [("_law_script",v)])/\∀ base:Heap,K.In base->base.Ns mainGlobals mg->BaseT mg base [(cl_Shelf_texts,pt_Shelf_texts)]->FnOk l.prog w K mg base D9 10 fa fd ["_law_script"] (qW K ([(cl_Shelf_texts,pt_Shelf_texts)].map (·.2))):=by
 have e:=sJ.symm.trans (i4 X G a44);cases e;have T:Txt l.prog w K mg C C_Shelf:=⟨⟨pgC,hdC,poC,saC⟩,nC_figures,nC_behind,nC_jobs,nC_letter_line,nC_mark_line,nC_made,⟨pgC_Shelf,hdC_Shelf,poC_Shelf,saC_Shelf⟩,nC_order,nC_kept,X9 X G z_any,X9 X G z_bool,X9 X G z_dict,X9 X G z_enumerate,X9 X G z_int,X9 X G z_isinstance,X9 X G z_len,X9 X G z_list,X9 X G z_min,X9 X G z_ord,X9 X G z_range,X9 X G z_sorted,X9 X G z_tuple,X9 X G z_zip,⟨_,i4 X G y_MARK⟩,⟨_,i4 X G y_LETTER⟩,⟨_,i4 X G y_FIGURES⟩,⟨_,i4 X G y_JOBS,anX d_JOBS s_JOBS (.cons ⟨gZ _ _,e_JOBS_0,⟨_,rfl⟩⟩ ( .cons ⟨gZ _ _,e_JOBS_1,⟨_,rfl⟩⟩ ( .cons ⟨gZ _ _,e_JOBS_2,⟨_,rfl⟩⟩ ( .cons ⟨gZ _ _,e_JOBS_3,⟨_,rfl⟩⟩ ( .cons ⟨gZ _ _,e_JOBS_4,⟨_,rfl⟩⟩ ( .nil)))))) (by decide +kernel)⟩,⟨_,i4 X G y_AGAIN,fun H=>.inr ⟨_,_,_,d_AGAIN,rfl,rfl,(by show 3<=sizeLine;decide),.cons ⟨_,rfl⟩ ( .cons ⟨_,rfl⟩ ( .cons ⟨_,rfl⟩ ( .nil)))⟩⟩⟩
 have F14:=i8 (st:=cO) l14 c14;have F17:=i8 (st:=s_cut) l17 c17;have F18:=i8 (st:=eU) l18 c18;have F19:=i8 (st:=cP) l19 c19;have F30:=i8 (st:=s_key) l30 c30;have F35:=i8 (st:=cR) l35 c35;have F36:=i8 (st:=x3) l36 c36;have F37:=i8 (st:=cS) l37 c37;have F38:FunDL K "texts" "Shelf.texts" cT f38 _ cl_Shelf_texts:=⟨_,_,_,_,_,_,_,_,_,rfl,l38,c38⟩
 have F39:=i8 (st:=e8) l39 c39;have F40:=i8 (st:=cU) l40 c40;have F44:=i8 (st:=s_law) l44 c44;refine ⟨P3 "law" "law" (Q5 s_law) (P5 s_law) (C3 s_law) .none kV44 dc44 pm44 an44 cd44 ct44,fun s v=>.of_eq rfl,fun base hb hn BT=>?_⟩;have G_told:=d0.go X G hb fun F=>aov F T
 have G_followers:=d1.go X G hb fun F=>agR F T G_told
 have G_count_ahead:=d2.go X G hb fun F=>aeH F T
 have G_lined_up:=d3.go X G hb fun F=>ahs F T G_followers G_count_ahead
 have G_is_figure:=d4.go X G hb fun F=>agT F T
 have G_has_rule:=d5.go X G hb fun F=>ahv F T
 have G_pieces_told:=d6.go X G hb fun F=>aeJ F T
 have G_is_clash:=d7.go X G hb fun F=>ahx F T G_is_figure
 have G_jobs_of:=d8.go X G hb fun F=>aiY F T G_has_rule G_pieces_told G_is_clash
 have G_misused:=d9.go X G hb fun F=>aiZ F T
 have G_check_letters:=d10.go X G hb fun F=>adU F T G_misused
 have G_line_of:=d11.go X G hb fun F=>ai1 F T G_lined_up
 have G_forms_of:=d12.go X G hb fun F=>ahy F T
 have G_steps_of:=d13.go X G hb fun F=>ahz F T G_forms_of
 have G_Order___init__:KO l.prog w K mg base 5 C "Order" ["self", "rules"] (vD C):=⟨_,_,adI F14 T G_has_rule G_jobs_of G_check_letters G_line_of G_steps_of,⟨mkC,a14,i14,kcC⟩,i4 X G aC,.all (len2 fun _ _=>rfl)⟩
 have G_figures_at:=d15.go X G hb fun F=>afU F T G_is_figure
 have G_part_at:=d16.go X G hb fun F=>ai2 F T G_is_figure G_figures_at
 have G_cut:FO l.prog w K mg base 4 "cut" ["known", "text", "figures"] [.bl false] (qG K):=⟨_,_,amR F17 T G_part_at,i4 X G a17,k17,[.bool false],(fun s us L4 hl=>by obtain ⟨u1,u2,rfl⟩:=amH hl;exact PySem.W.binds_K L4 rfl dl17 rfl rfl rfl),.cons rfl .nil⟩
 have G3_cut:FO l.prog w K mg base 4 "cut" ["known", "text", "figures"] [] (qG K):=⟨_,_,amR F17 T G_part_at,i4 X G a17,k17,[],(fun s us L4 hl=>by obtain ⟨u1,u2,u3,rfl⟩:=al0 hl;exact PySem.W.binds_K L4 rfl dl17 rfl rfl rfl),.nil⟩
 have G_Order_known:MO l.prog w K mg base 1 C "known" ["self"] (vG C):=⟨_,_,aeL F18 T,T.cl,⟨a18,i18,k18⟩,.all (len1 fun _=>rfl)⟩
 have G_Order_steps:MO l.prog w K mg base 1 C "steps" ["self", "piece"] (qH C):=⟨_,_,aeN F19 T,T.cl,⟨a19,i19,k19⟩,.all (len2 fun _ _=>rfl)⟩
 have G_parts_of:=d20.go X G hb fun F=>ahB F T G3_cut G_Order_known
 have G_steps_by:=d21.go X G hb fun F=>ahD F T G_is_figure G_Order_steps
 have G_add_mark:=d22.go X G hb fun F=>ahF F T
 have G_add_part:=d23.go X G hb fun F=>ahG F T G_steps_by G_add_mark
 have G_units:=d24.go X G hb fun F=>aml F T G_parts_of G_add_part
 have G_first_numbers:=d25.go X G hb fun F=>adW F T
 have G_first_level:=d26.go X G hb fun F=>aeO F T G_first_numbers
 have G_second_level:=d27.go X G hb fun F=>aez F T
 have G_third_level:=d28.go X G hb fun F=>aeQ F T
 have G_fourth_level:=d29.go X G hb fun F=>aeB F T
 have G_key:FO l.prog w K mg base 7 "key" ["order", "text", "strength"] [.int 4] (spKey C):=⟨_,_,arh F30 T G_units G_first_level G_second_level G_third_level G_fourth_level,i4 X G a30,k30,[.int 4 _],(fun s us L4 hl=>by obtain ⟨u1,u2,rfl⟩:=amH hl;exact PySem.W.binds_K L4 rfl dl30 rfl rfl rfl),.cons ⟨_,rfl⟩ .nil⟩
 have G_letters_of:=d31.go X G hb fun F=>afZ F T G_units G_first_level
 have G_l_number:=d32.go X G hb fun F=>ahI F T
 have G_l_sign:=d33.go X G hb fun F=>akN F T
 have G_l_rules:=d34.go X G hb fun F=>ai3 F T G_l_sign
 have G_Shelf___init__:KO l.prog w K mg base 1 C_Shelf "Shelf" ["self", "order"] (wC C_Shelf):=⟨_,_,adK F35 T,⟨mkC_Shelf,a35,i35,kcC_Shelf⟩,i4 X G aC_Shelf,.all (len2 fun _ _=>rfl)⟩
 have G_Shelf_put:MO l.prog w K mg base 8 C_Shelf "put" ["self", "text"] (spPut C C_Shelf):=⟨_,_,agV F36 T G_key,T.cl_Shelf,⟨a36,i36,k36⟩,.all (len2 fun _ _=>rfl)⟩
 have G_Shelf_drop:MO l.prog w K mg base 6 C_Shelf "drop" ["self", "text"] (wD C C_Shelf):=⟨_,_,af1 F37 T G_parts_of,T.cl_Shelf,⟨a37,i37,k37⟩,.all (len2 fun _ _=>rfl)⟩
 have G_Shelf_texts:MO l.prog w K mg base 4 C_Shelf "texts" ["self"] (qT C_Shelf pt_Shelf_texts ⟨307,37,307,65⟩ "Shelf.texts.<locals>.<lambda>"):=⟨_,_,aeT F38 BT (.head _) T,T.cl_Shelf,⟨a38,i38,k38⟩,.all (len1 fun _=>rfl)⟩
 have G_Shelf_stretch:MO l.prog w K mg base 1 C_Shelf "stretch" ["self", "numbers"] (wE C_Shelf):=⟨_,_,adX F39 T,T.cl_Shelf,⟨a39,i39,k39⟩,.all (len2 fun _ _=>rfl)⟩
 have G_Shelf_begins:MO l.prog w K mg base 8 C_Shelf "begins" ["self", "text"] (wF C C_Shelf):=⟨_,_,aeD F40 T G_letters_of G_Shelf_stretch,T.cl_Shelf,⟨a40,i40,k40⟩,.all (len2 fun _ _=>rfl)⟩
 have G_l_held:=d41.go X G hb fun F=>akO F T G_Shelf_texts G_Shelf_begins
 have G_l_numbers:=d42.go X G hb fun F=>agW F T
 have G_l_pool:=d43.go X G hb fun F=>akP F T G_l_number
 exact ari F44 T G_Order___init__ G_letters_of G_l_number G_l_rules G_Shelf___init__ G_Shelf_put G_Shelf_drop G_Shelf_texts G_l_held G_l_numbers G_l_pool
theorem walk{l:PySem.W.OpenLaw}{q:Program}{XP:(Str->Option Value)->Heap->Prop}{YP:World->Heap->Prop}{d:DefRec}{K:Params->PySem.W.Frag}(hn:l.most=some 63)(y0:d.params.defaults=[])(hY:∀ (w:World) (h:Heap),YP w h->(K w.params).In h)(hYT:∀ (w:World) (h:Heap),YP w h->PySem.W.TabsAt [(cl_Shelf_texts,pt_Shelf_texts)] h)(hK:∀ P,PySem.W.noTabs (K P)=true)(F:∀ (w:World) (mg:Str->Option Value) (fa:Addr) (h:Heap),(K w.params).In h->h.Ns mainGlobals mg->mg d.name=some (.ref fa)->
   ∃ fd:FuncData,(∀ (s:Shared) (u:Value),BindsTo s fd ⟨[u],[]⟩ [("_law_script",u)])/\∀ base:Heap,(K w.params).In base->base.Ns mainGlobals mg->BaseT mg base [(cl_Shelf_texts,pt_Shelf_texts)]->FnOk l.prog w (K w.params) mg base D9 10 fa fd ["_law_script"] (qW (K w.params) ([(cl_Shelf_texts,pt_Shelf_texts)].map (·.2)))) :
  PySem.W.WalkO q loose XP YP l.row.toRowW d [] (fun f vs=>PySem.call f vs):=
 L2.walk_ofT (n:=63) (k:=10) (x:="_law_script") (CX:=fun _=>D9) (sp:=fun w=>(qW (K w.params) ([(cl_Shelf_texts,pt_Shelf_texts)].map (·.2)))) hn (by decide) y0 ⟨rfl,by decide,by decide,rfl⟩ hY hYT hK F (fun _ _ a ns hl hO hS=>⟨a,ns,rfl,hS,hl,(fun t ht=>by obtain ⟨q,hq,rfl⟩:=E5.mp ht;exact hO.1 q hq),fun _=>rfl⟩) fun _ _ _ _ _ z=>z
end K54
open PySem PySem.W PyProof.Rows
set_option maxRecDepth 100000 in
set_option maxHeartbeats 0 in
theorem PySem.Challenge.cw_sortlore_k54_begins_in_one_stretch_holds : PySem.Challenge.rw_sortlore_k54_begins_in_one_stretch.Holds := by
 w_on;o_law;k_head;(case hw=>w_witness2)
 k_fill
 refine' K54.walk (l:=PySem.Challenge.rw_sortlore_k54_begins_in_one_stretch) rfl rfl (fun w h Y=>PySem.W.km_in_of Y) ?YT ?NT ?F
 case F=>
  intro w mg fa h KX G mM
  refine' K54.all_mk KX G mM ?d0 ?d1 ?d2 ?d3 ?d4 ?d5 ?d6 ?d7 ?d8 ?d9 ?d10 ?d11 ?d12 ?d13 ?a14 ?i14 ?l14 ?c14 ?k14 ?d15 ?d16 ?dl17 ?a17 ?l17 ?c17 ?k17 ?a18 ?i18 ?l18 ?c18 ?k18 ?a19 ?i19 ?l19 ?c19 ?k19 ?d20 ?d21 ?d22 ?d23 ?d24 ?d25 ?d26 ?d27 ?d28 ?d29 ?dl30 ?a30 ?l30 ?c30 ?k30 ?d31 ?d32 ?d33 ?d34 ?a35 ?i35 ?l35 ?c35 ?k35 ?a36 ?i36 ?l36 ?c36 ?k36 ?a37 ?i37 ?l37 ?c37 ?k37 ?a38 ?i38 ?l38 ?c38 ?k38 ?lc38 ?lp38 ?a39 ?i39 ?l39 ?c39 ?k39 ?a40 ?i40 ?l40 ?c40 ?k40 ?d41 ?d42 ?d43 ?a44 ?l44 ?c44 ?k44 ?aC ?pgC ?hdC ?poC ?saC ?mkC ?kcC ?nC_figures ?nC_behind ?nC_jobs ?nC_letter_line ?nC_mark_line ?nC_made ?aC_Shelf ?pgC_Shelf ?hdC_Shelf ?poC_Shelf ?saC_Shelf ?mkC_Shelf ?kcC_Shelf ?nC_order ?nC_kept ?z_any ?z_bool ?z_dict ?z_enumerate ?z_int ?z_isinstance ?z_len ?z_list ?z_min ?z_ord ?z_range ?z_sorted ?z_tuple ?z_zip ?y_JOBS ?d_JOBS ?s_JOBS ?e_JOBS_0 ?e_JOBS_1 ?e_JOBS_2 ?e_JOBS_3 ?e_JOBS_4 ?y_AGAIN ?d_AGAIN ?y_MARK ?y_LETTER ?y_FIGURES
  any_goals (refine' K54.df_mk ?da ?dl ?dc ?dk;(case da=>k_is);(case dl=>k_is);(case dc=>k_is);(case dk=>k_is))
  (case aC=>k_is)
  (case aC_Shelf=>k_is)
  (case a14=>k_is)
  (case i14=>k_is)
  (case l14=>k_is)
  (case c14=>k_is)
  (case k14=>k_is)
  (case a17=>k_is)
  (case l17=>k_is)
  (case c17=>k_is)
  (case k17=>k_is)
  (case a18=>k_is)
  (case i18=>k_is)
  (case l18=>k_is)
  (case c18=>k_is)
  (case k18=>k_is)
  (case a19=>k_is)
  (case i19=>k_is)
  (case l19=>k_is)
  (case c19=>k_is)
  (case k19=>k_is)
  (case a30=>k_is)
  (case l30=>k_is)
  (case c30=>k_is)
  (case k30=>k_is)
  (case a35=>k_is)
  (case i35=>k_is)
  (case l35=>k_is)
  (case c35=>k_is)
  (case k35=>k_is)
  (case a36=>k_is)
  (case i36=>k_is)
  (case l36=>k_is)
  (case c36=>k_is)
  (case k36=>k_is)
  (case a37=>k_is)
  (case i37=>k_is)
  (case l37=>k_is)
  (case c37=>k_is)
  (case k37=>k_is)
  (case a38=>k_is)
  (case i38=>k_is)
  (case l38=>k_is)
  (case c38=>k_is)
  (case k38=>k_is)
  (case lc38=>k_is)
  (case lp38=>rfl)
  (case a39=>k_is)
  (case i39=>k_is)
  (case l39=>k_is)
  (case c39=>k_is)
  (case k39=>k_is)
  (case a40=>k_is)
  (case i40=>k_is)
  (case l40=>k_is)
  (case c40=>k_is)
  (case k40=>k_is)
  (case a44=>k_is)
  (case l44=>k_is)
  (case c44=>k_is)
  (case k44=>k_is)
  (case pgC=>k_is)
  (case hdC=>k_is)
  (case poC=>k_is)
  (case saC=>k_is)
  (case mkC=>k_is)
  (case kcC=>k_is)
  (case nC_figures=>k_is)
  (case nC_behind=>k_is)
  (case nC_jobs=>k_is)
  (case nC_letter_line=>k_is)
  (case nC_mark_line=>k_is)
  (case nC_made=>k_is)
  (case pgC_Shelf=>k_is)
  (case hdC_Shelf=>k_is)
  (case poC_Shelf=>k_is)
  (case saC_Shelf=>k_is)
  (case mkC_Shelf=>k_is)
  (case kcC_Shelf=>k_is)
  (case nC_order=>k_is)
  (case nC_kept=>k_is)
  (case z_any=>k_is)
  (case z_bool=>k_is)
  (case z_dict=>k_is)
  (case z_enumerate=>k_is)
  (case z_int=>k_is)
  (case z_isinstance=>k_is)
  (case z_len=>k_is)
  (case z_list=>k_is)
  (case z_min=>k_is)
  (case z_ord=>k_is)
  (case z_range=>k_is)
  (case z_sorted=>k_is)
  (case z_tuple=>k_is)
  (case z_zip=>k_is)
  (case y_JOBS=>k_is)
  (case d_JOBS=>k_is)
  (case s_JOBS=>rfl)
  (case e_JOBS_0=>rfl)
  (case e_JOBS_1=>rfl)
  (case e_JOBS_2=>rfl)
  (case e_JOBS_3=>rfl)
  (case e_JOBS_4=>rfl)
  (case y_AGAIN=>k_is)
  (case d_AGAIN=>k_is)
  (case y_MARK=>k_is)
  (case y_LETTER=>k_is)
  (case y_FIGURES=>k_is)
  (case dl17=>k_is)
  (case dl30=>k_is)
 case YT=>exact fun w h Y=>List.forall_mem_cons.mpr ⟨⟨PySem.W.codeHd_of_K (PySem.W.km_in_of Y) (by kernel_rfl),PySem.W.km_tabs_of Y _ (by simp)⟩,fun _ h=>nomatch h⟩
 case NT=>exact fun P=>by kernel_rfl
