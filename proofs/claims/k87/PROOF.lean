import PyProof.Rows.All
import Wide.All
import OpenK.AllK
import Wide.FinOn
import Lean
import PyProof.EqAt
import PyProof.EqKinds
import PyProof.TupleCall
import PySem.Challenge.RW_sortlore_k87_rings_and_no_names
set_option compiler.extract_closed false
open List renaming length_map → A4, getElem?_eq_getElem → G8, getElem?_eq_some_iff → J4, length_append → E3, mem_of_getElem? → G2, mem_cons_of_mem → G5, map_cons → D0, length_cons → E8, map_append → E5, mem_cons_self → G9, mem_cons → D7, size_toArray → J7, mem_singleton → K7, take_length → K0, length_take → K3, mem_append → J8, getElem?_map → M0, mem_map → G6, mem_append_right → P2, append_nil → M9, getElem?_append_right → X2, getD_eq_getElem?_getD → X3, not_mem_nil → O2, mem_append_left → T6, mem_filter → N8, getElem?_append_left → Z9, nodup_iff_pairwise_ne → i4, take_of_length_le → X4, take_add_one → R4, replicate → O3, mem_iff_getElem → X5, range → M3, length_nil → T7, mem_iff_getElem? → n9, length_singleton → o0, all_eq_true → b0, append_assoc → i5, filter_append → o1, take_append_drop → aY, nodup_append → o3, foldl_append → o5, mem_range → b8, nodup_cons → i6, length_drop → o7, flatMap_append → aZ, filterMap_cons → bA, pairwise_iff_getElem → eX, length_filter_le → cU, find?_cons → o8, idxOf_lt_length_iff → eY, mem_flatMap → w5, filter_cons_of_pos → eZ, take_zero → o9, flatten_cons → bB, flatMap_cons → bC, filter_eq_nil_iff → fA, countP_cons → bD, sum_cons → p0, map_nil → i7, any_cons → p4, replicate_succ → fB, map_drop → w6, filter_cons_of_neg → iJ, getElem_idxOf → fC, map_map → w8, length_replicate → iK, length_range → fD, range' → x3, map_congr_left → iL, drop_succ_cons → iM, length_erase_of_mem → lX, nil_append → fE, mem_filterMap → iN, drop_of_length_le → lY, getElem_take → iO, map → b9, filterMap_append → lZ, mem_of_mem_take → mB, mem_of_mem_drop → mC
open Nat renaming le_refl → C2, le_trans → F6, ne_of_lt → K4, lt_of_lt_of_le → Q6, zero_le → K8, lt_irrefl → X6, le_add_right → bE, ne_of_gt → x4, min_eq_left → fF
open PySem.W renaming kitOne → D8, findIn → F8, nsIn → E2, mg_of → L6, keepIn → N4, mroIn → N0, mg_none_of → U5, fnOf → O4, codeIn → R5, kia_one → c9, isFn → V4, specialIn → x5, emptyDict → x6, hasDictIn → bF, instObj → bG, takesIn → cV, tailIn → cW, plainGet → fG, callWith_K → iP, nsOkIn → fH, clsIn → fI
open Bool renaming false_ne_true → K9, and_eq_true → P3, eq_iff_iff → cX, true_and → bH, false_xor → fJ
open PySem.F renaming plainAttrs_list → T8, type_list_append → d0, slot_list_append → e8, plainAttrs_str → iQ
open Int renaming emod_nonneg → U6, emod_lt_of_pos → p5, mul_ediv_add_emod → fK, toNat_of_nonneg → iR, toNat_natCast → iS
open PySem.PyData renaming strOk → R0, depthAll → e9, eqvAll → i8, eqv → U7, str → V5, depth → bI
open Array renaming length_toList → bJ, getElem?_eq_some_iff → mD, mem_toList_iff → iT, all_eq_true_iff_forall_mem → qH
open Option renaming toList_some → fL
set_option Elab.async false
set_option linter.all false
set_option maxRecDepth 100000
noncomputable section
set_option genInjectivity false in
set_option genSizeOf false in
structure PySem.W.Fast where (tw17179160548690758422 tw6763505724509026961 tw11497522982588132930 tw1156858081582345109 tw1894348856382720185 tw9554814114707562019 tw8284861526876104413 tw4203788757921408976 tw7124073035976860009 tw4641855132485226894 tw13826932904562809981 tw5323382524411075138 tw8097076302440010168 tw16427285073096960277 tw11942812677951525736 tw15581055187941567934 tw8267804170863390293 tw17507956489982559559 tw16510639690089836495 tw13297507725636326286 tw4675039746199004172 tw780440293190184272 tw5502955536742841161 tw17054711796718789179 tw15986506967950173003 tw4424665979748227425 tw1097507481313666304 tw2860497403439746098 tw11268297308920999847 tw10272645509299879640 tw626134892542709006 tw18137766553775333028 tw8049345590818708675 tw9199102394018984469 tw4234245283470798350 tw17230865696637906769 tw11718625758275818636 tw9077181553786980126 tw12610454977530753475
tw14463420849207666429 tw6016688140029174180 tw10208493115548983721 tw341849300282904088 tw8089981394526369856 tw3341602869703515470 tw1999309302651420945 tw13948356367571436113 tw16544114419183896691 tw12280015278669110729 tw2605184917081023528 tw7342708540590221006 tw14321188233880622460 tw4829453082451929400 tw361168706835736265 tw7659714561737759685 tw14294162071162177460 tw11020975007404266235 tw4954028985430605233 tw11396528597307153782 tw10388968498594767959 tw6812627066277577806 tw15941872074886779493 tw11172394866048463105 tw501673727601077024 tw16462952972393506850 tw13367456317993663009 tw5615167206544795187 tw13105877438497906918 tw1353827608234422761 tw8199265003400932825 tw16737157600281686021 tw10022636908642579074 tw8460044927485211419 tw9602047161495162493 tw4434341951190330440 tw6833187654612270161 tw13025818180561764512 tw3344479806988739928 tw16412422960512022622
tw97995360968084728 tw2010547799997203885 tw15462963829314199566 tw11310285119275486952 tw13863132631845480007 tw12073933353571094227 tw12749767747733518944 tw9013176563052073650 tw9935448134291717605 tw11393360051860805307 tw6399139815995441192 tw17658246710666559109 tw5986054807328297696 tw9408557562888949843 tw15162881346304260823 tw13025130333635380551 tw2009296019097281800 tw13768073322456918906 tw10595919956792039741 tw838787100079258330 tw5681822775847991042 tw18112284209249296389 tw3004775148074647773 tw4794844853819927213 tw7059940689265255393 tw17175769402701277261 tw7190046960168706528 tw15719809428389379824 tw15471894295498460749 tw4980590334303003496 tw665510766521240999 tw11650544534669270675 tw234683139158049944 tw11636574351718876156 tw391759789015575011 tw16846397989712471384 tw13838725959911398749 tw699184513188018513 tw9371173845752357662 tw18407707346690635555
tw492844699584505020 tw13437859392792517295 tw13368688781713659824 tw12342155979330293350 tw9446170142256616524 tw6663050048096312738 tw11315539688761939799 tw12712099727479618558 tw18398055944048106683 tw8282311200799496054 tw7359577098099943738 tw7503481065118441518 tw5604822790625152996 tw6830541917846156805 tw186849442322030230 tw16977787280730994164 tw6823720271547193111 tw3172498388659824123 tw11330891448607638007 tw14514703675949986884 tw14593913746249488084 tw7415224308738309761 tw6159913024566658431 tw9806931884416276116 tw1575671507522113841 tw15086594294647504542 tw18102890661594869546 tw2806433709112894803 tw7116580219302831315 tw7014597182512170342 tw7475576836030588725 tw17670344561709187738 tw5431288569402039838 tw10859960317279429389 tw13909987037745342326 tw10403248077470541085 tw9799072515836311988 tw15536707168470126072 tw8118639608284451508 tw7083593061428766730
tw5272378535352712146 tw15589384741217507827 tw658606550400355963 tw11526004012374628659 tw17226915614737992582 tw5814872363712885177 tw5053838324667219080 tw13939461709441866805 tw7254564443550912204 tw5307136038390528370 tw13651985982151129950 tw15086049934861269047 tw16966287275852893823 tw13157910543148469286 tw18375632768616503472 tw7604080008495230718 tw15603527687779894114 tw14495069292229468719 tw5191956272926478856 tw13695943410394701839 tw203460238752487497 tw12516481014681956831 tw522329009120518804 tw17196820583684601658 tw6403785903158825826 tw15217317436656921125 tw6723451632855882757 tw10964882355162125299 tw791654964429807289 tw16830666812592970042 tw9632589440296105627 tw718100753584804314 tw9798646164596848915 tw12671640204898912676 tw1364964921974084224 tw9835360690737591264 tw2555460265942296151 tw6139677804927655681 tw465588838864038114 tw11948065611658625874
tw621425803005311241 tw6568693362552575521 tw4231577516632456177 tw3306098587725480215 tw3302568503502904576 tw11759049063592889455 tw9256359426915581099 tw16176410003771349761 tw1827953934811178251 tw13426550760260656339 tw11048928557587859165 tw7826550281165332640 tw17746362282271299374 tw5654514457933925364 tw15777092743228683776 tw4164524206582653127 tw16405945876098491987 tw17176520637736315168 tw7311204868169680875 tw12784186748119210719 tw1398198397092926799 tw12948074747659576960 tw10891357247031129595 tw15603705699356284162 tw5822563607805832847 tw11904584709242199713 tw16123416038541353737 tw12481544249064231605 tw9155669265667429119 tw1242750928038232817 tw3481483198450167778 tw8245554349288775345 tw17851894693789473970 tw7239550749626269088 tw3563381321613411338 tw5239281444266615214 tw9420876731055961617 tw15720782561829911909 tw6811730087967264020 tw14616933638890800590
tw5406387573681802105 tw4782392934435580078 tw12701519971750395090 tw263299573144562516 tw13694969529473798121 tw5076938849820849141 tw8301401814415790211 tw11032757058414705676 tw14296461586974465526 tw14038272526449794705 tw8928817012064434656 tw6455863702574485162 tw1007053998900475286 tw8898654197544983319 tw6009974277911090175 tw5314738149753754713 tw13153594840858025327 tw11425451836405619802 tw17848558329665649221 tw7218224428259643284 tw9021651438539261147 tw5307218230621539619 tw15335902686131981837 tw4738514323270301953 tw17872528313373232360 tw2569119339297869568 tw6533469165287571968 tw1241791111334164666 tw10105612546331640502 tw17360578255441936374 tw2653872590689029600 tw899137266316977228 tw8713389728115706630 tw4712340279468850517 tw3637546160741025971 tw8113310916549043585 tw16867268744483503113 tw14274145132620732009 tw10269206186307026446 tw9314802418732046937
tw9693076924528806734 tw10606043480143816522 tw13141127569427572761 tw11550708769463832663 tw12304551515716567704 tw11901167124816974987 tw11869506492641394981 tw4314863615277894292 tw10094563104678314194 tw3876902884356342089 tw17025137896664970003 tw7731485718083671188 tw940354760491862066 tw611606749529729004 tw11679146047738239445 tw9630648627113264149 tw8366813448974096464 tw9029007684946147201 tw6143033545901047938 tw6436963460475268259 tw13024226702029452238 tw114940396983967633 tw6238334367879472761 tw11537330097080994068 tw4130314438047315042 tw15296207421980161273 tw5456987096016813497 tw17935972357091941518 tw14420225269414379739 tw16020541387713074586 tw1470704424701578450 tw3410436991717723560 tw8320813125233674480 tw12671764487609900753 tw3781146908264042272 tw9988525027889004875 tw14304014783542847545 tw9416211970632143396 tw18439273882586210486 tw2919541235825732425
tw2178641699092756893 tw14808850742807198315 tw4470232648615639422 tw18170849867469457168 tw17297457073435870835 tw4281131916005273432 tw8336842664475520150 tw9546591315809612609 tw6587172702521022977 tw6952671030613684616 tw4784252393947658857 tw6909641869439319567 tw13761588253439197172 tw12064551429741636738 tw13462028448815395375 tw5930992799525091937 tw7468312313394086508 tw17763961538028956413 tw14868634505901862765 tw8817738807696948720 tw14844021240011694596 tw8365068956164553836 tw4420968293271915134 tw18400959712939760275 tw884330548767666830 tw2412840044017290669 tw5221635707848454684 tw5410363614526092399 tw464052108919608905 tw12797578392433735956 tw15668371109694027334 tw17542955788028084174 tw4950962109303492092 tw7543160922554876313 tw18073729634363346133 tw11706075453239798647 tw16585719195801096327 tw14019962956487259074 tw1202288262787687544 tw18352470618165001150
tw16978223280126729780 tw6869523406135722357 tw13589928181351944504 tw2698640424036623552 tw14699268504191630735 tw7166890913618691475 tw3366406720917251354 tw2628198286012607303 tw4472133870390936824 tw6177065806586480982 tw9767339265383717056 tw5931037613730409336 tw568042326245084533 tw11385166581367067825 tw7926831182401688573 tw2618077783782469760 tw17175410051013311480 tw9147603161298331464 tw1284936335533189392 tw8125980150040505559 tw6700320262296314219 tw11182220549416614080 tw12668490955149412957 tw17557136509724547858 tw9398944027612620565 tw3126387460156313421 tw11058005434172396743 tw860888644554589095 tw3483409525332319399 tw13965413793964081870 tw17787169773624621568 tw2735018017488753572 tw13095400533306473276 tw478649531623040 tw1106864963182078428 tw13060844298371242690 tw15264963893447817973 tw15709795885932838315 tw14216471229305781035 tw7545038416439664887
tw15033818141004249497 tw13055568164795440953 tw3832504687001446983 tw725950558434007870 tw7813105794978810896 tw2384953767702694215 tw15168267213493294531 tw4521161416266250543 tw30897408878613875 tw14354928890896020628 tw11650453792259338805 tw9795299131277280967 tw6767756098816961040 tw15013855030363612721 tw10060176249268208668 tw3711696472384932406 tw815378060177515533 tw6636714307172964624 tw3987685314323422579 tw8614494499915675614 tw3033903728643787099 tw2672949559395178822 tw3252784756950780138 tw17830660851734771301 tw18140556166151308517 tw13619307062687252741 tw1861675245639710029 tw13825535352829330541 tw3186861131595361776 tw17443835668506984321 tw14783972178627862570 tw16001244392817866112 tw7794902604260505800 tw11301397796724190851 tw4394032338003599452 tw17088467824189770822 tw17022912602057380879 tw2788836367861226373 tw16745810510476175599 tw16159718193550353824
tw11029845839348437638 tw946851466253333411 tw16142461064505024417 tw17714030072151978792 tw15154288838602339922 tw1568688172488478965 tw13095761673874827161 tw6687050538214112117 tw17308847168631456357 tw11115689360113173463 tw15249278713475254699 tw6812092922060168657 tw8468384286937622359 tw13510439120583757349 tw4976912714886094600 tw3035408198824684405 tw15353820688445763953 tw4971145091772276490 tw3030834693247324291 tw8277414856834137840 tw17814354213460082581 tw17590358457266447480 tw2101661469740145945 tw16970507350918166089 tw12036232896433273675 tw15312008827093942947 tw4668657572645416652 tw13464405725743312917 tw6381976362614538313 tw7255794202724145510 tw13295362153066416894 tw10906604608495392820 tw5216503772353951800 tw4926891331240028381 tw15289121550544574824 tw4916780203473476771 tw12187562968094935007 tw5910981063701435927 tw16201775818002965462 tw6565950020628716793
tw4422750811904676175 tw4516687031480023084 tw676171963727357094 tw4456812034474447447 tw4715301310671766318 tw10897604690699562376 tw17366714924630236973 tw15844436731009219796 tw12178621244972219736 tw9536930676989930210 tw4715044907452596073 tw1268711133793659358 tw3753328434400382727 tw4240522830978071550 tw1876992168490774090 tw4256552121040234580 tw2744070287347495755 tw5277326567584585295 tw14392864923159898434 tw1363257257268770724 tw9826080535065326472 tw4528739777054402248 tw16963125739229504451 tw9484593744862119177 tw2878835414514905885 tw13888827010502351115 tw1523813264544296341 tw3715580974564991627 tw3539047771448999391 tw214709633060446424 tw5612115939072469345 tw9900554470558677860 tw1370457624077100857 tw720158215133366671 tw3392221275581820802 tw10607366208621840934 tw2124306380032081123 tw3058306431158224641 tw12328322199963393564 tw2863052947187961034
tw9254477655790133880 tw16047982260222469004 tw9016019205754433447 tw10598642618676265053 tw7084090480148445227 tw4783795521919177255 tw4311306725890011348 tw13569864089316541574 tw16093009552924144331 tw6707399851091862378 tw16079541089039035205 tw17528424816327517186 tw14132208015169324862 tw9142468186106283963 tw8708922929842654487 tw15791268857907899359 tw9795332278866323421 tw8744989754413576092 tw14899500702315396914 tw1261212112002446672 tw3548121268720880930 tw15631729787642470851 tw16404271331595242333 tw13814669083023680181 tw17347480380167079977 tw2648172853181982415 tw18425439784153087335 tw16116739153301663519 tw11090569290208437734 tw1315728190992996298 tw598563116408976575 tw3577056664527642454 tw15290863471086760768 tw8488591003839031286 tw9869951341417125700 tw4550169767804501308 tw786354900120542024 tw17179074916629601251 tw12799135179373572355 tw13015107037244660620
tw10994912277367962236 tw4773748687559775314 tw154588873832525594 tw3051987607874977327 tw13619972724101460905 tw6983077304420781454 tw7477330656084323705 tw9960333622539575242 tw12661002131684294558 tw8169435224425887987 tw13810887844860898503 tw16784866954483527275 tw8203168404565348373 tw12419192075413524466 tw424796831420750789 tw6914184324050915336 tw6789144747345216452 tw5035191160777739511 tw2555061652469363087 tw10149752225125364405 tw1125682551965935885 tw7406851846038985752 tw11346169778517503341 tw388307511356927589 tw14734257905337006332 tw12858295162510814627 tw7502727246063148743 tw14088248676717073993 tw10446202339893885173 tw5377025313100244222 tw14333015571677135892 tw10636233205256442211 tw1264417894640755168 tw15967537054102213725 tw4394242658814920226 tw17004365283995497870 tw12664070826707369355 tw5582534558568699382 tw565823221369434462 tw5604142892940231468
tw9327647195819023925 tw4211972156197521527 tw15845868627156044326 tw16523605891048052218 tw10330539393979213644 tw10485604236162343185 tw6128139381841223904 tw912450847030428933 tw10887274664888804357 tw14877181027722254372 tw9914610882118504495 tw310496105440184763 tw13201842781138293007 tw14064677741402129339 tw2758911272592527783 tw14250826453838984775 tw3417785838315583938 tw1115933469077978490 tw7865397202812283896 tw17061619645092711829 tw10710335210700232397 tw14653403576967281420 tw1276147784607842079 tw10835806939005757162 tw3572512717047558804 tw13004457824968092994 tw2308180459395793502 tw17507053110462620610 tw12656879324941171092 tw2867074581327140866 tw15069455157112859769 tw16550651982380605799 tw11773315096775757143 tw1588286957577949858 tw17397458373571414961 tw10682058020051536697 tw1364795663877403891 tw552273297587203911 tw18178985681673215625 tw6175706984009316702
tw2599755021088263347 tw7293893404309467988 tw17583261769533116997 tw274404748924112025 tw923435897840909096 tw15795060542683343317 tw85532987244844509 tw2171567424245576491 tw16527728733386935903 tw13091483511801363175 tw13543178832661962481 tw7073109102372990345 tw3749412296609513846 tw6615598802444692887 tw16930722973311501282 tw2162497129916886038 tw16120189784600765380 tw16593913590345234550 tw1382055192154629481 tw17517050609391232347 tw1788938190084061936 tw2806633599916077448 tw1048872695170932090:Nat)
set_option maxRecDepth 100000
namespace L2
open PySem PySem.Spec PyProof.Rows
noncomputable abbrev B5:=Sum Int Str
noncomputable def keyIs:B5->Value->Bool
 | .inl k,v=>Value.isInt k v
 | .inr x,v=>Value.isStrOf x v
noncomputable def keyH (w:World):B5->Int
 | .inl k=>hashInt k
 | .inr x=>hashStr w x
theorem i9:∀ {k:B5} {v:Value},keyIs k v=true->(∃ i t,k=Sum.inl i/\v=Value.int i t)\/(∃ x t,k=Sum.inr x/\v=Value.str x t)
 | .inl i,v,h=>by
  obtain ⟨t,e⟩:=Value.isInt_shape (k:=i) (v:=v) h;exact .inl ⟨i,t,rfl,e⟩
 | .inr x,v,h=>by
  obtain ⟨t,e⟩:=Value.isStrOf_shape (x:=x) (v:=v) h;exact .inr ⟨x,t,rfl,e⟩
theorem aiw(i:Int)(t:Tok):keyIs (.inl i) (.int i t)=true:=by simp [keyIs,Value.isInt]
theorem T9(x:Str)(t:Tok):keyIs (.inr x) (.str x t)=true:=by simp [keyIs,Value.isStrOf]
theorem aos(a b:Int):decide ((Sum.inl a:B5)=Sum.inl b)=(a==b):=by
 by_cases e:a=b
 .subst e;simp
 .have h:¬ (Sum.inl a:B5)=Sum.inl b:=fun q=>e (Sum.inl.inj q)
  rw [decide_eq_false h];exact (beq_eq_false_iff_ne.mpr e).symm
theorem aot(a b:Str):decide ((Sum.inr a:B5)=Sum.inr b)=decide (a=b):=by
 by_cases e:a=b
 .subst e;simp
 .have h:¬ (Sum.inr a:B5)=Sum.inr b:=fun q=>e (Sum.inr.inj q)
  rw [decide_eq_false h,decide_eq_false e]
theorem aou(a:Int)(b:Str):decide ((Sum.inl a:B5)=Sum.inr b)=false:=decide_eq_false (fun q=>nomatch q)
theorem aov(a:Str)(b:Int):decide ((Sum.inr a:B5)=Sum.inl b)=false:=decide_eq_false (fun q=>nomatch q)
noncomputable def N3 (prog:Program) (w:World):PySem.KeyKind prog w B5 where
 is:=keyIs
 hash:=keyH w
 inj:=fun v a b ha hb=>by
  rcases i9 ha with ⟨i,t,rfl,rfl⟩ | ⟨x,t,rfl,rfl⟩
  .rcases i9 hb with ⟨j,u,rfl,e⟩ | ⟨y,u,rfl,e⟩
   .injection e with e1 _;rw [e1]
   .exact nomatch e
  .rcases i9 hb with ⟨j,u,rfl,e⟩ | ⟨y,u,rfl,e⟩
   .exact nomatch e
   .injection e with e1 _;rw [e1]
 byValue:=fun k v h=>by
  rcases i9 h with ⟨i,t,rfl,rfl⟩ | ⟨x,t,rfl,rfl⟩ <;> rfl
 pyHash:=fun hv h=>by
  rcases i9 hv with ⟨i,t,rfl,rfl⟩ | ⟨x,t,rfl,rfl⟩
  .exact wpAny_pyHash_int h
  .exact wpAny_pyHash_str h
 eqBool:=fun hu hv h=>by
  rcases i9 hu with ⟨i,t,rfl,rfl⟩ | ⟨x,t,rfl,rfl⟩
  .rcases i9 hv with ⟨j,u,rfl,rfl⟩ | ⟨y,u,rfl,rfl⟩
   .rw [aos] at h;exact wpAny_eqBool_int h
   .rw [aou] at h;exact SeqAt.EqAt.int_str i t y u _ _ _ _ h
  .rcases i9 hv with ⟨j,u,rfl,rfl⟩ | ⟨y,u,rfl,rfl⟩
   .rw [aov] at h;exact SeqAt.EqAt.str_int x t j u _ _ _ _ h
   .rw [aot] at h;exact wpAny_eqBool_str h
 «strs»:=fun k x t v h=>by
  rcases i9 h with ⟨i,u,rfl,e⟩ | ⟨y,u,rfl,e⟩
  .exact nomatch e
  .injection e with e1 _
   subst e1
   cases v <;> rfl
theorem agt(prog:Program)(w:World)(i:Int)(t:Tok):(N3 prog w).is (.inl i) (.int i t)=true:=aiw i t
theorem agu(prog:Program)(w:World)(x:Str)(t:Tok):(N3 prog w).is (.inr x) (.str x t)=true:=T9 x t
end L2
namespace L2
open PySem PySem.Spec PyProof.Rows
inductive V where
 | non | bl (b:Bool) | int (i:Int) | str (x:Str) | byt (b:Array UInt8) | flt (b:UInt64) | ref (a:Addr) | ty (n:String)
 deriving DecidableEq
noncomputable def RelV:V->Value->Prop
 | .non,u=>u=Value.none
 | .bl b,u=>u=Value.bool b
 | .int i,u=>∃ t,u=Value.int i t
 | .str x,u=>∃ t,u=Value.str x t
 | .byt b,u=>∃ t,u=Value.bytes b t
 | .flt b,u=>∃ t,u=Value.float b t
 | .ref a,u=>u=Value.ref a
 | .ty n,u=>u=Value.type n
noncomputable abbrev Vals:List V->List Value->Prop:=Paired RelV
theorem Vals.length{xs:List V}{us:List Value}(r:Vals xs us):xs.length=us.length:=Paired.length r
theorem Vals.get:∀ {xs:List V} {us:List Value} {i:Nat} {x:V},Vals xs us->xs[i]?=some x->∃ u,us[i]?=some u/\RelV x u
 | _,_,_,_,.nil,e=>by simp at e
 | _,_,0,_,.cons r _,e=>by simp at e;subst e;exact ⟨_,rfl,r⟩
 | _,_,i+1,x,.cons _ t,e=>by
  obtain ⟨u,h1,h2⟩:=Vals.get (i:=i) (x:=x) t (by simpa using e);exact ⟨u,by simpa using h1,h2⟩
theorem Vals.set{x:V}{u:Value}(r:RelV x u):∀ {xs:List V} {us:List Value} (i:Nat),Vals xs us->Vals (xs.set i x) (us.set i u)
 | _,_,_,.nil=>.nil
 | _,_,0,.cons _ t=>.cons r t
 | _,_,i+1,.cons q t=>.cons q (Vals.set r i t)
theorem Vals.append:∀ {xs ys:List V} {us ws:List Value},Vals xs us->Vals ys ws->Vals (xs++ys) (us++ws)
 | _,_,_,_,.nil,s=>s
 | _,_,_,_,.cons r t,s=>.cons r (Vals.append t s)
theorem Vals.take:∀ {xs:List V} {us:List Value} (n:Nat),Vals xs us->Vals (xs.take n) (us.take n)
 | _,_,0,_=>.nil
 | _,_,_+1,.nil=>.nil
 | _,_,n+1,.cons r t=>.cons r (Vals.take n t)
theorem Vals.drop:∀ {xs:List V} {us:List Value} (n:Nat),Vals xs us->Vals (xs.drop n) (us.drop n)
 | _,_,0,r=>r
 | _,_,_+1,.nil=>.nil
 | _,_,n+1,.cons _ t=>Vals.drop n t
theorem Vals.none_of:∀ {xs:List V} {us:List Value} {i:Nat},Vals xs us->xs[i]?=none->us[i]?=none:=fun {xs us i} r e=>by
 have h1:=r.length;have h2:xs.length<=i:=List.getElem?_eq_none_iff.mp e;exact List.getElem?_eq_none_iff.mpr (by lia)
noncomputable def RelO:Option V->Option Value->Prop
 | some v,some u=>RelV v u
 | none,none=>True
 | _,_=>False
noncomputable def KV {κ:Type} : List (κ×V)->List (κ×Value)->Prop:=Paired fun (p:κ×V) (q:κ×Value)=>p.1=q.1/\RelV p.2 q.2
noncomputable def kV:B5->V
 | .inl i=>.int i
 | .inr x=>.str x
inductive HO where
 | lst (xs:List V)
 | tup (xs:List V)
 | dK (kvs:List (B5×V)) | dT (kvs:List (List B5×V))
 | set (S:Int->Bool) (n:Nat)
 | ins (C dx:Addr) (fs:List (Str×V))
 | own (x:Addr)
 | xd (fs:List (Str×V))
 | met (f x:Addr)
 | rng (lo hi:Int)
 | frz (o:Obj) (u:HO)
 | tbl (ps:Array Value)
 | ext (φ:Heap->Prop)
noncomputable abbrev Hp:=Addr->Option HO
noncomputable def A0 (H:Hp) (a:Addr) (o:HO):Hp:=fun b=>if b=a then some o else H b
theorem A1{H:Hp}{a:Addr}{o:HO} : A0 H a o a=some o:=by unfold A0;rw [if_pos rfl]
theorem A3{H:Hp}{a b:Addr}{o:HO}(h:b≠a):A0 H a o b=H b:=by unfold A0;rw [if_neg h]
theorem qI{H:Hp}{a:Addr}{o u:HO} : A0 (A0 H a o) a u=A0 H a u:=by
 funext b;unfold A0;split <;> rfl
theorem ne_of{H:Hp}{a b:Addr}{o u:HO}(h:H a=some o)(h':H b=some u)(d:o≠u):a≠b:=by
 intro e;subst e;rw [h] at h';exact d (Option.some.inj h')
theorem M6{H:Hp}{a b:Addr}{o:HO}(h:H a=some o)(h':H b=none):a≠b:=by
 intro e;subst e;rw [h] at h';cases h'
section
variable (P:Program) (w:World)
noncomputable def ObjOk (H:Hp) (h:Heap) (a:Addr):HO->Prop
 | .lst xs=>xs.length<=sizeLine/\∃ (its:List Value) (n:Nat),Vals xs its/\h.get? a=some { cls:=.type "list",data:=.seq its.toArray n }
 | .tup xs=>xs.length<=sizeLine/\∃ its:List Value,Vals xs its/\IsTup h a its.toArray
 | .dK kvs=>kvs.length<=sizeLine/\(a==sysModules)=false/\∃ vs,KV kvs vs/\h.DictOf (N3 P w) a vs
 | .dT kvs=>kvs.length<=sizeLine/\(a==sysModules)=false/\∃ xs:List (List B5×Addr×Value),
   Paired (fun (p:List B5×V) (q:List B5×Addr×Value)=>p.1=q.1/\H q.2.1=some (.tup (p.1.map kV))/\RelV p.2 q.2.2) kvs xs/\
   ∃ o es ep,h.get? a=some o/\o.ExactDict/\o.data=.dict es ep/\es.toList=xs.map (entryOfKey (tupleKind (N3 P w)))/\(xs.map (·.1)).Nodup
 | .set S n=>h.SetOf (intKind P w) a S n
 | .ins C dx fs=>H dx=some (.own a)/\fs.length<=1000/\dx≠a/\h.get? a=some (bG C dx)/\
   ∃ mA,h.Ns1 dx mA/\(∀ f,RelO (fs.lookup f) (mA f))/\PySem.Within mA (fs.map (·.1))
 | .own _=>∃ o,h.get? a=some o
 | .xd fs=>∃ mA,h.Ns1 a mA/\∀ f,RelO (fs.lookup f) (mA f)
 | .rng lo hi=>∃ t u v,h.get? a=some { cls:=.type "range",data:=.fields #[.int lo t,.int hi u,.int 1 v] }
 | .frz o u=>h.get? a=some o/\ObjOk H h a u
 | .tbl ps=>h.get? a=some { cls:=.none,data:=.fields ps }
 | .met f x=>h.get? a=some (PySem.W.methodObj (.ref f) (.ref x))
 | .ext φ=>φ h/\(∃ o,h.get? a=some o)/\∀ h1 h2:Heap,φ h1->(∀ o,h1.get? a=some o->h2.get? a=some o)->φ h2
noncomputable def K1 (H:Hp) (h:Heap):Prop:=∀ a o,H a=some o->ObjOk P w H h a o
end
section
variable {P:Program} {w:World} {H H':Hp} {h h':Heap} {a:Addr} {o:HO}
theorem ObjOk.lt(x:ObjOk P w H h a o):a<h.objs.size:=by
 cases o with
 | lst xs=>obtain ⟨_,_,_,_,e⟩:=x;exact Heap.lt_size e
 | tup xs=>obtain ⟨_,_,_,p⟩:=x;exact p.lt
 | dK kvs=>obtain ⟨_,_,_,_,o,_,_,e,_⟩:=x;exact Heap.lt_size e
 | dT kvs=>obtain ⟨_,_,_,_,o,_,_,e,_⟩:=x;exact Heap.lt_size e
 | set S n=>obtain ⟨o,_,_,_,e,_⟩:=x;exact Heap.lt_size e
 | ins C dx fs=>obtain ⟨_,_,_,e,_⟩:=x;exact Heap.lt_size e
 | own y=>obtain ⟨_,e⟩:=x;exact Heap.lt_size e
 | xd fs=>obtain ⟨_,⟨_,_,_,e,_⟩,_⟩:=x;exact Heap.lt_size e
 | rng lo hi=>obtain ⟨_,_,_,e⟩:=x;exact Heap.lt_size e
 | frz ob u=>obtain ⟨e,_⟩:=x;exact Heap.lt_size e
 | tbl ps=>exact Heap.lt_size (show h.get? a=some _ from x)
 | met f y=>exact Heap.lt_size (show h.get? a=some _ from x)
 | ext φ=>obtain ⟨_,⟨_,e⟩,_⟩:=x;exact Heap.lt_size e
theorem R1{α β:Type}{F G:α->β->Prop} : ∀ {zx:List α} {l₂:List β},Paired F zx l₂->(∀ a b,F a b->G a b)->Paired G zx l₂
 | _,_,.nil,_=>.nil
 | _,_,.cons r t,f=>.cons (f _ _ r) (R1 t f)
theorem ObjOk.stay(x:ObjOk P w H h a o)(k:∀ b u,(b=a\/H b=some (.own a))->h.get? b=some u->h'.get? b=some u)(ho:∀ b,H b=some (.own a)->H' b=some (.own a))(ht:∀ b xs,H b=some (.tup xs)->H' b=some (.tup xs)):ObjOk P w H' h' a o:=by
 induction o with
 | lst xs=>obtain ⟨z,its,n,r,e⟩:=x;exact ⟨z,its,n,r,k _ _ (.inl rfl) e⟩
 | tup xs=>obtain ⟨z,its,r,ob,e,c⟩:=x;exact ⟨z,its,r,ob,k _ _ (.inl rfl) e,c⟩
 | dK kvs=>obtain ⟨z,y,vs,r,ob,es,ep,e,c⟩:=x;exact ⟨z,y,vs,r,ob,es,ep,k _ _ (.inl rfl) e,c⟩
 | dT kvs=>
  obtain ⟨z,y,xs,r,ob,es,ep,e,c⟩:=x;exact ⟨z,y,xs,R1 r fun p q z=>⟨z.1,ht _ _ z.2.1,z.2.2⟩,ob,es,ep,k _ _ (.inl rfl) e,c⟩
 | set S n=>obtain ⟨ob,es,ep,t,e,c⟩:=x;exact ⟨ob,es,ep,t,k _ _ (.inl rfl) e,c⟩
 | ins C dx fs=>
  obtain ⟨d,z,ne,e,mA,⟨od,es,ep,e2,c⟩,r⟩:=x;exact ⟨ho _ d,z,ne,k _ _ (.inl rfl) e,mA,⟨od,es,ep,k _ _ (.inr d) e2,c⟩,r⟩
 | own y=>obtain ⟨ob,e⟩:=x;exact ⟨ob,k _ _ (.inl rfl) e⟩
 | xd fs=>obtain ⟨mA,⟨od,es,ep,e,c⟩,r⟩:=x;exact ⟨mA,⟨od,es,ep,k _ _ (.inl rfl) e,c⟩,r⟩
 | rng lo hi=>obtain ⟨t,u,v,e⟩:=x;exact ⟨t,u,v,k _ _ (.inl rfl) e⟩
 | frz ob u ih=>obtain ⟨e,q⟩:=x;exact ⟨k _ _ (.inl rfl) e,ih q⟩
 | tbl ps=>
  have e:h.get? a=some { cls:=.none,data:=.fields ps }:=x;show h'.get? a=some { cls:=.none,data:=.fields ps };exact k a _ (.inl rfl) e
 | met f y=>
  have e:h.get? a=some (PySem.W.methodObj (.ref f) (.ref y)):=x;show h'.get? a=some (PySem.W.methodObj (.ref f) (.ref y));exact k a _ (.inl rfl) e
 | ext φ=>obtain ⟨p,⟨o,e⟩,st⟩:=x;exact ⟨st _ _ p fun o q=>k _ _ (.inl rfl) q,⟨o,k _ _ (.inl rfl) e⟩,st⟩
theorem K1.lt(x:K1 P w H h)(e:H a=some o):a<h.objs.size:=(x a o e).lt
theorem K1.fresh(x:K1 P w H h)(e:h.objs.size<=a):H a=none:=by
 cases q:H a with
 | none=>rfl
 | some u=>exact absurd (Q6 (x.lt q) e) (X6 _)
theorem K1.kept(x:K1 P w H h)(k:∀ b u,h.get? b=some u->h'.get? b=some u):K1 P w H h':=fun a o e=>
 (x a o e).stay (fun b u _ q=>k b u q) (fun _ q=>q) fun _ _ q=>q
theorem K1.laid(x:K1 P w H h)(k:∀ b u,h.get? b=some u->h'.get? b=some u)(hp:h.objs.size<=a)(new:ObjOk P w (A0 H a o) h' a o):K1 P w (A0 H a o) h':=fun b u e=>by
 have hn:=x.fresh hp
 by_cases hb:b=a
 .subst hb;rw [A1] at e;cases e;exact new
 .rw [A3 hb] at e;exact (x b u e).stay (fun c v _ q=>k c v q) (fun c q=>by rw [A3 (M6 q hn)];exact q) fun c xs q=>by rw [A3 (M6 q hn)];exact q
end
noncomputable def Rd (H:Hp) (a:Addr) (u:HO):Prop:=H a=some u\/∃ o,H a=some (.frz o u)
theorem Rd.of{H:Hp}{a:Addr}{u:HO}(h:H a=some u):Rd H a u:=.inl h
theorem Rd.ok{P:Program}{w:World}{H:Hp}{h:Heap}{a:Addr}{u:HO}(r:Rd H a u)(x:K1 P w H h):ObjOk P w H h a u:=by
 rcases r with r | ⟨o,r⟩
 .exact x a u r
 .obtain ⟨_,q⟩:=x a _ r;exact q
noncomputable def fM:Option HO->Prop
 | some (.lst _)=>True
 | some (.dK _)=>True
 | some (.dT _)=>True
 | some (.set _ _)=>True
 | some (.ins _ _ _)=>True
 | some (.ext _)=>True
 | _=>False
section
variable {P:Program} {w:World} {H:Hp} {h h':Heap} {x e:Addr} {o':HO}
theorem K1.write(ok:K1 P w H h)(mu:fM (H x))(he:e=x\/H e=some (.own x))(k:∀ b u,b≠e->h.get? b=some u->h'.get? b=some u)(gT:∃ u,h'.get? e=some u)(new:ObjOk P w (A0 H x o') h' x o'):K1 P w (A0 H x o') h':=fun b u q=>by
 have nown:∀ c y,H c=some (.own y)->c≠x:=fun c y r z=>by subst z;rw [r] at mu;exact mu
 have ntup:∀ c xs,H c=some (.tup xs)->c≠x:=fun c xs r z=>by subst z;rw [r] at mu;exact mu
 by_cases hb:b=x
 .subst hb;rw [A1] at q;cases q;exact new
 .rw [A3 hb] at q
  by_cases Y7:b=e
  .have q':H b=some (.own x):=by
    rcases he with z | z
    .exact absurd (Y7.trans z) hb
    .rw [Y7];exact z
   rw [q] at q';cases q';obtain ⟨v,hv⟩:=gT;exact ⟨v,by rw [Y7];exact hv⟩
  .refine (ok b u q).stay (fun c v hc r=>k c v ?_ r) (fun c r=>by rw [A3 (nown c b r)];exact r) fun c xs r=>by rw [A3 (ntup c xs r)];exact r
   rcases hc with rfl | hc
   .exact Y7
   .rintro rfl
    rcases he with z | z
    .exact nown c b hc z
    .rw [hc] at z;cases z;exact hb rfl
end
structure Un(fs ex:List Addr)(H H':Hp)(h h':Heap):Prop where
 keep:∀ b o,h.get? b=some o->H b=none->b∉fs->b∉ex->h'.get? b=some o
 slot:∀ b o,h.get? b=some o->H b=none->b∈fs->b∉ex->∃ sl,h'.get? b=some { o with slots:=sl }
 free:∀ b o,h.get? b=some o->H b=none->b∉ex->H' b=none
 there:∀ b o,h.get? b=some o->b∉ex->∃ o',h'.get? b=some o'
 tups:∀ b xs,H b=some (.tup xs)->H' b=some (.tup xs)
 frzs:∀ b o u,H b=some (.frz o u)->H' b=some (.frz o u)
 tbls:∀ b ps,H b=some (.tbl ps)->∃ more,H' b=some (.tbl (ps++more))
section
variable {fs fs' ex ex':List Addr} {H H1 H2:Hp} {h h1 h2 h':Heap} {a x e:Addr} {o:HO}
theorem Un.any(u:Un fs ex H H1 h h1){b:Addr}{ob:Obj}(q:h.get? b=some ob)(n:H b=none)(hx:b∉ex):∃ sl,h1.get? b=some { ob with slots:=sl }:=by
 by_cases hb:b∈fs
 .exact u.slot b ob q n hb hx
 .exact ⟨ob.slots,u.keep b ob q n hb hx⟩
theorem Un.kept(k:∀ b u,h.get? b=some u->h'.get? b=some u):Un fs ex H H h h':=
 ⟨fun b ob q _ _ _=>k b ob q,fun b ob q _ _ _=>⟨ob.slots,k b ob q⟩,fun _ _ _ n _=>n,fun b ob q _=>⟨ob,k b ob q⟩,fun _ _ q=>q,fun _ _ _ q=>q,fun _ ps q=>⟨#[],by rw [q];simp⟩⟩
theorem uak:Un fs ex H H h h:=Un.kept fun _ _ q=>q
theorem Un.laid(k:∀ b u,h.get? b=some u->h'.get? b=some u)(hp:h.objs.size<=a)(hn:H a=none):Un fs ex H (A0 H a o) h h' where
 keep:=fun b u q _ _ _=>k b u q
 slot:=fun b u q _ _ _=>⟨u.slots,k b u q⟩
 free:=fun b u q n _=>by rw [A3 (K4 (Q6 (Heap.lt_size q) hp))];exact n
 there:=fun b u q _=>⟨u,k b u q⟩
 tups:=fun b xs q=>by rw [A3 (M6 q hn)];exact q
 frzs:=fun b u xs q=>by rw [A3 (M6 q hn)];exact q
 tbls:=fun b ps q=>⟨#[],by rw [A3 (M6 q hn),q];simp⟩
theorem Un.write(mu:fM (H x))(he:e=x\/H e=some (.own x))(k:∀ b u,b≠e->h.get? b=some u->h'.get? b=some u)(gT:∃ u,h'.get? e=some u):Un fs ex H (A0 H x o) h h':=by
 have hx:∀ b,H b=none->b≠x:=fun b n z=>by subst z;rw [n] at mu;exact mu
 have hb:∀ b,H b=none->b≠e:=fun b n z=>by
  subst z
  rcases he with r | r
  .exact hx b n r
  .rw [n] at r;cases r
 have hm:∀ b u,H b=some u->¬ fM (some u)->b≠x:=fun b u q nm z=>by subst z;rw [q] at mu;exact nm mu
 refine ⟨fun b u q n _ _=>k b u (hb b n) q,fun b u q n _ _=>⟨u.slots,k b u (hb b n) q⟩,fun b u q n _=>by rw [A3 (hx b n)];exact n,fun b u q _=>?_,
  fun b xs q=>by rw [A3 (hm b _ q fun z=>z)];exact q,fun b u xs q=>by rw [A3 (hm b _ q fun z=>z)];exact q,fun b ps q=>⟨#[],by rw [A3 (hm b _ q fun z=>z),q];simp⟩⟩
 by_cases Y7:b=e
 .subst Y7;exact gT
 .exact ⟨u,k b u Y7 q⟩
end
noncomputable def mE (h:Heap) (H:Hp):List Addr:=(M3 h.objs.size).filter fun a=>(H a).isSome
noncomputable def hidT (h:Heap) (H:Hp):Heap:=PySem.W.hideAll h (mE h H)
theorem aix(h:Heap)(H:Hp):(hidT h H).objs.size=h.objs.size:=PySem.W.hideAll_size _ _
theorem akz{h:Heap}{H:Hp}{b:Addr}{o:Obj}(e:h.get? b=some o)(n:H b=none):(hidT h H).get? b=some o:=
 PySem.W.hideAll_get _ e fun hm=>by
  have q:(H b).isSome=true:=(N8.mp hm).2;rw [n] at q;simp at q
theorem amA{h:Heap}{H:Hp}{b:Addr}{o:Obj}(e:(hidT h H).get? b=some o):h.get? b=some o/\H b=none:=by
 have e':h.get? b=some o:=PySem.W.of_hideAll (mE h H) e;refine ⟨e',?_⟩
 cases q:H b with
 | none=>rfl
 | some x=>
  have hm:b∈mE h H:=N8.mpr ⟨b8.mpr (Heap.lt_size e'),by simp [q]⟩;have z:(hidT h H).get? b=none:=PySem.W.hideAll_none (mE h H) hm;rw [z] at e;cases e
noncomputable def amB (g h:Heap) (L:Addr):List (Addr×Obj):=(M3 h.objs.size).filterMap fun a=>if a=L\/(g.get? a).isSome=true then none else (h.get? a).map fun o=>(a,o)
noncomputable def rest (g h:Heap) (L d:Addr):List (Addr×Obj):=(amB g h L).filter fun p=>decide (p.1≠d)
end L2
namespace L2
open PySem PySem.Spec PyProof.Rows
structure Mod(K:PySem.W.Frag)(mg:Str->Option Value)(base:Heap):Prop where
 kin:K.In base
 glob:base.Ns mainGlobals mg
 blt:∃ mb,base.Ns builtinsNs mb/\∀ x:Str,x≠"__name__"->mb x=bootBuiltins x
 nolimit:base.NoLimit
structure Cx where
 prog:Program
 w:World
 K:PySem.W.Frag
 mg:Str->Option Value
 base:Heap
 A:Around
 N:List Str
 s₀:Shared
 H₀:Hp
 env:Env
 outer:List Env
 stack:List Env
 ex:List Addr
 fn:Str->Bool
 calm:Bool
 pn:List (Addr×Obj)
 xe:Value->Shared->Prop
noncomputable def P8 (l:List Env):List Addr:=l.filterMap (·.frame)
noncomputable abbrev Cx.fs (X:Cx):List Addr:=P8 X.outer
noncomputable def mF (sc:Scope) (x:Str):Prop:=sc.names.lookup x=some .local\/sc.names.lookup x=some .cell\/sc.names.lookup x=some .free
noncomputable def p6 (sc:Scope) (x:Str):Prop:=sc.names.lookup x=some .local\/sc.names.lookup x=some .cell
noncomputable def Look (env:Env) (h:Heap) (m:Str->Option Value) (x:Str) (u:Value):Prop:=
 (env.kindOf x=some .local/\m x=some u)\/((env.kindOf x=some .cell\/env.kindOf x=some .free)/\∃ c,env.cells.lookup x=some c/\h.IsCell c (some u))
structure Cx.Ok(X:Cx):Prop where
 mod:Mod X.K X.mg X.base
 kind:X.env.scope.kind=.function
 glob:X.env.globals=mainGlobals
 blt:X.env.builtins=builtinsNs
 above:X.s₀.heap.objs.size<=X.env.locals
 inj:∀ x y c,X.env.cells.lookup x=some c->X.env.cells.lookup y=some c->x=y
 has:∀ x,(X.env.kindOf x=some .cell\/X.env.kindOf x=some .free)->∃ c,X.env.cells.lookup x=some c
 cab:∀ x c,X.fn x=true->X.env.cells.lookup x=some c->X.s₀.heap.objs.size<=c
 hd:X.calm=true->X.A.handled=none
 frames:X.A.frames=some X.stack
 stk:X.stack=X.outer\/(X.stack=X.env::X.outer/\X.env.frame=some X.env.locals)
 exf:∀ b∈X.ex,b≠X.env.locals/\∀ x c,X.env.cells.lookup x=some c->c≠b
 bs:∀ b o,X.base.get? b=some o->X.s₀.heap.get? b=some o/\X.H₀ b=none
 bsz:X.base.objs.size<=X.s₀.heap.objs.size
 noex:∀ b o,X.base.get? b=some o->b∉X.ex
 exfs:∀ b∈X.ex,b∉X.fs
 funs:X.s₀.heap.FunFrames X.base X.outer
 frf:∀ b∈X.fs,X.H₀ b=none
structure Inv(X:Cx)(pins:List (Addr×Obj))(Y:List (Option V))(H:Hp)(s:Shared):Prop where
 ok:X.Ok
 os:s.os=X.s₀.os
 bare:AllBare s.gens
 base:Un X.fs X.ex X.H₀ H X.s₀.heap s.heap
 loc:∃ m,s.heap.Ns X.env.locals m/\∀ (i:Nat) (x:Str) (v:V),X.N[i]?=some x->Y[i]?=some (some v)->mF X.env.scope x->∃ u,RelV v u/\Look X.env s.heap m x u
 cell:∀ x c,X.env.cells.lookup x=some c->∃ v,s.heap.IsCell c v
 free:H X.env.locals=none
 freeC:∀ x c,X.env.cells.lookup x=some c->H c=none
 pin:∀ p∈X.pn++pins,s.heap.get? p.1=some p.2/\H p.1=none/\p.1≠X.env.locals/\p.1∉X.fs/\∀ v,p.2.data≠.cell v
 hok:K1 X.prog X.w H s.heap
 len:Y.length=X.N.length
section
variable {X:Cx} {pins:List (Addr×Obj)} {Y:List (Option V)} {H H':Hp} {s:Shared} {h':Heap}
theorem Cx.Ok.nofr(ok:X.Ok){b:Addr}{o:Obj}(e:X.base.get? b=some o):b∉X.fs:=fun hb=>by
 have:=(ok.funs.mem hb).1
 rw [e] at this;cases this
theorem Inv.bs(I:Inv X pins Y H s):∀ b o,X.base.get? b=some o->s.heap.get? b=some o/\H b=none:=fun b o e=>
 ⟨I.base.keep b o (I.ok.bs b o e).1 (I.ok.bs b o e).2 (I.ok.nofr e) (I.ok.noex b o e),I.base.free b o (I.ok.bs b o e).1 (I.ok.bs b o e).2 (I.ok.noex b o e)⟩
theorem Inv.bk(I:Inv X pins Y H s):∀ b o,X.base.get? b=some o->s.heap.get? b=some o:=fun b o e=>(I.bs b o e).1
theorem Inv.mod(I:Inv X pins Y H s):Mod X.K X.mg X.base:=I.ok.mod
theorem Inv.kIn(I:Inv X pins Y H s):X.K.In s.heap:=I.ok.mod.kin.keeps I.bk
theorem Inv.lt(I:Inv X pins Y H s):X.env.locals<s.heap.objs.size:=let ⟨_,hn,_⟩:=I.loc;hn.lt
theorem Inv.sz(I:Inv X pins Y H s):X.s₀.heap.objs.size<=s.heap.objs.size:=F6 I.ok.above (Nat.le_of_lt I.lt)
theorem Inv.nofs(I:Inv X pins Y H s){a:Addr}(h:s.heap.objs.size<=a):a∉X.fs:=fun hb=>by
 obtain ⟨_,o,ho,_⟩:=I.ok.funs.mem hb;exact absurd (Q6 (Heap.lt_size ho) (F6 I.sz h)) (X6 _)
theorem Inv.cne(I:Inv X pins Y H s):∀ x c,X.env.cells.lookup x=some c->c≠X.env.locals:=fun x c e z=>by
 obtain ⟨v,o,ho,hd⟩:=I.cell x c e;obtain ⟨m,⟨o',es,ep,k7,vJ,_⟩,_⟩:=I.loc;rw [z,k7] at ho;cases ho;rw [vJ] at hd;cases hd
theorem Inv.funs(I:Inv X pins Y H s):s.heap.FunFrames X.base X.outer:=by
 have all:∀ (l:List Env),(∀ b∈P8 l,b∈X.fs)->X.s₀.heap.FunFrames X.base l->s.heap.FunFrames X.base l:=by
  intro l
  induction l with
  | nil=>intro _ _;trivial
  | cons env r ih=>
   intro hs hl;obtain ⟨hk,⟨L,o,hf,hn,ho,hd⟩,hr⟩:=hl;have hL:L∈X.fs:=hs L (by unfold P8;rw [bA,hf];exact G9);obtain ⟨sl,e⟩:=I.base.slot L o ho (I.ok.frf L hL) hL fun z=>I.ok.exfs L z hL
   exact ⟨hk,⟨L,_,hf,hn,e,hd⟩,ih (fun b hb=>hs b (by unfold P8;rw [bA,hf];exact G5 _ hb)) hr⟩
 exact all X.outer (fun _ hb=>hb) I.ok.funs
theorem Inv.stack(I:Inv X pins Y H s):s.heap.FunFrames X.base X.stack:=by
 rcases I.ok.stk with e | ⟨e,hf⟩
 .rw [e];exact I.funs
 .rw [e];obtain ⟨m,hn,_⟩:=I.loc;refine .cons (by rw [I.ok.kind];decide) hf hn ?_ I.funs;exact Heap.get?_none_of_le (F6 I.ok.bsz I.ok.above)
theorem Inv.stkSub(I:Inv X pins Y H s):∀ b∈P8 X.stack,b∈X.env.locals::X.fs:=fun b hb=>by
 rcases I.ok.stk with e | ⟨e,hf⟩
 .rw [e] at hb;exact G5 _ hb
 .rw [e] at hb;unfold P8 at hb;rw [bA,hf] at hb;exact hb
theorem Inv.stkFree(I:Inv X pins Y H s):∀ b∈P8 X.stack,H b=none:=fun b hb=>by
 rcases D7.mp (I.stkSub b hb) with e | hb
 .rw [e];exact I.free
 .obtain ⟨_,o,ho,_⟩:=I.ok.funs.mem hb;exact I.base.free b o ho (I.ok.frf b hb) fun z=>I.ok.exfs b z hb
theorem Inv.step{g':Array GenState}{t':Nat}{d':Drawn}{ch:List Addr}(I:Inv X pins Y H s)(u7:∀ b∈ch,(b∈X.ex\/X.s₀.heap.objs.size<=b)/\b≠X.env.locals/\(∀ x c,X.env.cells.lookup x=some c->c≠b)/\∀ p∈X.pn++pins,p.1≠b)(keep:∀ b o,b≠X.env.locals->b∉X.fs->b∉ch->s.heap.get? b=some o->H b=none->h'.get? b=some o)(slot:∀ b o,b≠X.env.locals->b∈X.fs->b∉ch->s.heap.get? b=some o->H b=none->∃ sl,h'.get? b=some { o with slots:=sl })(free:∀ b o,b∉ch->s.heap.get? b=some o->H b=none->H' b=none)(there:∀ b o,b∉ch->s.heap.get? b=some o->∃ o',h'.get? b=some o')(tups:∀ b xs,H b=some (.tup xs)->H' b=some (.tup xs))(frzs:∀ b o u,H b=some (.frz o u)->H' b=some (.frz o u))(tbls:∀ b ps,H b=some (.tbl ps)->∃ more,H' b=some (.tbl (ps++more)))(ns:∀ m,s.heap.Ns X.env.locals m->h'.Ns X.env.locals m)(hok:K1 X.prog X.w H' h')(hg:AllBare g') :
  Inv X pins Y H' { s with heap:=h',gens:=g',drawn:=d',toks:=t' }:=by
 have neL:∀ b o,X.s₀.heap.get? b=some o->b≠X.env.locals:=fun b o e=>K4 (Q6 (Heap.lt_size e) I.ok.above)
 have neC:∀ b o,X.s₀.heap.get? b=some o->b∉X.ex->b∉ch:=fun b o e hx hb=>by
  rcases (u7 b hb).1 with z | z
  .exact hx z
  .exact absurd (Q6 (Heap.lt_size e) z) (X6 _)
 have cellK:∀ x c,X.env.cells.lookup x=some c->∀ v,s.heap.IsCell c v->h'.IsCell c v:=fun x c e v ⟨o,ho,hd⟩=>by
  have nch:c∉ch:=fun z=>(u7 c z).2.2.1 x c e rfl
  by_cases hc:c∈X.fs
  .obtain ⟨sl,q⟩:=slot c o (I.cne x c e) hc nch ho (I.freeC x c e);exact ⟨_,q,hd⟩
  .exact ⟨o,keep c o (I.cne x c e) hc nch ho (I.freeC x c e),hd⟩
 refine ⟨I.ok,I.os,hg,⟨fun b o e n hb hx=>?_,fun b o e n hb hx=>?_,fun b o e n hx=>?_,fun b o e hx=>?_,fun b xs e=>tups b xs (I.base.tups b xs e),fun b o xs e=>frzs b o xs (I.base.frzs b o xs e),fun b ps e=>?_⟩,?_,fun x c e=>?_,?_,fun x c e=>?_,fun p hp=>?_,hok,I.len⟩
 .exact keep b o (neL b o e) hb (neC b o e hx) (I.base.keep b o e n hb hx) (I.base.free b o e n hx)
 .obtain ⟨sl,e1⟩:=I.base.slot b o e n hb hx;obtain ⟨sl',e2⟩:=slot b _ (neL b o e) hb (neC b o e hx) e1 (I.base.free b o e n hx);exact ⟨sl',e2⟩
 .obtain ⟨o',e1⟩:=I.base.there b o e hx;exact free b o' (neC b o e hx) e1 (I.base.free b o e n hx)
 .obtain ⟨o',e1⟩:=I.base.there b o e hx;exact there b o' (neC b o e hx) e1
 .obtain ⟨m1,e1⟩:=I.base.tbls b ps e;obtain ⟨m2,e2⟩:=tbls b _ e1;exact ⟨m1++m2,by rw [e2,Array.append_assoc]⟩
 .obtain ⟨m,hn,hl⟩:=I.loc;refine ⟨m,ns m hn,fun i x v e1 e2 e3=>?_⟩;obtain ⟨u,r,l⟩:=hl i x v e1 e2 e3;refine ⟨u,r,?_⟩
  rcases l with l | ⟨k,c,e,z⟩
  .exact .inl l
  .exact .inr ⟨k,c,e,cellK x c e _ z⟩
 .obtain ⟨v,z⟩:=I.cell x c e;exact ⟨v,cellK x c e v z⟩
 .obtain ⟨m,⟨o,_,_,ho,_⟩,_⟩:=I.loc;exact free _ o (fun z=>(u7 _ z).2.1 rfl) ho I.free
 .obtain ⟨v,o,ho,hd⟩:=I.cell x c e;exact free c o (fun z=>(u7 c z).2.2.1 x c e rfl) ho (I.freeC x c e)
 .obtain ⟨e,n,ne,nf,d⟩:=I.pin p hp;have nch:p.1∉ch:=fun z=>(u7 p.1 z).2.2.2 p hp rfl
  exact ⟨keep p.1 p.2 ne nf nch e n,free p.1 p.2 nch e n,ne,nf,d⟩
theorem Inv.un{t':Nat}(I:Inv X pins Y H s)(u:Un X.fs [] H H' s.heap h')(hok:K1 X.prog X.w H' h'):Inv X pins Y H' { s with heap:=h',toks:=t' }:=by
 obtain ⟨m,⟨o,es,ep,ho,r⟩,_⟩:=id I.loc;obtain ⟨sl,hL⟩:=u.any ho I.free (by simp);exact I.step (g':=s.gens) (d':=s.drawn) (ch:=[]) (fun _ z=>nomatch z) (fun b o _ hb _ e n=>u.keep b o e n hb (by simp)) (fun b o _ hb _ e n=>u.slot b o e n hb (by simp)) (fun b o _ e n=>u.free b o e n (by simp)) (fun b o _ e=>u.there b o e (by simp)) u.tups u.frzs u.tbls (fun m' hm=>by
  obtain ⟨o',es',ep',k7,r'⟩:=hm;rw [ho] at k7;cases k7;exact ⟨_,es',ep',hL,r'⟩) hok I.bare
theorem Inv.call{g':Array GenState}{t':Nat}{d':Drawn}{ch:List Addr}(I:Inv X pins Y H s)(u:Un (P8 X.stack) ch H H' s.heap h')(hok:K1 X.prog X.w H' h')(hg:AllBare g')(u7:∀ b∈ch,(b∈X.ex\/X.s₀.heap.objs.size<=b)/\b≠X.env.locals/\(∀ x c,X.env.cells.lookup x=some c->c≠b)/\∀ p∈X.pn++pins,p.1≠b) :
  Inv X pins Y H' { s with heap:=h',gens:=g',drawn:=d',toks:=t' }:=by
 obtain ⟨m,⟨o,es,ep,ho,r⟩,_⟩:=id I.loc;obtain ⟨sl,hL⟩:=u.any ho I.free fun z=>(u7 _ z).2.1 rfl
 exact I.step (ch:=ch) u7 (fun b o hL hb hc e n=>u.keep b o e n (fun z=>(D7.mp (I.stkSub b z)).elim hL hb) hc) (fun b o _ _ hc e n=>u.any e n hc) (fun b o hc e n=>u.free b o e n hc) (fun b o hc e=>u.there b o e hc) u.tups u.frzs u.tbls (fun m' hm=>by
  obtain ⟨o',es',ep',k7,r'⟩:=hm;rw [ho] at k7;cases k7;exact ⟨_,es',ep',hL,r'⟩) hok hg
theorem Inv.turned{t':Nat}{it:Addr}(I:Inv X pins Y H s)(k:∀ b o,b≠it->s.heap.get? b=some o->h'.get? b=some o)(hn:H it=none)(hL:it≠X.env.locals)(h1:it∈X.ex\/X.s₀.heap.objs.size<=it)(h2:∀ x c,X.env.cells.lookup x=some c->c≠it)(h3:∀ p∈X.pn++pins,p.1≠it):Inv X pins Y H { s with heap:=h',toks:=t' }:=by
 have nit:∀ b u,H b=some u->b≠it:=fun b u e z=>by rw [z,hn] at e;cases e
 refine I.step (g':=s.gens) (d':=s.drawn) (ch:=[it]) (fun b hb=>?_) (fun b o _ _ hc e _=>k b o (fun z=>hc (by simp [z])) e) (fun b o _ _ hc e _=>⟨o.slots,k b o (fun z=>hc (by simp [z])) e⟩) (fun _ _ _ _ n=>n)
  (fun b o hc e=>⟨o,k b o (fun z=>hc (by simp [z])) e⟩) (fun _ _ e=>e) (fun _ _ _ e=>e) (fun b ps e=>⟨#[],by rw [e];simp⟩) (fun m hm=>?_) (fun b u e=>?_) I.bare
 .have e:b=it:=by simpa using hb
  subst e;exact ⟨h1,hL,h2,h3⟩
 .obtain ⟨o,es,ep,ho,r⟩:=hm;exact ⟨o,es,ep,k _ o (Ne.symm hL) ho,r⟩
 .refine (I.hok b u e).stay (fun c v hc q=>k c v ?_ q) (fun _ q=>q) fun _ _ q=>q
  rcases hc with z | z
  .rw [z];exact nit b u e
  .exact nit c _ z
theorem Inv.tok(I:Inv X pins Y H s)(t:Nat):Inv X pins Y H { s with toks:=t }:=I.un (h':=s.heap) (t':=t) uak I.hok
theorem Inv.kept{t':Nat}(I:Inv X pins Y H s)(k:∀ b u,s.heap.get? b=some u->h'.get? b=some u):Inv X pins Y H { s with heap:=h',toks:=t' }:=I.un (Un.kept k) (I.hok.kept k)
theorem Inv.laid{a:Addr}{o:HO}{t':Nat}(I:Inv X pins Y H s)(k:∀ b u,s.heap.get? b=some u->h'.get? b=some u)(hp:s.heap.objs.size<=a)(new:ObjOk X.prog X.w (A0 H a o) h' a o) :
  Inv X pins Y (A0 H a o) { s with heap:=h',toks:=t' }:=I.un (Un.laid k hp (I.hok.fresh hp)) (I.hok.laid k hp new)
theorem Inv.write{x e:Addr}{o:HO}{t':Nat}(I:Inv X pins Y H s)(mu:fM (H x))(he:e=x\/H e=some (.own x))(k:∀ b u,b≠e->s.heap.get? b=some u->h'.get? b=some u)(gT:∃ u,h'.get? e=some u)(new:ObjOk X.prog X.w (A0 H x o) h' x o):Inv X pins Y (A0 H x o) { s with heap:=h',toks:=t' }:=I.un (Un.write mu he k gT) (I.hok.write mu he k gT new)
theorem Inv.pins_of{pins':List (Addr×Obj)}(I:Inv X pins Y H s)(h:∀ p∈pins',s.heap.get? p.1=some p.2/\H p.1=none/\p.1≠X.env.locals/\p.1∉X.fs/\∀ v,p.2.data≠.cell v):Inv X pins' Y H s:=
 ⟨I.ok,I.os,I.bare,I.base,I.loc,I.cell,I.free,I.freeC,fun p hp=>(J8.mp hp).elim (fun z=>I.pin p (T6 _ z)) (h p),I.hok,I.len⟩
theorem qJ{N:List Str}(hN:N.Nodup){i j:Nat}{x:Str}(a:N[i]?=some x)(b:N[j]?=some x):i=j:=by
 obtain ⟨h1,e1⟩:=J4.mp a;obtain ⟨h2,e2⟩:=J4.mp b;exact (List.getElem_inj hN).mp (e1.trans e2.symm)
theorem aiy{M:Model}{A:Around}{E:Value->Shared->Prop}{i:Nat}{x:Str}{v:V}{u:Value}{Q:Unit->Shared->Prop}(I:Inv X pins Y H s)(hN:X.N.Nodup)(hi:X.N[i]?=some x)(hx:p6 X.env.scope x)(r:RelV v u)(h:∀ s',Inv X pins (Y.set i (some v)) H s'->(∃ a,Heap.SameBut a s.heap s'.heap/\(a=X.env.locals\/X.env.cells.lookup x=some a))->Q () s')(hf:X.fn x=true\/X.env.scope.names.lookup x=some .local:=by first | exact .inl rfl | exact .inr rfl | assumption):wpAny M A (storeName X.env x u) Q E s:=by
 obtain ⟨m,hn,hl⟩:=id I.loc;have dQ:(X.env.scope.kind == .class || (X.env.scope.kind == .module&&X.env.locals != X.env.globals))=false:=by rw [I.ok.kind];rfl
 have hiσ:i<Y.length:=by rw [I.len];exact (J4.mp hi).1
 have cne:=I.cne;have tracked:∀ {a:Addr} {h':Heap},(∃ o,s.heap.get? a=some o/\H a=none)->Heap.SameBut a s.heap h'->K1 X.prog X.w H h':=fun {a h'} ha hs b ob e=>by
  obtain ⟨_,_,cD⟩:=ha;refine (I.hok b ob e).stay (fun c w' hc q=>(hs.2 c ?_).trans q) (fun _ q=>q) fun _ _ q=>q
  rintro rfl
  rcases hc with rfl | hc
  .rw [cD] at e;cases e
  .rw [cD] at hc;cases hc
 rcases hx with hk | hk
 .refine wpAny_storeName_local hk hn (fun h' gU hs=>?_) dQ;obtain ⟨oL,_,_,hoL,_⟩:=id hn;refine h _ ⟨I.ok,I.os,I.bare,⟨fun b o e n hb hx=>?_,fun b o e n hb hx=>?_,I.base.free,fun b o e hx=>?_,I.base.tups,I.base.frzs,I.base.tbls⟩,⟨_,gU,fun j y v' e1 e2 e3=>?_⟩,fun y c e=>?_,I.free,I.freeC,fun p hp=>?_,tracked ⟨oL,hoL,I.free⟩ hs,by simpa using I.len⟩ ⟨_,hs,.inl rfl⟩
  .exact (hs.2 b (K4 (Q6 (Heap.lt_size e) I.ok.above))).trans (I.base.keep b o e n hb hx)
  .obtain ⟨sl,e1⟩:=I.base.slot b o e n hb hx;exact ⟨sl,(hs.2 b (K4 (Q6 (Heap.lt_size e) I.ok.above))).trans e1⟩
  .obtain ⟨o',e1⟩:=I.base.there b o e hx;exact ⟨o',(hs.2 b (K4 (Q6 (Heap.lt_size e) I.ok.above))).trans e1⟩
  .by_cases hj:j=i
   .subst hj;rw [hi] at e1;cases e1;rw [List.getElem?_set_self hiσ] at e2;cases e2;exact ⟨u,r,.inl ⟨hk,by simp⟩⟩
   .rw [List.getElem?_set_ne (Ne.symm hj)] at e2;obtain ⟨u',r',q⟩:=hl j y v' e1 e2 e3;refine ⟨u',r',?_⟩
    rcases q with ⟨k,e⟩ | ⟨k,c,e,z⟩
    .refine .inl ⟨k,?_⟩
     have:y≠x:=fun e=>hj (qJ hN e1 (e ▸ hi))
     simp [this,e]
    .exact .inr ⟨k,c,e,z.sameBut hs (cne y c e)⟩
  .obtain ⟨w',z⟩:=I.cell y c e;exact ⟨w',z.sameBut hs (cne y c e)⟩
  .obtain ⟨e,n,ne,nf,d⟩:=I.pin p hp;exact ⟨(hs.2 p.1 ne).trans e,n,ne,nf,d⟩
 .have vK:X.fn x=true:=by
   rcases hf with z | z
   .exact z
   .rw [z] at hk;cases hk
  obtain ⟨c,hc⟩:=I.ok.has x (.inl hk);obtain ⟨w',z⟩:=I.cell x c hc;refine wpAny_storeName_cell I.ok.kind hk hc z (fun h' u8 hs=>?_);obtain ⟨oc,vL,vM⟩:=id z;refine h { s with heap:=h' } ⟨I.ok,I.os,I.bare,⟨fun b o e n hb hx=>?_,fun b o e n hb hx=>?_,I.base.free,fun b o e hx=>?_,I.base.tups,I.base.frzs,I.base.tbls⟩,⟨m,hn.sameBut hs (Ne.symm (cne x c hc)),fun j y v' e1 e2 e3=>?_⟩,fun y c' e=>?_,I.free,I.freeC,fun p hp=>?_,tracked ⟨oc,vL,I.freeC x c hc⟩ hs,by simpa using I.len⟩ ⟨c,hs,.inr hc⟩
  .exact (hs.2 b (K4 (Q6 (Heap.lt_size e) (I.ok.cab x c vK hc)))).trans (I.base.keep b o e n hb hx)
  .obtain ⟨sl,e1⟩:=I.base.slot b o e n hb hx;exact ⟨sl,(hs.2 b (K4 (Q6 (Heap.lt_size e) (I.ok.cab x c vK hc)))).trans e1⟩
  .obtain ⟨o',e1⟩:=I.base.there b o e hx;exact ⟨o',(hs.2 b (K4 (Q6 (Heap.lt_size e) (I.ok.cab x c vK hc)))).trans e1⟩
  .by_cases hj:j=i
   .subst hj;rw [hi] at e1;cases e1;rw [List.getElem?_set_self hiσ] at e2;cases e2;exact ⟨u,r,.inr ⟨.inl hk,c,hc,u8⟩⟩
   .rw [List.getElem?_set_ne (Ne.symm hj)] at e2;obtain ⟨u',r',q⟩:=hl j y v' e1 e2 e3;refine ⟨u',r',?_⟩
    rcases q with q | ⟨k,c',e,z'⟩
    .exact .inl q
    .refine .inr ⟨k,c',e,z'.sameBut hs ?_⟩;rintro rfl;exact hj (qJ hN e1 (I.ok.inj _ _ _ e hc ▸ hi))
  .by_cases hcc:c'=c
   .subst hcc;exact ⟨_,u8⟩
   .obtain ⟨w2,z2⟩:=I.cell y c' e;exact ⟨w2,z2.sameBut hs hcc⟩
  .obtain ⟨e,n,ne,nf,d⟩:=I.pin p hp;refine ⟨(hs.2 p.1 ?_).trans e,n,ne,nf,d⟩;intro q;rw [q,vL] at e;have q':oc=p.2:=Option.some.inj e;exact d w' (by rw [<- q'];exact vM)
theorem iU{M:Model}{A:Around}{E:Value->Shared->Prop}{i:Nat}{x:Str}{v:V}{u:Value}{Q:Unit->Shared->Prop}(I:Inv X pins Y H s)(hN:X.N.Nodup)(hi:X.N[i]?=some x)(hx:p6 X.env.scope x)(r:RelV v u)(h:∀ s',Inv X pins (Y.set i (some v)) H s'->Q () s')(hf:X.fn x=true\/X.env.scope.names.lookup x=some .local:=by first | exact .inl rfl | exact .inr rfl | assumption):wpAny M A (storeName X.env x u) Q E s:=
 aiy I hN hi hx r (fun s' I' _=>h s' I') hf
theorem Inv.call'{s':Shared}{ch:List Addr}(I:Inv X pins Y H s)(ho:s'.os=s.os)(u:Un (P8 X.stack) ch H H' s.heap s'.heap)(hok:K1 X.prog X.w H' s'.heap)(hg:AllBare s'.gens)(u7:∀ b∈ch,(b∈X.ex\/X.s₀.heap.objs.size<=b)/\b≠X.env.locals/\(∀ x c,X.env.cells.lookup x=some c->c≠b)/\∀ p∈X.pn++pins,p.1≠b):Inv X pins Y H' s':=by
 obtain ⟨h',g',d',t',o'⟩:=s';have e:o'=s.os:=ho;subst e;exact I.call (g':=g') (t':=t') (d':=d') u hok hg u7
end
noncomputable abbrev XK:=Value->Option Addr->Hp->Prop
noncomputable abbrev St:=List (Option V)
noncomputable abbrev VK:=V->Hp->Prop
noncomputable abbrev TE:=St->Hp->VK->Prop
noncomputable abbrev TT:=St->Hp->(Bool->Hp->Prop)->Prop
noncomputable abbrev TA:=St->Hp->(List V->Hp->Prop)->Prop
structure Ends where
 nx:St->Hp->Prop
 rt:VK
 bk:St->Hp->Prop:=fun _ _=>False
 ct:St->Hp->Prop:=fun _ _=>False
noncomputable abbrev TS:=Ends->St->Hp->Prop
noncomputable def EP (X:Cx) (pins:List (Addr×Obj)) (Y:St) (Q:VK) (u:Value) (s':Shared):Prop:=∃ v H',Inv X pins Y H' s'/\RelV v u/\Q v H'
noncomputable def TP (X:Cx) (pins:List (Addr×Obj)) (Y:St) (Q:Bool->Hp->Prop) (b:Bool) (s':Shared):Prop:=∃ H',Inv X pins Y H' s'/\Q b H'
noncomputable def AP (X:Cx) (pins:List (Addr×Obj)) (Y:St) (Q:List V->Hp->Prop) (us:List Value) (s':Shared):Prop:=∃ vs H',Inv X pins Y H' s'/\Vals vs us/\Q vs H'
noncomputable def SP (X:Cx) (pins:List (Addr×Obj)) (D:Ends) (f:Flow) (s':Shared):Prop:=
 match f with
 | .next=>∃ σ' H',Inv X pins σ' H' s'/\D.nx σ' H'
 | .brk=>∃ σ' H',Inv X pins σ' H' s'/\D.bk σ' H'
 | .cont=>∃ σ' H',Inv X pins σ' H' s'/\D.ct σ' H'
 | .ret u=>∃ v σ' H',Inv X pins σ' H' s'/\RelV v u/\D.rt v H'
noncomputable def PE (X:Cx) (e:Expr) (t:TE):Prop:=
 ∀ (pins:List (Addr×Obj)) (s:Shared) (Y:St) (H:Hp) (Q:VK),Inv X pins Y H s->t Y H Q->wpAny (model X.prog X.w) X.A (eval e X.env) (EP X pins Y Q) X.xe s
noncomputable def PT (X:Cx) (e:Expr) (t:TT):Prop:=
 ∀ (pins:List (Addr×Obj)) (s:Shared) (Y:St) (H:Hp) (Q:Bool->Hp->Prop),Inv X pins Y H s->t Y H Q->wpAny (model X.prog X.w) X.A (isTrue e X.env (eval e X.env)) (TP X pins Y Q) X.xe s
noncomputable def PW (X:Cx) (e:Expr) (t:TT):Prop:=
 ∀ (whole:Sem Value) (pins:List (Addr×Obj)) (s:Shared) (Y:St) (H:Hp) (Q:Bool->Hp->Prop),Inv X pins Y H s->t Y H Q->wpAny (model X.prog X.w) X.A (isTrue e X.env whole) (TP X pins Y Q) X.xe s
theorem PW.pt{X:Cx}{e:Expr}{t:TT}(h:PW X e t):PT X e t:=h _
noncomputable def PA (X:Cx) (es:List Expr) (t:TA):Prop:=
 ∀ (pos:Pos) (pins:List (Addr×Obj)) (s:Shared) (Y:St) (H:Hp) (Q:List V->Hp->Prop),Inv X pins Y H s->t Y H Q->wpAny (model X.prog X.w) X.A (spliced (backTo pos (starEach es X.env))) (AP X pins Y Q) X.xe s
noncomputable def PS (X:Cx) (st:Stmt) (t:TS):Prop:=
 ∀ (pins:List (Addr×Obj)) (s:Shared) (Y:St) (H:Hp) (D:Ends),Inv X pins Y H s->t D Y H->wpAny (model X.prog X.w) X.A (exec st X.env) (SP X pins D) X.xe s
noncomputable def U0 (X:Cx) (st:List Stmt) (t:TS):Prop:=
 ∀ (pins:List (Addr×Obj)) (s:Shared) (Y:St) (H:Hp) (D:Ends),Inv X pins Y H s->t D Y H->wpAny (model X.prog X.w) X.A (execs st X.env) (SP X pins D) X.xe s
theorem A8{α:Type}{t:Sem α}{Q Q':α->Shared->Prop}{M:Model}{A:Around}{E:Value->Shared->Prop}{s:Shared}(h:wpAny M A t Q E s)(hQ:∀ a s,Q a s->Q' a s):wpAny M A t Q' E s:=wpAny_mono h hQ fun _ _ x=>x
end L2
namespace L2
open PySem PySem.Spec PyProof.Rows
section
variable {X:Cx}
noncomputable def tVar (i:Nat):TE:=fun Y H Q=>∃ v,Y[i]?=some (some v)/\Q v H
noncomputable def tC (v:V):TE:=fun _ H Q=>Q v H
theorem yA{i:Nat}{x:Str}{pos:Pos}(hN:X.N[i]?=some x)(hv:mF X.env.scope x)(hd:(x==("__debug__" : Str))=false:=by decide)(U2:(x==("__classdict__" : Str))=false:=by decide):PE X (.Name x pos) (tVar i):=by
 intro pins s Y H Q I h;obtain ⟨v,e,h⟩:=h;obtain ⟨m,hn,hl⟩:=I.loc;obtain ⟨u,r,l⟩:=hl i x v hN e hv;have fin:EP X pins Y Q u s:=⟨v,H,I,r,h⟩
 rcases l with ⟨hk,hm⟩ | ⟨hk,c,hc,M8⟩
 .exact wpAny_Name (wpAny_loadName_local I.ok.kind hk hn hm fin) hd
 .rcases hk with hk | hk
  .exact wpAny_Name (wpAny_loadName_cell I.ok.kind hk hc M8 fin) hd
  .exact wpAny_Name (wpAny_loadName_free I.ok.kind hk hc M8 fin U2) hd
theorem yB{i j pos} : PE X (.Constant (.int i) j pos) (tC (.int i)):=fun _ _ _ H _ I h=>wpAny_Constant_int ⟨.int i,H,I.tok _,⟨_,rfl⟩,h⟩
theorem pe_bl{b j pos} : PE X (.Constant (.bool b) j pos) (tC (.bl b)):=fun _ _ _ H _ I h=>Constant_bool ⟨.bl b,H,I,rfl,h⟩
theorem aow{j pos} : PE X (.Constant .none j pos) (tC .non):=fun _ _ _ H _ I h=>Constant_none ⟨.non,H,I,rfl,h⟩
theorem aox{x j pos} : PE X (.Constant (.str x) j pos) (tC (.str x)):=fun _ _ _ H _ I h=>Calls.Constant_str ⟨.str x,H,I.tok _,⟨_,rfl⟩,h⟩
noncomputable def Gl (X:Cx) (x:Str):Prop:=X.env.kindOf x=some .globalImplicit
theorem fO{E:Value->Shared->Prop}{pins:List (Addr×Obj)}{s:Shared}{Y:St}{H:Hp}{x:Str}{u:Value}{pos:Pos}{Q:Value->Shared->Prop}(I:Inv X pins Y H s)(hg:Gl X x)(hm:X.mg x=some u)(h:Q u s)(hd:(x==("__debug__" : Str))=false:=by decide):wpAny (model X.prog X.w) X.A (eval (.Name x pos) X.env) Q E s:=
 Calls.Name_function_global I.ok.kind hg (Calls.loadGlobal_global (by rw [I.ok.glob];exact I.mod.glob.keeps I.bk) hm h) hd
theorem x8{E:Value->Shared->Prop}{pins:List (Addr×Obj)}{s:Shared}{Y:St}{H:Hp}{x:Str}{u:Value}{pos:Pos}{Q:Value->Shared->Prop}(I:Inv X pins Y H s)(hg:Gl X x)(hm:X.mg x=none)(hv:bootBuiltins x=some u)(h:Q u s)(hn:x≠"__name__":=by decide)(hd:(x==("__debug__" : Str))=false:=by decide):wpAny (model X.prog X.w) X.A (eval (.Name x pos) X.env) Q E s:=by
 obtain ⟨mb,h1,h2⟩:=I.mod.blt;exact Calls.Name_function_global I.ok.kind hg (Calls.loadGlobal_builtin (by rw [I.ok.glob];exact I.mod.glob.keeps I.bk) hm (by rw [I.ok.blt];exact h1.keeps I.bk) ((h2 x hn).trans hv) h) hd
theorem yC{x:Str}{v:V}{u:Value}{pos:Pos}(hg:Gl X x)(hm:X.mg x=some u)(r:RelV v u)(hd:(x==("__debug__" : Str))=false:=by decide):PE X (.Name x pos) (tC v):=
 fun _ _ _ H _ I h=>fO I hg hm ⟨v,H,I,r,h⟩ hd
theorem amC{x:Str}{v:V}{u:Value}{pos:Pos}(hg:Gl X x)(hm:X.mg x=none)(hv:bootBuiltins x=some u)(r:RelV v u)(hn:x≠"__name__":=by decide)(hd:(x==("__debug__" : Str))=false:=by decide):PE X (.Name x pos) (tC v):=
 fun _ _ _ H _ I h=>x8 I hg hm hv ⟨v,H,I,r,h⟩ hn hd
variable {a b:Expr} {ta tb:TE} {pos:Pos}
noncomputable def tB (t:TE):TT:=fun Y H Q=>t Y H fun x H1=>∃ c,x=.bl c/\Q c H1
variable {tA tB':TT} {rest:List Expr}
noncomputable def tAnd (t u:TT):TT:=fun Y H Q=>t Y H fun c H1=>if c=true then u Y H1 Q else Q false H1
noncomputable def qK (t u:TT):TT:=fun Y H Q=>t Y H fun c H1=>if c=true then Q true H1 else u Y H1 Q
noncomputable def tNot (t:TT):TT:=fun Y H Q=>t Y H fun c H1=>Q (!c) H1
theorem amD(ha:PT X a tA):PW X (.BoolOp .And [a] pos) tA:=by
 intro wh pins s Y H Q I h;refine isTrue_and (A8 (ha pins s Y H Q I h) fun c s1 e=>?_)
 cases c with
 | true=>exact isTrue_and_nil e
 | false=>exact e
theorem aoy(ha:PT X a tA):PW X (.BoolOp .Or [a] pos) tA:=by
 intro wh pins s Y H Q I h;refine isTrue_or (A8 (ha pins s Y H Q I h) fun c s1 e=>?_)
 cases c with
 | false=>exact isTrue_or_nil e
 | true=>exact e
theorem aoz(ha:PT X a tA)(hb:PW X (.BoolOp .And (b::rest) pos) tB'):PW X (.BoolOp .And (a::b::rest) pos) (tAnd tA tB'):=by
 intro wh pins s Y H Q I h;refine isTrue_and (A8 (ha pins s Y H _ I h) fun c s1 ⟨H1,I1,q1⟩=>?_)
 cases c with
 | true=>exact hb wh pins s1 Y H1 Q I1 q1
 | false=>exact ⟨H1,I1,q1⟩
theorem pw_or(ha:PT X a tA)(hb:PW X (.BoolOp .Or (b::rest) pos) tB'):PW X (.BoolOp .Or (a::b::rest) pos) (qK tA tB'):=by
 intro wh pins s Y H Q I h;refine isTrue_or (A8 (ha pins s Y H _ I h) fun c s1 ⟨H1,I1,q1⟩=>?_)
 cases c with
 | true=>exact ⟨H1,I1,q1⟩
 | false=>exact hb wh pins s1 Y H1 Q I1 q1
theorem aoA(ha:PT X a tA):PT X (.UnaryOp .Not a pos) (tNot tA):=by
 intro pins s Y H Q I h;exact isTrue_not (ha pins s Y H (fun c H1=>Q (!c) H1) I h)
noncomputable def tAndV (ta tb:TE):TE:=fun Y H Q=>ta Y H fun x H1=>∃ c,x=.bl c/\if c=true then tb Y H1 Q else Q (.bl false) H1
noncomputable def tOrV (ta tb:TE):TE:=fun Y H Q=>ta Y H fun x H1=>∃ c,x=.bl c/\if c=true then Q (.bl true) H1 else tb Y H1 Q
noncomputable def tNotV (ta:TE):TE:=fun Y H Q=>ta Y H fun x H1=>∃ c,x=.bl c/\Q (.bl (!c)) H1
theorem aoB{op}{t:TE}(h:PE X a t):PE X (.BoolOp op [a] pos) t:=fun pins s Y H Q I hw=>BoolOp_one (h pins s Y H Q I hw)
theorem aoC(ha:PE X a ta)(hb:PE X (.BoolOp .And (b::rest) pos) tb):PE X (.BoolOp .And (a::b::rest) pos) (tAndV ta tb):=by
 intro pins s Y H Q I h;refine BoolOp_and (A8 (ha pins s Y H _ I h) fun v s1 ⟨x,H1,I1,r1,q1⟩=>?_);obtain ⟨c,rfl,q1⟩:=q1
 cases r1
 refine wpAny_truthy_bool ?_
 cases c with
 | true=>exact hb pins s1 Y H1 Q I1 q1
 | false=>exact ⟨.bl false,H1,I1,rfl,q1⟩
noncomputable def qL (t:TT) (ta tb:TE):TE:=fun Y H Q=>t Y H fun c H1=>if c=true then ta Y H1 Q else tb Y H1 Q
theorem akA{c:Expr}(hc:PT X c tA)(ha:PE X a ta)(hb:PE X b tb):PE X (.IfExp c a b pos) (qL tA ta tb):=by
 intro pins s Y H Q I h;refine wpAny_IfExp (A8 (hc pins s Y H _ I h) fun d s1 ⟨H1,I1,q1⟩=>?_)
 cases d with
 | true=>exact ha pins s1 Y H1 Q I1 q1
 | false=>exact hb pins s1 Y H1 Q I1 q1
end
end L2
namespace L2
open PySem PySem.Spec PyProof.Rows
noncomputable def D1 (K:PySem.W.Frag) (H:Hp) (a:Addr) (xs:List V):Prop:=
 Rd H a (.lst xs)\/
  ∃ (o:Obj) (its:Array Value) (n:Nat),K.lookup a=some o/\o.cls=.type "list"/\o.dict=none/\o.data=.seq its n/\its.size<=sizeLine/\Vals xs its.toList
noncomputable def C8 (K:PySem.W.Frag) (H:Hp) (a:Addr) (xs:List V):Prop:=
 Rd H a (.tup xs)\/
  ∃ (o:Obj) (its:Array Value) (n:Nat),K.lookup a=some o/\o.cls=.type "tuple"/\o.data=.seq its n/\its.size<=sizeLine/\Vals xs its.toList
noncomputable def absV:Value->Option V
 | .none=>some .non
 | .bool b=>some (.bl b)
 | .int i _=>some (.int i)
 | .str x _=>some (.str x)
 | .bytes b _=>some (.byt b)
 | .float b _=>some (.flt b)
 | .ref a=>some (.ref a)
 | .type n=>some (.ty n)
 | _=>none
theorem RelV.abs{x:V}{u:Value}(r:RelV x u):absV u=some x:=by
 cases x with
 | non=>cases r;rfl
 | bl _=>cases r;rfl
 | int _=>obtain ⟨t,rfl⟩:=r;rfl
 | str _=>obtain ⟨t,rfl⟩:=r;rfl
 | byt _=>obtain ⟨t,rfl⟩:=r;rfl
 | flt _=>obtain ⟨t,rfl⟩:=r;rfl
 | ref _=>cases r;rfl
 | ty _=>cases r;rfl
theorem RelV.inj{x y:V}{u:Value}(r:RelV x u)(q:RelV y u):x=y:=Option.some.inj (r.abs.symm.trans q.abs)
theorem Vals.inj:∀ {xs ys:List V} {us:List Value},Vals xs us->Vals ys us->xs=ys
 | _,_,_,.nil,.nil=>rfl
 | _,_,_,.cons r t,.cons r' t'=>by rw [r.inj r',Vals.inj t t']
section
variable {X:Cx} {pins:List (Addr×Obj)} {Y:St} {H:Hp} {s:Shared} {a:Addr} {xs ys:List V}
theorem D1.of{K:PySem.W.Frag}(h:H a=some (.lst xs)):D1 K H a xs:=.inl (.inl h)
theorem C8.of{K:PySem.W.Frag}(h:H a=some (.tup xs)):C8 K H a xs:=.inl (.inl h)
theorem Inv.list(I:Inv X pins Y H s)(h:D1 X.K H a xs):∃ its:List Value,Vals xs its/\PlainL s.heap a its.toArray/\xs.length<=sizeLine:=by
 rcases h with h | ⟨o,its,n,hk,hc,hd,hs,hz,r⟩
 .obtain ⟨z,its,n,r,e⟩:=h.ok I.hok;exact ⟨its,r,⟨_,n,e,rfl,rfl,rfl⟩,z⟩
 .refine ⟨its.toList,r,⟨o,n,I.kIn a o hk,hc,hd,by simpa using hs⟩,?_⟩;have e:=r.length;simp only [bJ] at e;lia
theorem Inv.tuple(I:Inv X pins Y H s)(h:C8 X.K H a xs):∃ its:List Value,Vals xs its/\IsTup s.heap a its.toArray/\xs.length<=sizeLine:=by
 rcases h with h | ⟨o,its,n,hk,hc,hs,hz,r⟩
 .obtain ⟨z,its,r,p⟩:=h.ok I.hok;exact ⟨its,r,p,z⟩
 .refine ⟨its.toList,r,⟨o,I.kIn a o hk,hc,n,by simpa using hs⟩,?_⟩;have e:=r.length;simp only [bJ] at e;lia
theorem Inv.list_inj(I:Inv X pins Y H s)(h:D1 X.K H a xs)(h':D1 X.K H a ys):xs=ys:=by
 obtain ⟨its,r,⟨o,n,e,_,_,d⟩,_⟩:=I.list h;obtain ⟨its',r',⟨o',n',e',_,_,d'⟩,_⟩:=I.list h';rw [e] at e';cases e';rw [d] at d'
 injection d' with d1 _
 have:its=its':=by simpa using congrArg Array.toList d1
 subst this;exact r.inj r'
theorem Inv.tuple_inj(I:Inv X pins Y H s)(h:C8 X.K H a xs)(h':C8 X.K H a ys):xs=ys:=by
 obtain ⟨its,r,⟨o,e,_,n,d⟩,_⟩:=I.tuple h;obtain ⟨its',r',⟨o',e',_,n',d'⟩,_⟩:=I.tuple h';rw [e] at e';cases e';rw [d] at d'
 injection d' with d1 _
 have:its=its':=by simpa using congrArg Array.toList d1
 subst this;exact r.inj r'
end
noncomputable abbrev Cx.wish (X:Cx) (E:Value->Shared->Prop):Cx:={ X with xe:=E }
noncomputable abbrev Cx.nox (X:Cx):Cx:=X.wish fun _ _=>False
theorem Cx.Ok.wish{X:Cx}(ok:X.Ok)(E:Value->Shared->Prop):(X.wish E).Ok:=
 ⟨ok.mod,ok.kind,ok.glob,ok.blt,ok.above,ok.inj,ok.has,ok.cab,ok.hd,ok.frames,ok.stk,ok.exf,ok.bs,ok.bsz,ok.noex,ok.exfs,ok.funs,ok.frf⟩
theorem Cx.Ok.unwish{X:Cx}{E:Value->Shared->Prop}(ok:(X.wish E).Ok):X.Ok:=
 ⟨ok.mod,ok.kind,ok.glob,ok.blt,ok.above,ok.inj,ok.has,ok.cab,ok.hd,ok.frames,ok.stk,ok.exf,ok.bs,ok.bsz,ok.noex,ok.exfs,ok.funs,ok.frf⟩
section
variable {X:Cx} {pins:List (Addr×Obj)} {Y:St} {H:Hp} {s:Shared} {E:Value->Shared->Prop}
theorem Inv.wish(I:Inv X pins Y H s)(E:Value->Shared->Prop):Inv (X.wish E) pins Y H s:=⟨I.ok.wish E,I.os,I.bare,I.base,I.loc,I.cell,I.free,I.freeC,I.pin,I.hok,I.len⟩
theorem Inv.unwish(I:Inv (X.wish E) pins Y H s):Inv X pins Y H s:=⟨I.ok.unwish,I.os,I.bare,I.base,I.loc,I.cell,I.free,I.freeC,I.pin,I.hok,I.len⟩
theorem SP.unwish{D:Ends}{f:Flow}{s':Shared}(h:SP (X.wish E) pins D f s'):SP X pins D f s':=by
 cases f with
 | next=>obtain ⟨σ',H',I,q⟩:=h;exact ⟨σ',H',I.unwish,q⟩
 | brk=>obtain ⟨σ',H',I,q⟩:=h;exact ⟨σ',H',I.unwish,q⟩
 | cont=>obtain ⟨σ',H',I,q⟩:=h;exact ⟨σ',H',I.unwish,q⟩
 | ret u=>obtain ⟨v,σ',H',I,r,q⟩:=h;exact ⟨v,σ',H',I.unwish,r,q⟩
theorem U0.nox{st:List Stmt}{t:TS}(h:U0 X.nox st t):U0 X st t:=fun pins s Y H D I hw=>
 wpAny_mono (h pins s Y H D (I.wish _) hw) (fun _ _ q=>q.unwish) fun _ _ z=>False.elim z
end
section
variable {X:Cx} {st:Stmt} {rest:List Stmt} {t u:TS} {e:Expr} {te:TE} {pos:Pos}
noncomputable def tNext:TS:=fun D Y H=>D.nx Y H
noncomputable def tSeq (t u:TS):TS:=fun D Y H=>t { D with nx:=u D } Y H
theorem amE:U0 X [] tNext:=fun _ _ Y H _ I h=>wpAny_execs_nil ⟨Y,H,I,h⟩
theorem akB(h1:PS X st t)(h2:U0 X rest u):U0 X (st::rest) (tSeq t u):=by
 intro pins s Y H D I h;refine wpAny_execs_cons (A8 (h1 pins s Y H { D with nx:=u D } I h) fun f s1 q=>?_)
 cases f with
 | next=>
  obtain ⟨σ',H',I',q⟩:=q;exact h2 pins s1 σ' H' D I' q
 | ret v=>exact q
 | brk=>exact q
 | cont=>exact q
theorem amF(h1:PS X st t):U0 X [st] t:=by
 intro pins s Y H D I h;refine wpAny_execs_cons (A8 (h1 pins s Y H D I h) fun f s1 q=>?_)
 cases f with
 | next=>exact wpAny_execs_nil q
 | ret v=>exact q
 | brk=>exact q
 | cont=>exact q
noncomputable def aoD:TS:=fun D Y H=>D.bk Y H
noncomputable def tCont:TS:=fun D Y H=>D.ct Y H
theorem Inv.quiet{pins:List (Addr×Obj)}{Y:St}{H:Hp}{s:Shared}(I:Inv X pins Y H s):interactive X.env=false:=by simp [interactive,I.ok.kind]
noncomputable def tDrop (te:TE):TS:=fun D Y H=>te Y H fun _ H1=>D.nx Y H1
theorem amG(he:PE X e te)(hs:swapsWith e none pos.line X.env=pure false:=by rfl):PS X (.Expr e pos) (tDrop te):=by
 intro pins s Y H D I h;exact wpAny_Expr_any (A8 (he pins s Y H _ I h) fun v s1 ⟨x,H1,I1,r1,q1⟩=>⟨Y,H1,I1,q1⟩) I.quiet hs
noncomputable def tRet (te:TE):TS:=fun D Y H=>te Y H D.rt
theorem aoE(he:PE X e te):PS X (.Return (some e) pos) (tRet te):=by
 intro pins s Y H D I h;exact wpAny_Return_some (A8 (he pins s Y H _ I h) fun v s1 ⟨x,H1,I1,r1,q1⟩=>⟨x,Y,H1,I1,r1,q1⟩)
noncomputable def tRetN:TS:=fun D _ H=>D.rt .non H
noncomputable def tIfS (c:TT) (t u:TS):TS:=fun D Y H=>c Y H fun b H1=>if b=true then t D Y H1 else u D Y H1
theorem ps_if{c:Expr}{a b:List Stmt}{tc:TT}(hc:PT X c tc)(ha:U0 X a t)(hb:U0 X b u):PS X (.If c a b pos) (tIfS tc t u):=by
 intro pins s Y H D I h;refine wpAny_If (A8 (hc pins s Y H _ I h) fun d s1 ⟨H1,I1,q1⟩=>?_)
 cases d with
 | true=>exact ha pins s1 Y H1 D I1 q1
 | false=>exact hb pins s1 Y H1 D I1 q1
noncomputable def qM:TS:=fun _ _ _=>False
theorem akC:PS X st qM:=fun _ _ _ _ _ _ h=>h.elim
end
noncomputable abbrev TG:=V->St->Hp->(St->Hp->Prop)->Prop
noncomputable abbrev f6:=List V->St->Hp->(St->Hp->Prop)->Prop
noncomputable def PG (X:Cx) (target:Expr) (t:TG):Prop:=
 ∀ (pins:List (Addr×Obj)) (s:Shared) (Y:St) (H:Hp) (v:V) (u:Value) (Q:St->Hp->Prop),Inv X pins Y H s->RelV v u->t v Y H Q->
  wpAny (model X.prog X.w) X.A (assign target X.env u) (fun _ s'=>∃ σ' H',Inv X pins σ' H' s'/\Q σ' H') X.xe s
noncomputable def iV (X:Cx) (ts:List Expr) (t:f6):Prop:=
 ∀ (pins:List (Addr×Obj)) (s:Shared) (Y:St) (H:Hp) (vs:List V) (us:List Value) (Q:St->Hp->Prop),Inv X pins Y H s->Vals vs us->t vs Y H Q->
  wpAny (model X.prog X.w) X.A (assignInOrder ((assignEach ts X.env).map (·.2)) us) (fun _ s'=>∃ σ' H',Inv X pins σ' H' s'/\Q σ' H') X.xe s
noncomputable abbrev TSet:=V->V->V->Hp->(Hp->Prop)->Prop
noncomputable abbrev qN:=V->V->Hp->VK->Prop
section
variable {X:Cx} {pos:Pos}
noncomputable def gName (i:Nat):TG:=fun v Y H Q=>Q (Y.set i (some v)) H
theorem amH{i:Nat}{x:Str}(hN:X.N.Nodup)(hi:X.N[i]?=some x)(hx:p6 X.env.scope x)(hf:X.fn x=true\/X.env.scope.names.lookup x=some .local:=by first | exact .inl rfl | exact .inr rfl | assumption):PG X (.Name x pos) (gName i):=by
 intro pins s Y H v u Q I r h;exact wpAny_assign_Name (iU I hN hi hx r (fun s' I'=>⟨_,H,I',h⟩) hf)
noncomputable def gNil:f6:=fun vs Y H Q=>vs=[]/\Q Y H
noncomputable def gCons (t:TG) (u:f6):f6:=fun vs Y H Q=>∃ v r,vs=v::r/\t v Y H fun σ' H'=>u r σ' H' Q
theorem amI:iV X [] gNil:=by
 intro pins s Y H vs us Q I r h;obtain ⟨e,h⟩:=h;subst e
 cases r
 exact assignInOrder_nil ⟨Y,H,I,h⟩
theorem akD{e:Expr}{es:List Expr}{t:TG}{u:f6}(h1:PG X e t)(h2:iV X es u)(hs:(assignEach (e::es) X.env).map (·.2)=assign e X.env::(assignEach es X.env).map (·.2):=by rfl):iV X (e::es) (gCons t u):=by
 intro pins s Y H vs us Q I r h;obtain ⟨v,vr,e1,h⟩:=h;subst e1
 cases r with
 | cons r rr=>
  rw [hs];refine assignInOrder_cons (A8 (h1 pins s Y H _ _ _ I r h) fun _ s1 ⟨σ1,H1,I1,q1⟩=>?_);exact h2 pins s1 σ1 H1 _ _ Q I1 rr q1
noncomputable def gTup (K:PySem.W.Frag) (n:Nat) (t:f6):TG:=fun v Y H Q=>∃ a xs,v=.ref a/\C8 K H a xs/\xs.length=n/\t xs Y H Q
theorem aoF{es:List Expr}{k:Nat}{t:f6}{n:Nat}(hc:X.calm=true)(h:iV X es t)(hn:(assignEach es X.env).length=n:=by rfl)(g9:(assignEach es X.env).findIdx? (·.1)=none:=by rfl):PG X (.Tuple es k pos) (gTup X.K n t):=by
 intro pins s Y H v u Q I r hw;obtain ⟨a,xs,e1,hq,hl,hw⟩:=hw;subst e1
 cases r
 obtain ⟨its,rv,ht,hz⟩:=I.tuple hq;refine assign_Tuple_tuple (I.ok.hd hc) ht (by simp [hn,<- hl,rv.length]) g9 fun h' hx=>?_
 have I1:Inv X pins Y H { s with heap:=h' }:=I.kept (t':=s.toks) fun b o e=>hx b o (K4 (Heap.lt_size e)) e
 exact h pins _ Y H xs _ Q I1 (by simpa using rv) hw
noncomputable def gSub (to ti:TE) (t:TSet):TG:=fun v Y H Q=>to Y H fun o H1=>ti Y H1 fun i H2=>t o i v H2 fun H3=>Q Y H3
noncomputable def tAsg (te:TE) (g:TG):TS:=fun D Y H=>te Y H fun x H1=>g x Y H1 D.nx
theorem aoG{i:Nat}{x:Str}{e:Expr}{te:TE}{pos':Pos}(hN:X.N.Nodup)(hi:X.N[i]?=some x)(hx:p6 X.env.scope x)(he:PE X e te)(hs:swapsWith e (some (.Name x pos')) pos.line X.env=pure false:=by rfl)(hf:X.fn x=true\/X.env.scope.names.lookup x=some .local:=by first | exact .inl rfl | exact .inr rfl | assumption) :
  PS X (.Assign [.Name x pos'] e pos) (tAsg te (gName i)):=by
 intro pins s Y H D I h;refine wpAny_Assign_Name (A8 (he pins s Y H _ I h) fun v s1 ⟨y,H1,I1,r1,q1⟩=>?_) hs;exact iU I1 hN hi hx r1 (fun s2 I2=>⟨_,H1,I2,q1⟩) hf
noncomputable def tAug (i:Nat) (te:TE) (ti:qN):TS:=fun D Y H=>∃ x,Y[i]?=some (some x)/\te Y H fun y H1=>ti x y H1 fun z H2=>D.nx (Y.set i (some z)) H2
noncomputable def ipI (f:Int->Int->Int):qN:=fun x y H Q=>∃ i j,x=.int i/\y=.int j/\Q (.int (f i j)) H
end
section
variable {X:Cx} {pos:Pos}
noncomputable def mG (c:TT) (tb:TS):TS:=fun D Y H=>∃ W:Nat->St->Hp->Prop,(∃ m,W m Y H)/\∀ m Y H,W m Y H->
 c Y H fun b H1=>if b=true then ∃ N:St->Hp->Prop,(∀ σ' H',N σ' H'->∃ m',m'<m/\W m' σ' H')/\tb { D with nx:=N,ct:=N,bk:=D.nx } Y H1 else D.nx Y H1
theorem akE{c:Expr}{body:List Stmt}{tc:TT}{tb:TS}(hp:PassesOwn (model X.prog X.w) X.A X.env X.xe)(hc:PT X c tc)(hb:U0 X body tb):PS X (.While c body [] pos) (mG tc tb):=by
 intro pins s Y H D I h;obtain ⟨W,⟨m0,w0⟩,turn⟩:=h;refine wpAny_While (codeAny_whileLoop (fun n s'=>∃ σ' H',Inv X pins σ' H' s'/\W n σ' H') ?_ m0 ⟨Y,H,I,w0⟩);rintro n s1 ⟨σ1,H1,I1,w1⟩;refine wpAny_passesOwn hp (A8 (hc pins s1 σ1 H1 _ I1 (turn n σ1 H1 w1)) fun b s2 ⟨H2,I2,q2⟩=>?_)
 cases b with
 | true=>
  obtain ⟨N,hN,q2⟩:=q2;rw [if_pos rfl];refine wpAny_passesOwn hp (A8 (hb pins s2 σ1 H2 _ I2 q2) fun f s3 q3=>?_)
  cases f with
  | next=>
   obtain ⟨σ3,H3,I3,n3⟩:=q3;obtain ⟨m',hm,w3⟩:=hN σ3 H3 n3;exact ⟨m',hm,σ3,H3,I3,w3⟩
  | cont=>
   obtain ⟨σ3,H3,I3,n3⟩:=q3;obtain ⟨m',hm,w3⟩:=hN σ3 H3 n3;exact ⟨m',hm,σ3,H3,I3,w3⟩
  | brk=>exact q3
  | ret v=>exact q3
 | false=>
  rw [if_neg K9];exact wpAny_execs_nil ⟨σ1,H2,I2,q2⟩
end
structure It where
 go:Nat->Hp->Prop
 yld:Nat->Hp->V->Hp->Prop
 stop:Nat->Hp->Prop
noncomputable def FpOk (X:Cx) (pins:List (Addr×Obj)) (H:Hp) (b:Addr):Prop:=
 H b=none/\b≠X.env.locals/\b∉X.fs/\(b∈X.ex\/X.s₀.heap.objs.size<=b)/\(∀ x c,X.env.cells.lookup x=some c->c≠b)/\∀ p∈X.pn++pins,p.1≠b
theorem Inv.fpOk{X:Cx}{pins:List (Addr×Obj)}{Y:St}{H H':Hp}{s:Shared}{b:Addr}(I:Inv X pins Y H s)(hb:s.heap.objs.size<=b)(hn:H' b=none):FpOk X pins H' b:=by
 refine ⟨hn,x4 (Q6 I.lt hb),I.nofs hb,.inr (F6 I.sz hb),fun x c e z=>?_,fun p hp z=>?_⟩
 .obtain ⟨v,q⟩:=I.cell x c e;exact absurd (Q6 q.lt (by rw [z];exact hb)) (X6 _)
 .exact absurd (Q6 (Heap.lt_size (I.pin p hp).1) (by rw [z];exact hb)) (X6 _)
structure Turn(P:Program)(w:World)(K:PySem.W.Frag)(tg:Expr)(J:It)(fp:List Addr)(it:Addr)(tn:Nat->Heap->Prop):Prop where
 mem:it∈fp
 obj:∀ i h,tn i h->∀ b∈fp,∃ o,h.get? b=some o/\∀ v,o.data≠.cell v
 keep:∀ i h h',tn i h->(∀ b∈fp,∀ o,h.get? b=some o->h'.get? b=some o)->tn i h'
 item:∀ (X:Cx),X.prog=P->X.w=w->X.K=K->X.calm=true->∀ (i:Nat) (pins:List (Addr×Obj)) (s:Shared) (Y:St) (H:Hp) (E:Value->Shared->Prop),Inv X pins Y H s->(∀ b∈fp,FpOk X pins H b)->tn i s.heap->J.go i H->
  wpAny (model P w) X.A (pyNext (.ref it)) (fun r s1=>∃ u,r=some u/\
   wpAny (model P w) X.A (letOwnedTupleGo tg (.ref it) u) (fun _ s2=>∃ x H',Inv X pins Y H' s2/\RelV x u/\J.yld i H x H'/\tn (i+1) s2.heap/\∀ b∈fp,H' b=none) E s1) E s
 done:∀ (X:Cx),X.prog=P->X.w=w->X.K=K->X.calm=true->∀ (i:Nat) (pins:List (Addr×Obj)) (s:Shared) (Y:St) (H:Hp) (E:Value->Shared->Prop),Inv X pins Y H s->(∀ b∈fp,FpOk X pins H b)->tn i s.heap->J.stop i H->
  wpAny (model P w) X.A (pyNext (.ref it)) (fun r s1=>r=none/\Inv X pins Y H s1) E s
 self:∀ (A:Around) (i:Nat) (s:Shared) (Q:Value->Shared->Prop) (E:Value->Shared->Prop),tn i s.heap->Q (.ref it) s->wpAny (model P w) A (pyIter (.ref it)) Q E s
noncomputable abbrev TI:=St->Hp->(It->Hp->Prop)->Prop
noncomputable def qO (X:Cx) (pins:List (Addr×Obj)) (Y:St) (tg:Expr) (R:It->Hp->Prop) (itv:Value) (s2:Shared):Prop:=
 ∃ (it:Addr) (fp:List Addr) (tn:Nat->Heap->Prop) (J:It) (H':Hp),itv=.ref it/\Inv X pins Y H' s2/\Turn X.prog X.w X.K tg J fp it tn/\tn 0 s2.heap/\(∀ b∈fp,FpOk X pins H' b)/\R J H'
noncomputable def PI (X:Cx) (tg iter:Expr) (wi:TI):Prop:=
 ∀ (pins:List (Addr×Obj)) (s:Shared) (Y:St) (H:Hp) (R:It->Hp->Prop),Inv X pins Y H s->wi Y H R->
  wpAny (model X.prog X.w) X.A (eval iter X.env) (fun v s1=>wpAny (model X.prog X.w) X.A (pyIter v) (qO X pins Y tg R) X.xe s1) X.xe s
theorem go_of{M : Model}{A : Around}{E : Value -> Shared -> Prop}{s : Shared}{tg : Expr}{it : Addr}{u : Value}{o : Obj}{n : String}{vs : Array Value}{Q : Unit -> Shared -> Prop}(ho : s.heap.get? it = some o)(hc : o.cls = .type n)(hd : o.data = .fields vs)(hn : ["enumerate", "zip", "dict_itemiterator", "dict_reverseitemiterator", "odict_iterator", "itertools.zip_longest", "itertools.pairwise"].contains n = false)(hQ : Q () s) : wpAny M A (letOwnedTupleGo tg (.ref it) u) Q E s := by
  unfold letOwnedTupleGo
  cases tg <;> first
    | exact wpAny_pure hQ
    | (cases u <;> first
        | exact wpAny_pure hQ
        | (refine wpAny_bind (wpAny_load ho ?_)
           rw [hc, hd];show wpAny M A (if (["enumerate", "zip", "dict_itemiterator", "dict_reverseitemiterator", "odict_iterator", "itertools.zip_longest", "itertools.pairwise"].contains n&&vs[0]? == some (rawInt _)) = true then _ else _) Q E s;rw [if_neg (by intro h; rw [hn, Bool.false_and] at h; cases h)];exact wpAny_pure hQ))
noncomputable def x9 (K:PySem.W.Frag) (a:Addr):It:=
 ⟨fun i H=>∃ xs x,D1 K H a xs/\xs[i]?=some x,fun i H x H'=>H'=H/\∀ xs,D1 K H a xs->xs[i]?=some x,fun i H=>∃ xs,D1 K H a xs/\xs.length<=i⟩
noncomputable def bK (K:PySem.W.Frag) (a:Addr):It:=
 ⟨fun i H=>∃ xs x,C8 K H a xs/\xs[i]?=some x,fun i H x H'=>H'=H/\∀ xs,C8 K H a xs->xs[i]?=some x,fun i H=>∃ xs,C8 K H a xs/\xs.length<=i⟩
noncomputable def j0 (lo:Int) (n:Nat):It:=⟨fun i _=>i<n,fun i H x H'=>H'=H/\x=.int (lo+i),fun i _=>n<=i⟩
theorem aiB{P:Program}{w:World}{K:PySem.W.Frag}{tg:Expr}(a it:Addr):Turn P w K tg (x9 K a) [it] it (fun i h=>h.IsListIter it a i) where
 mem:=by simp
 obj:=fun i h st b hb=>by
  have e:b=it:=by simpa using hb
  subst e;obtain ⟨o,e,c,d⟩:=st;exact ⟨o,e,fun v z=>by rw [d] at z;cases z⟩
 keep:=fun i h h' st k=>st.at fun o e=>k it (by simp) o e
 item:=by
  intro X hP hw hK hc i pins s Y H E I hf st hg;subst hP hw hK;obtain ⟨xs,x,hq,hx⟩:=hg;obtain ⟨its,rv,p,hz⟩:=I.list hq;obtain ⟨u,hu,ru⟩:=rv.get hx;obtain ⟨f0,f1,f2,f3,f4,f5⟩:=hf it (by simp);refine wpAny_pyNext_list_item st p.isList (x:=u) (by simpa using hu) fun h' st' sb=>?_
  have I1:Inv X pins Y H { s with heap:=h' }:=I.turned (t':=s.toks) (fun b o hb e=>(sb.2 b hb).trans e) f0 f1 f3 f4 f5;obtain ⟨o,e,c,d⟩:=id st';exact ⟨u,rfl,go_of (s:={ s with heap:=h' }) e c d (by decide) ⟨x,H,I1,ru,⟨rfl,fun ys hy=>by rw [I.list_inj hy hq];exact hx⟩,st',fun b hb=>(hf b hb).1⟩⟩
 done:=by
  intro X hP hw hK hc i pins s Y H E I hf st hg;subst hP hw hK;obtain ⟨xs,hq,hx⟩:=hg;obtain ⟨its,rv,p,hz⟩:=I.list hq;obtain ⟨f0,f1,f2,f3,f4,f5⟩:=hf it (by simp);have hl:=rv.length;exact wpAny_pyNext_list_end (I.ok.hd hc) st p.isList (by simp;lia) fun h' eb=>⟨rfl,I.turned (t':=s.toks) (fun b o hb e=>eb b o hb e) f0 f1 f3 f4 f5⟩
 self:=fun _ _ _ _ _ st h=>wpAny_pyIter_listiter st h
theorem ahN{P:Program}{w:World}{K:PySem.W.Frag}{tg:Expr}(a it:Addr):Turn P w K tg (bK K a) [it] it (fun i h=>h.IsTupleIter it a i) where
 mem:=by simp
 obj:=fun i h st b hb=>by
  have e:b=it:=by simpa using hb
  subst e;obtain ⟨o,e,c,d⟩:=st;exact ⟨o,e,fun v z=>by rw [d] at z;cases z⟩
 keep:=fun i h h' st k=>st.at fun o e=>k it (by simp) o e
 item:=by
  intro X hP hw hK hc i pins s Y H E I hf st hg;subst hP hw hK;obtain ⟨xs,x,hq,hx⟩:=hg;obtain ⟨its,rv,p,hz⟩:=I.tuple hq;obtain ⟨u,hu,ru⟩:=rv.get hx;obtain ⟨f0,f1,f2,f3,f4,f5⟩:=hf it (by simp);refine wpAny_pyNext_tuple_item st (show s.heap.IsTuple a its.toArray from p) (x:=u) (by simpa using hu) fun h' st' sb=>?_
  have I1:Inv X pins Y H { s with heap:=h' }:=I.turned (t':=s.toks) (fun b o hb e=>(sb.2 b hb).trans e) f0 f1 f3 f4 f5;obtain ⟨o,e,c,d⟩:=id st';exact ⟨u,rfl,go_of (s:={ s with heap:=h' }) e c d (by decide) ⟨x,H,I1,ru,⟨rfl,fun ys hy=>by rw [I.tuple_inj hy hq];exact hx⟩,st',fun b hb=>(hf b hb).1⟩⟩
 done:=by
  intro X hP hw hK hc i pins s Y H E I hf st hg;subst hP hw hK;obtain ⟨xs,hq,hx⟩:=hg;obtain ⟨its,rv,p,hz⟩:=I.tuple hq;obtain ⟨f0,f1,f2,f3,f4,f5⟩:=hf it (by simp);have hl:=rv.length;exact wpAny_pyNext_tuple_end (I.ok.hd hc) st (show s.heap.IsTuple a its.toArray from p) (by simp;lia) fun h' eb=>⟨rfl,I.turned (t':=s.toks) (fun b o hb e=>eb b o hb e) f0 f1 f3 f4 f5⟩
 self:=fun _ _ _ _ _ st h=>wpAny_pyIter_tupleiter st h
theorem ahO{P:Program}{w:World}{K:PySem.W.Frag}{tg:Expr}(it:Addr)(lo:Int)(n:Nat):Turn P w K tg (j0 lo n) [it] it (fun i h=>IsRangeIter h it (lo+(i:Nat)*1) ((n:Int)-(i:Nat)) 1) where
 mem:=by simp
 obj:=fun i h st b hb=>by
  have e:b=it:=by simpa using hb
  subst e;exact ⟨_,st,fun v z=>by
   have z':Data.fields _=Data.cell v:=z
   cases z'⟩
 keep:=fun i h h' st k=>k it (by simp) _ st
 item:=by
  intro X hP hw hK hc i pins s Y H E I hf st hg;subst hP hw hK;obtain ⟨f0,f1,f2,f3,f4,f5⟩:=hf it (by simp);have W:=Walks.range (prog:=X.prog) (w:=X.w) (I.ok.hd hc) it lo 1 n;refine W.item i s _ _ hg st fun v h' tk hv st' kk=>?_
  obtain ⟨t,rfl⟩:=hv;have I1:Inv X pins Y H { s with heap:=h',toks:=tk }:=I.turned (fun b o hb e=>kk b o (by simpa using hb) e) f0 f1 f3 f4 f5;refine ⟨_,rfl,go_of (s:={ s with heap:=h',toks:=tk }) (n:="range_iterator") st' rfl rfl (by decide) ⟨.int (lo+i),H,I1,⟨t,?_⟩,⟨rfl,rfl⟩,st',fun b hb=>(hf b hb).1⟩⟩;rw [Int.mul_one]
 done:=by
  intro X hP hw hK hc i pins s Y H E I hf st hg;subst hP hw hK;obtain ⟨f0,f1,f2,f3,f4,f5⟩:=hf it (by simp);exact wpAny_pyNext_range_end (I.ok.hd hc) st (by have:n<=i:=hg;lia) fun h' eb=>⟨rfl,I.turned (t':=s.toks) (fun b o hb e=>eb b o hb e) f0 f1 f3 f4 f5⟩
 self:=fun _ _ _ _ _ st h=>wpAny_pyIter_rangeiter st h
end L2
namespace L2
open PySem PySem.Spec PyProof.Rows
section
variable {X:Cx} {tg:Expr}
noncomputable def iList (K:PySem.W.Frag) (tl:TE):TI:=fun Y H R=>tl Y H fun x H1=>∃ a,x=.ref a/\(∃ xs,D1 K H1 a xs)/\R (x9 K a) H1
noncomputable def iTup (K:PySem.W.Frag) (tl:TE):TI:=fun Y H R=>tl Y H fun x H1=>∃ a,x=.ref a/\(∃ xs,C8 K H1 a xs)/\R (bK K a) H1
theorem amJ{l:Expr}{tl:TE}(hl:PE X l tl):PI X tg l (iList X.K tl):=by
 intro pins s Y H R I h;refine A8 (hl pins s Y H _ I h) fun v s1 ⟨x,H1,I1,r1,q1⟩=>?_
 obtain ⟨a,e,⟨xs,hq⟩,q⟩:=q1;subst e
 cases r1
 obtain ⟨its,rv,p,hz⟩:=I1.list hq;refine wpAny_pyIter_list p.isList ?_;refine ⟨s1.heap.objs.size,[s1.heap.objs.size],_,_,H1,rfl,I1.kept (t':=s1.toks) fun b o e=>Heap.get?_push_of_some _ e,aiB a _,⟨_,Heap.get?_push_size _ rfl,rfl,rfl⟩,fun b hb=>?_,q⟩;have e:b=s1.heap.objs.size:=by simpa using hb
 subst e;exact I1.fpOk (C2 _) (I1.hok.fresh (C2 _))
theorem aoH{l:Expr}{tl:TE}(hl:PE X l tl):PI X tg l (iTup X.K tl):=by
 intro pins s Y H R I h;refine A8 (hl pins s Y H _ I h) fun v s1 ⟨x,H1,I1,r1,q1⟩=>?_
 obtain ⟨a,e,⟨xs,hq⟩,q⟩:=q1;subst e
 cases r1
 obtain ⟨its,rv,p,hz⟩:=I1.tuple hq;refine wpAny_pyIter_tuple (show s1.heap.IsTuple a its.toArray from p) ?_;refine ⟨s1.heap.objs.size,[s1.heap.objs.size],_,_,H1,rfl,I1.kept (t':=s1.toks) fun b o e=>Heap.get?_push_of_some _ e,ahN a _,⟨_,Heap.get?_push_size _ rfl,rfl,rfl⟩,fun b hb=>?_,q⟩;have e:b=s1.heap.objs.size:=by simpa using hb
 subst e;exact I1.fpOk (C2 _) (I1.hok.fresh (C2 _))
theorem akF{pins:List (Addr×Obj)}{Y:St}{H:Hp}{s:Shared}{R:It->Hp->Prop}{E:Value->Shared->Prop}{lo hi:Int}{t u v:Tok}{tk:Nat}(I:Inv X pins Y H s)(h1:-(2 ^ 62)<=lo)(h2:lo<2 ^ 62)(h3:-(2 ^ 62)<=hi)(h4:hi<2 ^ 62)(q:R (j0 lo (hi-lo).toNat) H):wpAny (model X.prog X.w) X.A (pyIter (.ref s.heap.objs.size)) (qO X pins Y tg R) E { s with heap:=s.heap.push { cls:=.type "range",data:=.fields #[.int lo t,.int hi u,.int 1 v] },toks:=tk }:=by
 refine wpAny_pyIter_range (IsRange.new ..) (small_one h1 h2 h3 h4) ?_;have I1:Inv X pins Y H { s with heap:=s.heap.push { cls:=.type "range",data:=.fields #[.int lo t,.int hi u,.int 1 v] },toks:=tk }:=I.kept fun b o e=>Heap.get?_push_of_some _ e
 refine ⟨(s.heap.push { cls:=.type "range",data:=.fields #[.int lo t,.int hi u,.int 1 v] }).objs.size,[(s.heap.push { cls:=.type "range",data:=.fields #[.int lo t,.int hi u,.int 1 v] }).objs.size],_,_,H,rfl,
  I1.kept (t':=tk) fun b o e=>Heap.get?_push_of_some _ e,ahO _ lo (hi-lo).toNat,?_,fun b hb=>?_,q⟩
 .have e1:lo+((0:Nat):Int)*1=lo:=by simp
  have e2:(((hi-lo).toNat:Nat):Int)-((0:Nat):Int)=Builtin.Range.rangeSize lo hi 1:=by rw [rangeSize_one];split <;> lia
  show IsRangeIter _ _ (lo+((0:Nat):Int)*1) ((((hi-lo).toNat:Nat):Int)-((0:Nat):Int)) 1;rw [e1,e2];exact Heap.get?_push_size _ rfl
 .have e:b=(s.heap.push { cls:=.type "range",data:=.fields #[.int lo t,.int hi u,.int 1 v] }).objs.size:=by simpa using hb
  subst e;exact I1.fpOk (C2 _) (I1.hok.fresh (C2 _))
noncomputable def iRng1 (ta:TA):TI:=fun Y H R=>ta Y H fun vs H1=>∃ j:Int,vs=[.int j]/\-(2 ^ 62)<=j/\j<2 ^ 62/\R (j0 0 j.toNat) H1
noncomputable def iRng2 (ta:TA):TI:=fun Y H R=>ta Y H fun vs H1=>∃ i j:Int,vs=[.int i,.int j]/\(-(2 ^ 62)<=i/\i<2 ^ 62/\-(2 ^ 62)<=j/\j<2 ^ 62)/\R (j0 i (j-i).toNat) H1
theorem aiC{a:Expr}{ta:TA}{p pos:Pos}(hg:Gl X "range")(hm:X.mg "range"=none)(ha:PA X [a] ta)(hs:starEach [a] X.env=[(false,eval a X.env)]:=by rfl):PI X tg (.Call (.Name "range" p) [a] [] pos) (iRng1 ta):=by
 intro pins s Y H R I h;refine Call_ (x8 I hg hm boot_range (PyProof.Rows.callWith_type1 (A8 (ha pos pins s Y H _ I h) fun us s1 ⟨vs,H1,I1,r1,q1⟩=>?_) hs rfl));obtain ⟨j,e,q1,q2,q⟩:=q1;subst e
 cases r1 with
 | cons r rr=>
  cases rr
  obtain ⟨t,rfl⟩:=r;exact call_range_1 (akF I1 (by lia) (by lia) q1 q2 (by simpa using q))
noncomputable def tFor (wi:TI) (g:TG) (tb:TS):TS:=fun D Y H=>wi Y H fun J H1=>∃ W:Nat->Nat->St->Hp->Prop,(∃ m,W 0 m Y H1)/\∀ i m Y H,W i m Y H->
 (J.stop i H/\D.nx Y H)\/(J.go i H/\∃ N:St->Hp->Prop,(∀ σ' H',N σ' H'->∃ m',m'<m/\W (i+1) m' σ' H')/\∀ x H',J.yld i H x H'->g x Y H' fun σ2 H2=>tb { D with nx:=N,ct:=N,bk:=D.nx } σ2 H2)
noncomputable def fP (fp:List Addr) (h:Heap):List (Addr×Obj):=fp.filterMap fun b=>(h.get? b).map fun o=>(b,o)
theorem fQ{fp:List Addr}{h:Heap}{b:Addr}{o:Obj}(hb:b∈fp)(e:h.get? b=some o):(b,o)∈fP fp h:=iN.mpr ⟨b,hb,by rw [e];rfl⟩
theorem aiD{fp:List Addr}{h:Heap}{p:Addr×Obj}(hp:p∈fP fp h):p.1∈fp/\h.get? p.1=some p.2:=by
 obtain ⟨b,hb,e⟩:=iN.mp hp
 cases q:h.get? b with
 | none=>rw [q] at e;cases e
 | some o=>
  rw [q] at e;have e':(b,o)=p:=Option.some.inj e;subst e';exact ⟨hb,q⟩
theorem Inv.pinned{pins:List (Addr×Obj)}{Y:St}{H:Hp}{s:Shared}{fp:List Addr}(I:Inv X pins Y H s)(hf:∀ b∈fp,FpOk X pins H b)(ho:∀ b∈fp,∃ o,s.heap.get? b=some o/\∀ v,o.data≠.cell v):Inv X (pins++fP fp s.heap) Y H s:=
 I.pins_of fun p hp=>(J8.mp hp).elim (fun z=>I.pin p (P2 _ z)) fun z=>by
  obtain ⟨hb,e⟩:=aiD z;obtain ⟨f0,f1,f2,_⟩:=hf p.1 hb;obtain ⟨o,e',d⟩:=ho p.1 hb;rw [e] at e';cases e';exact ⟨e,f0,f1,f2,d⟩
theorem Inv.unpinned{pins pl:List (Addr×Obj)}{Y:St}{H:Hp}{s:Shared}(I:Inv X (pins++pl) Y H s):Inv X pins Y H s:=I.pins_of fun p hp=>I.pin p (P2 _ (T6 _ hp))
theorem aoI{iter:Expr}{body:List Stmt}{wi:TI}{g:TG}{tb:TS}{pos:Pos}(hp:PassesOwn (model X.prog X.w) X.A X.env X.xe)(hc:X.calm=true)(hi:PI X tg iter wi)(hg:PG X tg g)(hb:U0 X body tb)(hs:∀ x,foldedSetIterable iter X.env x=pure x:=by intro _;rfl):PS X (.For tg iter body [] pos) (tFor wi g tb):=by
 intro pins s Y H D I h;refine wpAny_For (A8 (hi pins s Y H _ I h) fun v s1 h1=>A8 h1 fun itv s2 h2=>?_) hs;obtain ⟨it,fp,tn,J,H2,e,I2,T,k8,f2,W,⟨m0,w0⟩,turn⟩:=h2;subst e;have stat:∀ {H':Hp},(∀ b∈fp,H' b=none)->∀ b∈fp,FpOk X pins H' b:=fun hn b hb=>⟨hn b hb,(f2 b hb).2⟩
 refine codeAny_forLoop_any (fun n s'=>∃ i σ' H',Inv X pins σ' H' s'/\tn i s'.heap/\(∀ b∈fp,H' b=none)/\W i n σ' H') ?_ m0 ⟨0,Y,H2,I2,k8,fun b hb=>(f2 b hb).1,w0⟩;rintro n s3 ⟨i,σ3,H3,I3,cE,kK,w3⟩
 rcases turn i n σ3 H3 w3 with ⟨stop,qn⟩ | ⟨go,N,hN,step⟩
 .refine wpAny_passesOwn hp (A8 (T.done X rfl rfl rfl hc i pins s3 σ3 H3 X.xe I3 (stat kK) cE stop) fun r s4 ⟨hr,I4⟩=>?_);subst hr;exact wpAny_execs_nil ⟨σ3,H3,I4,qn⟩
 .refine wpAny_passesOwn hp (A8 (T.item X rfl rfl rfl hc i pins s3 σ3 H3 X.xe I3 (stat kK) cE go) fun r s4 ⟨u,hr,h4⟩=>?_);subst hr;refine wpAny_passesOwn hp (A8 h4 fun _ s5 ⟨x,H5,I5,r5,y5,dR,vN⟩=>?_);have I5':=I5.pinned (stat vN) (T.obj _ _ dR);refine wpAny_passesOwn hp (A8 (hg _ s5 σ3 H5 x u _ I5' r5 (step x H5 y5)) fun _ s6 ⟨σ6,H6,I6,q6⟩=>?_);refine wpAny_passesOwn hp (A8 (hb _ s6 σ6 H6 _ I6 q6) fun f s7 q7=>?_);have again:∀ {σ7:St} {H7:Hp},Inv X (pins++fP fp s5.heap) σ7 H7 s7->N σ7 H7->∃ m,m<n/\∃ i σ' H',Inv X pins σ' H' s7/\tn i s7.heap/\(∀ b∈fp,H' b=none)/\W i m σ' H':=fun {σ7 H7} I7 n7=>by
   obtain ⟨m',hm,w7⟩:=hN σ7 H7 n7;refine ⟨m',hm,i+1,σ7,H7,I7.unpinned,T.keep _ _ _ dR fun b hb o e=>(I7.pin (b,o) (P2 _ (P2 _ (fQ hb e)))).1,fun b hb=>?_,w7⟩;obtain ⟨o,e,d⟩:=T.obj _ _ dR b hb;exact (I7.pin (b,o) (P2 _ (P2 _ (fQ hb e)))).2.1
  cases f with
  | next=>obtain ⟨σ7,H7,I7,n7⟩:=q7;exact again I7 n7
  | cont=>obtain ⟨σ7,H7,I7,n7⟩:=q7;exact again I7 n7
  | brk=>obtain ⟨σ7,H7,I7,q7⟩:=q7;exact ⟨σ7,H7,I7.unpinned,q7⟩
  | ret v=>obtain ⟨x7,σ7,H7,I7,r7,q7⟩:=q7;exact ⟨x7,σ7,H7,I7.unpinned,r7,q7⟩
end
theorem akG{K:PySem.W.Frag}{a:Addr}{xs:List V}{g:TG}{tb:TS}{D:Ends}{Y:St}{H:Hp}(Pv:Nat->St->Hp->Prop)(h0:Pv 0 Y H)(hl:∀ i Y H,i<=xs.length->Pv i Y H->D1 K H a xs)(hs:∀ i x Y H,xs[i]?=some x->Pv i Y H->g x Y H fun σ2 H2=>tb { D with nx:=Pv (i+1),ct:=Pv (i+1),bk:=D.nx } σ2 H2)(hd:∀ Y H,Pv xs.length Y H->D.nx Y H) :
  ∃ W:Nat->Nat->St->Hp->Prop,(∃ m,W 0 m Y H)/\∀ i m Y H,W i m Y H->
   ((x9 K a).stop i H/\D.nx Y H)\/((x9 K a).go i H/\∃ N:St->Hp->Prop,(∀ σ' H',N σ' H'->∃ m',m'<m/\W (i+1) m' σ' H')/\∀ x H',(x9 K a).yld i H x H'->g x Y H' fun σ2 H2=>tb { D with nx:=N,ct:=N,bk:=D.nx } σ2 H2):=by
 refine ⟨fun i m Y H=>m=xs.length-i/\i<=xs.length/\Pv i Y H,⟨xs.length,by simp,K8 _,h0⟩,?_⟩;rintro i m Y H ⟨rfl,hi,p⟩;have q:=hl i Y H hi p
 by_cases C1:i<xs.length
 .refine .inr ⟨⟨xs,xs[i],q,by simp [C1]⟩,Pv (i+1),fun σ' H' p'=>⟨xs.length-(i+1),by lia,rfl,C1,p'⟩,fun x H' y=>?_⟩;obtain ⟨e,y⟩:=y;subst e;exact hs i x Y _ (y xs q) p
 .have e:i=xs.length:=by lia
  subst e;exact .inl ⟨⟨xs,q,C2 _⟩,hd Y H p⟩
theorem amK{K:PySem.W.Frag}{a:Addr}{xs:List V}{g:TG}{tb:TS}{D:Ends}{Y:St}{H:Hp}(Pv:Nat->St->Hp->Prop)(h0:Pv 0 Y H)(hl:∀ i Y H,i<=xs.length->Pv i Y H->C8 K H a xs)(hs:∀ i x Y H,xs[i]?=some x->Pv i Y H->g x Y H fun σ2 H2=>tb { D with nx:=Pv (i+1),ct:=Pv (i+1),bk:=D.nx } σ2 H2)(hd:∀ Y H,Pv xs.length Y H->D.nx Y H) :
  ∃ W:Nat->Nat->St->Hp->Prop,(∃ m,W 0 m Y H)/\∀ i m Y H,W i m Y H->
   ((bK K a).stop i H/\D.nx Y H)\/((bK K a).go i H/\∃ N:St->Hp->Prop,(∀ σ' H',N σ' H'->∃ m',m'<m/\W (i+1) m' σ' H')/\∀ x H',(bK K a).yld i H x H'->g x Y H' fun σ2 H2=>tb { D with nx:=N,ct:=N,bk:=D.nx } σ2 H2):=by
 refine ⟨fun i m Y H=>m=xs.length-i/\i<=xs.length/\Pv i Y H,⟨xs.length,by simp,K8 _,h0⟩,?_⟩;rintro i m Y H ⟨rfl,hi,p⟩;have q:=hl i Y H hi p
 by_cases C1:i<xs.length
 .refine .inr ⟨⟨xs,xs[i],q,by simp [C1]⟩,Pv (i+1),fun σ' H' p'=>⟨xs.length-(i+1),by lia,rfl,C1,p'⟩,fun x H' y=>?_⟩;obtain ⟨e,y⟩:=y;subst e;exact hs i x Y _ (y xs q) p
 .have e:i=xs.length:=by lia
  subst e;exact .inl ⟨⟨xs,q,C2 _⟩,hd Y H p⟩
theorem aiE{lo:Int}{n:Nat}{g:TG}{tb:TS}{D:Ends}{Y:St}{H:Hp}(Pv:Nat->St->Hp->Prop)(h0:Pv 0 Y H)(hs:∀ i Y H,i<n->Pv i Y H->g (.int (lo+i)) Y H fun σ2 H2=>tb { D with nx:=Pv (i+1),ct:=Pv (i+1),bk:=D.nx } σ2 H2)(hd:∀ Y H,Pv n Y H->D.nx Y H) :
  ∃ W:Nat->Nat->St->Hp->Prop,(∃ m,W 0 m Y H)/\∀ i m Y H,W i m Y H->
   ((j0 lo n).stop i H/\D.nx Y H)\/((j0 lo n).go i H/\∃ N:St->Hp->Prop,(∀ σ' H',N σ' H'->∃ m',m'<m/\W (i+1) m' σ' H')/\∀ x H',(j0 lo n).yld i H x H'->g x Y H' fun σ2 H2=>tb { D with nx:=N,ct:=N,bk:=D.nx } σ2 H2):=by
 refine ⟨fun i m Y H=>m=n-i/\i<=n/\Pv i Y H,⟨n,by simp,K8 _,h0⟩,?_⟩;rintro i m Y H ⟨rfl,hi,p⟩
 by_cases C1:i<n
 .refine .inr ⟨C1,Pv (i+1),fun σ' H' p'=>⟨n-(i+1),by lia,rfl,C1,p'⟩,fun x H' y=>?_⟩;obtain ⟨e,y⟩:=y;subst e y;exact hs i Y _ C1 p
 .have e:i=n:=by lia
  subst e;exact .inl ⟨C2 _,hd Y H p⟩
end L2
namespace L2
open PySem PySem.Spec PyProof.Rows
noncomputable abbrev R2:=V->V->Hp->VK->Prop
noncomputable def G0 (X:Cx) (f:Value->Value->Sem Value) (r:R2):Prop:=
 ∀ (pins:List (Addr×Obj)) (s:Shared) (Y:St) (H:Hp) (x y:V) (v u:Value) (Q:VK),Inv X pins Y H s->RelV x v->RelV y u->r x y H Q->
  wpAny (model X.prog X.w) X.A (f v u) (EP X pins Y Q) X.xe s
noncomputable def mH (X:Cx) (f:Value->Sem Value) (r:V->Hp->VK->Prop):Prop:=
 ∀ (pins:List (Addr×Obj)) (s:Shared) (Y:St) (H:Hp) (x:V) (v:Value) (Q:VK),Inv X pins Y H s->RelV x v->r x H Q->
  wpAny (model X.prog X.w) X.A (f v) (EP X pins Y Q) X.xe s
noncomputable def CallR (X:Cx) (f:Value) (r:List V->Hp->VK->Prop):Prop:=
 ∀ (pins:List (Addr×Obj)) (s:Shared) (Y:St) (H:Hp) (xs:List V) (us:List Value) (Q:VK),Inv X pins Y H s->Vals xs us->r xs H Q->
  wpAny (model X.prog X.w) X.A (call f us) (EP X pins Y Q) X.xe s
noncomputable def TruR (X:Cx) (r:V->Hp->(Bool->Hp->Prop)->Prop):Prop:=
 ∀ (pins:List (Addr×Obj)) (s:Shared) (Y:St) (H:Hp) (x:V) (v:Value) (Q:Bool->Hp->Prop),Inv X pins Y H s->RelV x v->r x H Q->
  wpAny (model X.prog X.w) X.A (truthy v) (TP X pins Y Q) X.xe s
noncomputable def y0 (r:R2) (ta tb:TE):TE:=fun Y H Q=>ta Y H fun x H1=>tb Y H1 fun y H2=>r x y H2 Q
noncomputable def qP (r:V->Hp->VK->Prop) (ta:TE):TE:=fun Y H Q=>ta Y H fun x H1=>r x H1 Q
noncomputable def rI (C:Int->Int->Prop) (g:Int->Int->V):R2:=fun x y H Q=>∃ i j,x=.int i/\y=.int j/\C i j/\Q (g i j) H
noncomputable def bL (g:Int->Int->V):R2:=fun x y H Q=>∃ i j,x=.int i/\y=.int j/\Q (g i j) H
noncomputable def rU (g:Int->V):V->Hp->VK->Prop:=fun x H Q=>∃ i,x=.int i/\Q (g i) H
section
variable {X:Cx} {a b c:Expr} {ta tb tc:TE} {pos:Pos}
theorem binT(ha:PE X a ta)(hb:PE X b tb){pins:List (Addr×Obj)}{s:Shared}{Y:St}{H:Hp}{R:V->V->Hp->Prop}(I:Inv X pins Y H s)(h:ta Y H fun x H1=>tb Y H1 fun y H2=>R x y H2){Q:Value->Shared->Prop}{f:Value->Value->Sem Value}(hf:∀ v u s2 x y H2,Inv X pins Y H2 s2->RelV x v->RelV y u->R x y H2->wpAny (model X.prog X.w) X.A (f v u) Q X.xe s2) :
  wpAny (model X.prog X.w) X.A (eval a X.env) (fun v zw=>wpAny (model X.prog X.w) X.A (eval b X.env) (fun u zv=>wpAny (model X.prog X.w) X.A (f v u) Q X.xe zv) X.xe zw) X.xe s:=by
 refine A8 (ha pins s Y H _ I h) fun v s1 ⟨x,H1,I1,r1,q1⟩=>?_
 refine A8 (hb pins s1 Y H1 _ I1 q1) fun u s2 ⟨y,H2,I2,r2,q2⟩=>?_
 exact hf v u s2 x y H2 I2 r1 r2 q2
theorem pe_op{op:Operator}{r:R2}(ho:G0 X (binaryOp op) r)(ha:PE X a ta)(hb:PE X b tb):PE X (.BinOp a op b pos) (y0 r ta tb):=by
 intro pins s Y H Q I h;exact wpAny_BinOp (binT ha hb I h fun v u s2 x y H2 I2 rx ry q=>ho pins s2 Y H2 x y v u Q I2 rx ry q)
theorem pe_un{op:UnaryOp}{r:V->Hp->VK->Prop}(ho:mH X (unaryOp op) r)(ha:PE X a ta):PE X (.UnaryOp op a pos) (qP r ta):=by
 intro pins s Y H Q I h;exact UnaryOp_ (A8 (ha pins s Y H _ I h) fun v s1 ⟨x,H1,I1,r1,q1⟩=>ho pins s1 Y H1 x v Q I1 r1 q1)
theorem qQ{f:Value->Value->Sem Value}{C:Int->Int->Prop}{g:Int->Int->Int}(rule:∀ (i j:Int) (t u:Tok) (s:Shared) (Q:Value->Shared->Prop) (E:Value->Shared->Prop),C i j->Q (.int (g i j) s.toks) { s with toks:=s.toks+1 }->wpAny (model X.prog X.w) X.A (f (.int i t) (.int j u)) Q E s) :
  G0 X f (rI C fun i j=>.int (g i j)):=by
 intro pins s Y H x y v u Q I rx ry h;obtain ⟨i,j,rfl,rfl,hc,q⟩:=h;obtain ⟨t,rfl⟩:=rx;obtain ⟨t',rfl⟩:=ry;exact rule i j t t' s _ _ hc ⟨.int (g i j),H,I.tok _,⟨_,rfl⟩,q⟩
theorem opI0{f:Value->Value->Sem Value}{g:Int->Int->Int}(rule:∀ (i j:Int) (t u:Tok) (s:Shared) (Q:Value->Shared->Prop) (E:Value->Shared->Prop),Q (.int (g i j) s.toks) { s with toks:=s.toks+1 }->wpAny (model X.prog X.w) X.A (f (.int i t) (.int j u)) Q E s) :
  G0 X f (bL fun i j=>.int (g i j)):=by
 intro pins s Y H x y v u Q I rx ry h;obtain ⟨i,j,rfl,rfl,q⟩:=h;obtain ⟨t,rfl⟩:=rx;obtain ⟨t',rfl⟩:=ry;exact rule i j t t' s _ _ ⟨.int (g i j),H,I.tok _,⟨_,rfl⟩,q⟩
theorem opB0{f:Value->Value->Sem Value}{g:Int->Int->Bool}(rule:∀ (i j:Int) (t u:Tok) (s:Shared) (Q:Value->Shared->Prop) (E:Value->Shared->Prop),Q (.bool (g i j)) s->wpAny (model X.prog X.w) X.A (f (.int i t) (.int j u)) Q E s) :
  G0 X f (bL fun i j=>.bl (g i j)):=by
 intro pins s Y H x y v u Q I rx ry h;obtain ⟨i,j,rfl,rfl,q⟩:=h;obtain ⟨t,rfl⟩:=rx;obtain ⟨t',rfl⟩:=ry;exact rule i j t t' s _ _ ⟨.bl (g i j),H,I,rfl,q⟩
noncomputable def CDiv (i j:Int):Prop:=0<j/\j<1073741824
noncomputable def CMul (i j:Int):Prop:=(-(2 ^ 64)<i/\i<2 ^ 64)\/(-(2 ^ 64)<j/\j<2 ^ 64)
theorem CMul.ok{i j:Int}(h:CMul i j):IntMulOk i j:=by
 rcases h with ⟨h1,h2⟩ | ⟨h1,h2⟩
 .exact .of_left (intBits_le_64 h1 h2)
 .exact .of_right (intBits_le_64 h1 h2)
theorem aoJ:G0 X (binaryOp .Add) (bL fun i j=>.int (i+j)):=opI0 fun _ _ _ _ _ _ _ q=>add_int q
theorem aoK:G0 X (binaryOp .Mult) (rI CMul fun i j=>.int (i*j)):=qQ fun _ _ _ _ _ _ _ hc q=>mul_int q hc.ok
theorem amL:G0 X (binaryOp .FloorDiv) (rI CDiv fun i j=>.int (i / j)):=qQ fun i j _ _ _ _ _ hc q=>by
 have h1:(0:Int)<j:=hc.1;have h2:j<1073741824:=hc.2;exact floordiv_int (by lia) (by rw [Int.fdiv_eq_ediv_of_nonneg i (by lia)];exact q) (.inl (PyProof.noPylong_small (by lia)))
theorem aoL:G0 X (binaryOp .Mod) (rI (fun _ j=>0<j) fun i j=>.int (i % j)):=qQ fun i j _ _ _ _ _ hc q=>by
 have h1:(0:Int)<j:=hc;exact mod_int' (by lia) (by rw [Int.fmod_eq_emod_of_nonneg i (by lia)];exact q)
theorem unI{f:Value->Sem Value}{g:Int->Int}(rule:∀ (i:Int) (t:Tok) (s:Shared) (Q:Value->Shared->Prop) (E:Value->Shared->Prop),Q (.int (g i) s.toks) { s with toks:=s.toks+1 }->wpAny (model X.prog X.w) X.A (f (.int i t)) Q E s) :
  mH X f (rU fun i=>.int (g i)):=by
 intro pins s Y H x v Q I rx h;obtain ⟨i,rfl,q⟩:=h;obtain ⟨t,rfl⟩:=rx;exact rule i t s _ _ ⟨.int (g i),H,I.tok _,⟨_,rfl⟩,q⟩
theorem aoM:mH X (unaryOp .USub) (rU fun i=>.int (-i)):=unI fun _ _ _ _ _ q=>neg_int q
end
noncomputable def scal:V->V->Bool
 | .non,.non=>true | .non,.int _=>true | .int _,.non=>true | .non,.bl _=>true | .bl _,.non=>true | .non,.str _=>true | .str _,.non=>true
 | .int _,.int _=>true | .bl _,.bl _=>true | .str _,.str _=>true | .byt _,.byt _=>true
 | .int _,.str _=>true | .str _,.int _=>true | .bl _,.str _=>true | .str _,.bl _=>true
 | _,_=>false
noncomputable def yD:R2:=fun x y H Q=>scal x y=true/\Q (.bl (decide (x=y))) H
noncomputable def yE:R2:=fun x y H Q=>scal x y=true/\Q (.bl (!decide (x=y))) H
theorem yF{i j:Int} : decide (V.int i=V.int j)=(i==j):=by
 rw [cX]
 simp
theorem yG{i j:Bool} : decide (V.bl i=V.bl j)=(i==j):=by
 rw [cX]
 simp
theorem yH{i j:Str} : decide (V.str i=V.str j)=(i==j):=by
 rw [cX]
 simp
theorem yI{i j:Array UInt8} : decide (V.byt i=V.byt j)=(i.toList==j.toList):=by
 rw [cX]
 cases i
 cases j
 simp
section
variable {X:Cx} {a b c:Expr} {ta tb tc:TE} {pos:Pos}
theorem J9{pins:List (Addr×Obj)}{Y:St}{H:Hp}{s:Shared}{Q:VK}{k k':Bool}(I:Inv X pins Y H s)(q:Q (.bl k) H)(e:k=k'):EP X pins Y Q (.bool k') s:=by
 subst e;exact ⟨.bl k,H,I,rfl,q⟩
theorem op_eq:G0 X (compareOp .Eq) yD:=by
 intro pins s Y H x y v u Q I rx ry h;obtain ⟨hs,q⟩:=h
 cases x with
 | non=>
  cases rx
  cases y with
  | non=>cases ry;exact PySem.EqNone.eq_none_none (J9 I q (by simp))
  | bl j=>cases ry;exact PySem.EqNone.eq_none_bool (J9 I q (by simp))
  | int j=>obtain ⟨t',rfl⟩:=ry;exact PySem.EqNone.eq_none_int (J9 I q (by simp))
  | str j=>obtain ⟨t',rfl⟩:=ry;exact PySem.EqNone.eq_none_str (J9 I q (by simp))
  | _=>exact absurd (show false=true from hs) K9
 | bl i=>
  cases rx
  cases y with
  | non=>cases ry;exact PySem.EqNone.eq_bool_none (J9 I q (by simp))
  | bl j=>cases ry;exact eq_bool (J9 I q yG)
  | str j=>obtain ⟨t',rfl⟩:=ry;exact PySem.EqMixed.eq_bool_str (J9 I q (by simp))
  | _=>exact absurd (show false=true from hs) K9
 | int i=>
  obtain ⟨t,rfl⟩:=rx
  cases y with
  | non=>cases ry;exact PySem.EqNone.eq_int_none (J9 I q (by simp))
  | int j=>obtain ⟨t',rfl⟩:=ry;exact eq_int (J9 I q yF)
  | str j=>obtain ⟨t',rfl⟩:=ry;exact PySem.EqMixed.eq_int_str (J9 I q (by simp))
  | _=>exact absurd (show false=true from hs) K9
 | str i=>
  obtain ⟨t,rfl⟩:=rx
  cases y with
  | non=>cases ry;exact PySem.EqNone.eq_str_none (J9 I q (by simp))
  | bl j=>cases ry;exact PySem.EqMixed.eq_str_bool (J9 I q (by simp))
  | int j=>obtain ⟨t',rfl⟩:=ry;exact PySem.EqMixed.eq_str_int (J9 I q (by simp))
  | str j=>obtain ⟨t',rfl⟩:=ry;exact eq_str (J9 I q yH)
  | _=>exact absurd (show false=true from hs) K9
 | byt i=>
  obtain ⟨t,rfl⟩:=rx
  cases y with
  | byt j=>obtain ⟨t',rfl⟩:=ry;exact PySem.W.eq_bytes (J9 I q yI)
  | _=>exact absurd (show false=true from hs) K9
 | _=>cases y <;> exact absurd (show false=true from hs) K9
theorem op_ne:G0 X (compareOp .NotEq) yE:=by
 intro pins s Y H x y v u Q I rx ry h;obtain ⟨hs,q⟩:=h
 cases x with
 | non=>
  cases rx
  cases y with
  | non=>cases ry;exact PySem.EqNone.ne_none_none (J9 I q (by simp))
  | bl j=>cases ry;exact PySem.EqNone.ne_none_bool (J9 I q (by simp))
  | int j=>obtain ⟨t',rfl⟩:=ry;exact PySem.EqNone.ne_none_int (J9 I q (by simp))
  | str j=>obtain ⟨t',rfl⟩:=ry;exact PySem.EqNone.ne_none_str (J9 I q (by simp))
  | _=>exact absurd (show false=true from hs) K9
 | bl i=>
  cases rx
  cases y with
  | non=>cases ry;exact PySem.EqNone.ne_bool_none (J9 I q (by simp))
  | bl j=>cases ry;exact ne_bool (J9 I q (congrArg not yG))
  | str j=>obtain ⟨t',rfl⟩:=ry;exact PySem.EqMixed.ne_bool_str (J9 I q (by simp))
  | _=>exact absurd (show false=true from hs) K9
 | int i=>
  obtain ⟨t,rfl⟩:=rx
  cases y with
  | non=>cases ry;exact PySem.EqNone.ne_int_none (J9 I q (by simp))
  | int j=>obtain ⟨t',rfl⟩:=ry;exact ne_int (J9 I q (congrArg not yF))
  | str j=>obtain ⟨t',rfl⟩:=ry;exact PySem.EqMixed.ne_int_str (J9 I q (by simp))
  | _=>exact absurd (show false=true from hs) K9
 | str i=>
  obtain ⟨t,rfl⟩:=rx
  cases y with
  | non=>cases ry;exact PySem.EqNone.ne_str_none (J9 I q (by simp))
  | bl j=>cases ry;exact PySem.EqMixed.ne_str_bool (J9 I q (by simp))
  | int j=>obtain ⟨t',rfl⟩:=ry;exact PySem.EqMixed.ne_str_int (J9 I q (by simp))
  | str j=>obtain ⟨t',rfl⟩:=ry;exact ne_str (J9 I q (congrArg not yH))
  | _=>exact absurd (show false=true from hs) K9
 | byt i=>
  obtain ⟨t,rfl⟩:=rx
  cases y with
  | byt j=>obtain ⟨t',rfl⟩:=ry;exact PySem.W.ne_bytes (J9 I q (congrArg not yI))
  | _=>exact absurd (show false=true from hs) K9
 | _=>cases y <;> exact absurd (show false=true from hs) K9
theorem op_lt:G0 X (compareOp .Lt) (bL fun i j=>.bl (decide (i<j))):=opB0 fun _ _ _ _ _ _ _ q=>lt_int q
theorem op_le:G0 X (compareOp .LtE) (bL fun i j=>.bl (decide (i<=j))):=opB0 fun _ _ _ _ _ _ _ q=>le_int q
theorem op_gt:G0 X (compareOp .Gt) (bL fun i j=>.bl (decide (j<i))):=opB0 fun _ _ _ _ _ _ _ q=>gt_int q
theorem op_ge:G0 X (compareOp .GtE) (bL fun i j=>.bl (decide (j<=i))):=opB0 fun _ _ _ _ _ _ _ q=>ge_int q
theorem aiI:G0 X (compareOp .Lt) (fun x y H Q=>∃ i j,x=.str i/\y=.str j/\Q (.bl (decide (i.cps.toList<j.cps.toList))) H):=by
 intro pins s Y H x y v u Q I rx ry h;obtain ⟨i,j,rfl,rfl,q⟩:=h;obtain ⟨t,rfl⟩:=rx;obtain ⟨t',rfl⟩:=ry;exact lt_str (J9 I q rfl)
theorem aiJ:G0 X (compareOp .In) (fun x y H Q=>∃ i j,x=.str i/\y=.str j/\Q (.bl (!(Builtin.Str.occurrences j i 0 j.length 1).isEmpty)) H):=by
 intro pins s Y H x y v u Q I rx ry h;obtain ⟨i,j,rfl,rfl,q⟩:=h;obtain ⟨t,rfl⟩:=rx;obtain ⟨t',rfl⟩:=ry;exact in_str (J9 I q rfl)
theorem aoN:G0 X (compareOp .Is) (fun x y H Q=>y=.non/\Q (.bl (decide (x=.non))) H):=by
 intro pins s Y H x y v u Q I rx ry h;obtain ⟨rfl,q⟩:=h
 cases ry
 refine is_none_gen (J9 I q ?_)
 cases x <;> first
  | (cases rx;rfl)
  | (obtain ⟨t,rfl⟩:=rx;rfl)
theorem amM:G0 X (compareOp .IsNot) (fun x y H Q=>y=.non/\Q (.bl (!decide (x=.non))) H):=by
 intro pins s Y H x y v u Q I rx ry h;obtain ⟨rfl,q⟩:=h
 cases ry
 refine isnot_none_gen (J9 I q ?_)
 cases x <;> first
  | (cases rx;rfl)
  | (obtain ⟨t,rfl⟩:=rx;rfl)
theorem yJ(b:Expr){op:CmpOp}(h:op≠.In:=by decide)(h2:op≠.NotIn:=by decide):behindInMarks op b=false:=by
 have e1:(op==CmpOp.In)=false:=by cases op <;> first | rfl | exact absurd rfl h
 have e2:(op==CmpOp.NotIn)=false:=by cases op <;> first | rfl | exact absurd rfl h2
 cases b <;> simp [behindInMarks,e1,e2]
theorem amN{op:CmpOp}{r:R2}(ho:G0 X (compareOp op) r)(ha:PE X a ta)(hb:PE X b tb)(hm:behindInMarks op b=false):PE X (.Compare a [op] [b] pos) (y0 r ta tb):=by
 intro pins s Y H Q I h;exact wpAny_Compare1 (binT ha hb I h fun v u s2 x y H2 I2 rx ry q=>ho pins s2 Y H2 x y v u Q I2 rx ry q) hm
noncomputable def tTest (t:TE):TT:=fun Y H Q=>t Y H fun x H'=>∃ k,x=.bl k/\Q k H'
theorem amO{op:CmpOp}{r:R2}(ho:G0 X (compareOp op) r)(ha:PE X a ta)(hb:PE X b tb)(hm:behindInMarks op b=false):PT X (.Compare a [op] [b] pos) (tTest (y0 r ta tb)):=by
 intro pins s Y H Q I h;refine wpAny_isTrue_Compare1 (A8 (ha pins s Y H _ I h) fun v s1 ⟨x,H1,I1,r1,q1⟩=>A8 (hb pins s1 Y H1 _ I1 q1) fun u s2 ⟨y,H2,I2,r2,q2⟩=>
  A8 (ho pins s2 Y H2 x y v u _ I2 r1 r2 q2) fun c s3 ⟨z,H3,I3,r3,k,e,q3⟩=>?_) hm
 subst e
 cases r3
 exact wpAny_truthy_bool ⟨H3,I3,q3⟩
noncomputable def qR (r r':R2) (ta tb tc:TE):TE:=fun Y H Q=>ta Y H fun x H1=>tb Y H1 fun y H2=>r x y H2 fun z H3=>∃ k,z=.bl k/\
 (if k=true then tc Y H3 fun w' H4=>r' y w' H4 Q else Q (.bl false) H3)
theorem akH{op op':CmpOp}{r r':R2}(ho:G0 X (compareOp op) r)(k7:G0 X (compareOp op') r')(ha:PE X a ta)(hb:PE X b tb)(hc:PE X c tc)(hm:lastMarks [op,op'] [b,c]=false:=by with_unfolding_all rfl):PE X (.Compare a [op,op'] [b,c] pos) (qR r r' ta tb tc):=by
 intro pins s Y H Q I h;refine Compare_chain (A8 (ha pins s Y H _ I h) fun v s1 ⟨x,H1,I1,r1,q1⟩=>chain_link (A8 (hb pins s1 Y H1 _ I1 q1) fun u s2 ⟨y,H2,I2,r2,q2⟩=>
  A8 (ho pins s2 Y H2 x y v u _ I2 r1 r2 q2) fun d s3 ⟨z,H3,I3,r3,k,e,q3⟩=>?_)) hm
 subst e
 cases r3
 refine wpAny_truthy_bool ?_
 cases k with
 | false=>exact ite_ff ⟨.bl false,H3,I3,rfl,q3⟩
 | true=>exact ite_tt (chain_last (A8 (hc pins s3 Y H3 _ I3 q3) fun w' s4 ⟨z',H4,I4,r4,q4⟩=>k7 pins s4 Y H4 y z' u w' Q I4 r2 r4 q4))
noncomputable def TruV (K:PySem.W.Frag) (x:V) (H:Hp) (k:Bool):Prop:=
 match x with
 | .non=>k=false
 | .bl b=>k=b
 | .int i=>k=(i != 0)
 | .str y=>y.length<=sizeLine/\k=((y.length:Int) != 0)
 | .byt y=>y.size<=sizeLine/\k=((y.size:Int) != 0)
 | .ref p=>(∃ xs,D1 K H p xs/\k=!xs.isEmpty)\/(∃ xs,C8 K H p xs/\k=!xs.isEmpty)\/∃ kvs,H p=some (.dK kvs)/\k=!kvs.isEmpty
 | _=>False
theorem ahP{κ:Type}{kvs:List (κ×V)}{vs:List (κ×Value)}(r:KV kvs vs):(!vs.isEmpty)=!kvs.isEmpty:=by
 cases r <;> rfl
theorem yK{xs:List V}{its:List Value}(r:Vals xs its):(!its.toArray.isEmpty)=!xs.isEmpty:=by
 cases r <;> simp
theorem iW:(sizeLine:Nat)<2 ^ 63:=by rw [sizeLine_eq];decide
theorem yL:TruR X (fun x H Q=>∃ k,TruV X.K x H k/\Q k H):=by
 intro pins s Y H x v Q I rx h;obtain ⟨k,e,q⟩:=h;have hl:=iW;have hs:sizeLine=16777216:=sizeLine_eq
 cases x with
 | non=>
  cases rx
  have e':k=false:=e;subst e';exact truthy_none ⟨H,I,q⟩
 | bl b=>
  cases rx
  have e':k=b:=e;subst e';exact wpAny_truthy_bool ⟨H,I,q⟩
 | int i=>
  obtain ⟨t,rfl⟩:=rx;have e':k=(i != 0):=e;subst e';exact PySem.P.truthy_int ⟨H,I,q⟩
 | str y=>
  obtain ⟨t,rfl⟩:=rx;obtain ⟨hy,e'⟩:y.length<=sizeLine/\k=((y.length:Int) != 0):=e;subst e';exact PySem.P.truthy_str (by lia) ⟨H,I.tok _,q⟩
 | byt y=>
  obtain ⟨t,rfl⟩:=rx;obtain ⟨hy,e'⟩:y.size<=sizeLine/\k=((y.size:Int) != 0):=e;subst e';exact PySem.W.truthy_bytes (by lia) ⟨H,I.tok _,q⟩
 | ref p=>
  cases rx
  have e':(∃ xs,D1 X.K H p xs/\k=!xs.isEmpty)\/(∃ xs,C8 X.K H p xs/\k=!xs.isEmpty)\/∃ kvs,H p=some (.dK kvs)/\k=!kvs.isEmpty:=e
  rcases e' with ⟨xs,hx,e'⟩ | ⟨xs,hx,e'⟩ | ⟨kvs,hx,e'⟩
  .subst e';obtain ⟨its,r,pl,hz⟩:=I.list hx;have A9:=r.length;exact wpAny_truthy_list pl.isList (by simp only [J7];lia) ⟨H,I.tok _,by rw [yK r];exact q⟩
  .subst e';obtain ⟨its,r,pl,hz⟩:=I.tuple hx;have A9:=r.length;exact truthy_tuple pl (by simp only [J7];lia) ⟨H,I.tok _,by rw [yK r];exact q⟩
  .subst e';obtain ⟨hz,hS,vs,r,m⟩:kvs.length<=sizeLine/\(p==sysModules)=false/\∃ vs,KV kvs vs/\s.heap.DictOf (N3 X.prog X.w) p vs:=I.hok p _ hx;have A9:kvs.length=vs.length:=Paired.length r;exact wpAny_truthy_dict hS m (by lia) ⟨H,I.tok _,by rw [ahP r];exact q⟩
 | _=>exact (show False from e).elim
theorem akI(ha:PE X a ta)(he:∀ whole,isTrue a X.env whole=(do let v <- whole;standAt a.pos;holding [v] (truthy v))) :
  PT X a (fun Y H Q=>ta Y H fun x H'=>∃ k,TruV X.K x H' k/\Q k H'):=by
 intro pins s Y H Q I h;exact isTrue_plain (A8 (ha pins s Y H _ I h) fun v s1 ⟨x,H1,I1,r1,q1⟩=>yL pins s1 Y H1 x v Q I1 r1 q1) (he _)
theorem ahQ:G0 X (binaryOp .Add) (fun x y H Q=>∃ i j,x=.str i/\y=.str j/\i.length+j.length<=sizeLine/\Q (.str (i++j)) H):=by
 intro pins s Y H x y v u Q I rx ry h;obtain ⟨i,j,rfl,rfl,hz,q⟩:=h;obtain ⟨t,rfl⟩:=rx;obtain ⟨t',rfl⟩:=ry;exact add_str (fun t' tk=>⟨.str (i++j),H,I.tok _,⟨_,rfl⟩,q⟩) hz
theorem vals1{x:V}{us:List Value}(r:Vals [x] us):∃ u,us=[u]/\RelV x u:=by
 cases r with
 | cons r1 r2=>cases r2;exact ⟨_,rfl,r1⟩
theorem vals2{x y:V}{us:List Value}(r:Vals [x,y] us):∃ u w',us=[u,w']/\RelV x u/\RelV y w':=by
 cases r with
 | cons r1 r2=>
  cases r2 with
  | cons r3 r4=>cases r4;exact ⟨_,_,rfl,r1,r3⟩
theorem akJ:CallR X (.builtin "ord") (fun xs H Q=>∃ x,xs=[.str x]/\x.length=1/\Q (.int (x.cps.getD 0 0:Nat)) H):=by
 intro pins s Y H xs us Q I r h;obtain ⟨x,rfl,hz,q⟩:=h;obtain ⟨u,rfl,t,rfl⟩:=vals1 r;exact ord_of_one hz ⟨.int _,H,I.tok _,⟨_,rfl⟩,q⟩
noncomputable def LenV (K:PySem.W.Frag) (x:V) (H:Hp) (n:Nat):Prop:=
 match x with
 | .str y=>y.length<=sizeLine/\n=y.length
 | .byt y=>y.size<=sizeLine/\n=y.size
 | .ref p=>(∃ xs,D1 K H p xs/\n=xs.length)\/∃ xs,C8 K H p xs/\n=xs.length
 | _=>False
theorem qS:CallR X (.builtin "len") (fun xs H Q=>∃ x n,xs=[x]/\LenV X.K x H n/\Q (.int n) H):=by
 intro pins s Y H xs us Q I r h;obtain ⟨x,n,rfl,e,q⟩:=h;obtain ⟨u,rfl,rx⟩:=vals1 r;have hl:=iW;have hs:sizeLine=16777216:=sizeLine_eq
 cases x with
 | str y=>
  obtain ⟨t,rfl⟩:=rx;obtain ⟨hy,e'⟩:y.length<=sizeLine/\n=y.length:=e;subst e';exact len_str (by lia) ⟨.int _,H,I.tok _,⟨_,rfl⟩,q⟩
 | byt y=>
  obtain ⟨t,rfl⟩:=rx;obtain ⟨hy,e'⟩:y.size<=sizeLine/\n=y.size:=e;subst e';exact PySem.W.len_bytes (by lia) ⟨.int _,H,I.tok _,⟨_,rfl⟩,q⟩
 | ref p=>
  cases rx
  have e':(∃ xs,D1 X.K H p xs/\n=xs.length)\/∃ xs,C8 X.K H p xs/\n=xs.length:=e
  rcases e' with ⟨xs,hx,e'⟩ | ⟨xs,hx,e'⟩
  .subst e';obtain ⟨its,r',pl,hz⟩:=I.list hx;have A9:=r'.length;exact Calls.call_len_list pl.isList (by simp only [J7];lia) ⟨.int xs.length,H,I.tok _,⟨_,by simp only [J7];rw [A9]⟩,q⟩
  .subst e';obtain ⟨its,r',pl,hz⟩:=I.tuple hx;have A9:=r'.length;exact len_tuple pl (by simp only [J7];lia) ⟨.int xs.length,H,I.tok _,⟨_,by simp only [J7];rw [A9]⟩,q⟩
 | _=>exact (show False from e).elim
end
end L2
namespace L2
open PySem PySem.Spec PyProof.Rows
structure ObjM(h:Heap)(x dx C:Addr)(mA:Str->Option Value):Prop where
 obj:h.get? x=some (bG C dx)
 ns:h.Ns1 dx mA
 ne:dx≠x
theorem yM{h:Heap}{dx:Addr}{mA:Str->Option Value}(n:h.Ns1 dx mA):∃ od,h.get? dx=some od/\∀ name,PySem.W.lookIn name od=some (mA name):=by
 obtain ⟨o,es,ep,ho,hd,hk,_,hm⟩:=n;refine ⟨o,ho,fun name=>?_⟩;have e:=hm name;unfold nsFind findBy at e;rw [<- Array.find?_toList] at e;unfold PySem.W.lookIn;rw [hd]
 dsimp only
 split
 .rename_i y q
  rw [q] at e;exact congrArg some e
 .rename_i q
  rw [q] at e;have a:es.toList.any (·.refKey)=false:=by
   rw [List.any_eq_false];intro y hy;obtain ⟨z,t,Y8⟩:=hk y (iT.mp hy);simp [DictEntry.refKey,Y8]
  have a':¬ es.toList.any (·.refKey)=true:=by rw [a];exact K9
  rw [if_neg a'];exact congrArg some e
theorem ObjM.look{h:Heap}{x dx C:Addr}{mA:Str->Option Value}(I:ObjM h x dx C mA):∃ od,PySem.W.InstAt h x (bG C dx) C (some od)/\∀ name,PySem.W.lookIn name od=some (mA name):=
 let ⟨od,ho,hl⟩:=yM I.ns
 ⟨od,⟨I.obj,rfl,rfl,ho⟩,hl⟩
section
variable {prog:Program} {w:World} {A:Around} {E:Value->Shared->Prop} {s:Shared} {K:PySem.W.Frag} {x dx C f:Addr} {mA:Str->Option Value} {name:Str} {v:Value}
theorem amP{expr:Bool}{Q:Value->Shared->Prop}(X:K.In s.heap)(I:ObjM s.heap x dx C mA)(hg:fG K C name=true)(hh:bF K C=true)(ha:F8 K (.ref C) name=some none)(hv:mA name=some v)(u9:PySem.W.handedIn v=true)(h:Q v { s with toks:=s.toks+1 }) :
  wpAny (model prog w) A (getAttr (.ref x) name expr) Q E s:=by
 obtain ⟨od,J,hl⟩:=I.look;exact PySem.W.get_value X J (PySem.W.plainGet_of hg).1 (PySem.W.findObj_own hh ha rfl (by rw [hl,hv])) u9 h
theorem akK{pl:Sem Bool}{Q:Value×List Value->Shared->Prop}(X:K.In s.heap)(I:ObjM s.heap x dx C mA)(hg:fG K C name=true)(hf:F8 K (.ref C) name=some (some (.ref f)))(ht:V4 K (.ref f)=true)(hv:mA name=none)(h:Q (.ref f,[.ref x]) s) :
  wpAny (model prog w) A (getMethod (.ref x) name pl) Q E s:=by
 obtain ⟨od,J,hl⟩:=I.look;exact PySem.W.method_fn X J (PySem.W.plainGet_of hg).1 (PySem.W.plainGet_of hg).2 hf (beq_iff_eq.mp ht) (by show (PySem.W.lookIn name od).map (·.isSome)=some false;rw [hl,hv];rfl) h
theorem amQ{ns:List Str}{Q:Unit->Shared->Prop}(X:K.In s.heap)(I:ObjM s.heap x dx C mA)(hs:F8 K (.ref C) "__setattr__"=some (some (.builtin "object.__setattr__")))(hp:PySem.W.plainOver K C=true)(ht:PySem.W.takerIn K C name=some none)(hh:bF K C=true)(hw:PySem.Within mA ns)(hsz:ns.length<=sizeLine)(h:∀ h',ObjM h' x dx C (fun y=>if y=name then some v else mA y)->Heap.SameBut dx s.heap h'->Q () { s with heap:=h',toks:=s.toks+2 }) :
  wpAny (model prog w) A (setAttr (.ref x) name v) Q E s:=by
 obtain ⟨od,J,hl⟩:=I.look;refine PySem.W.set_plain X J hs (PySem.W.osa_open (s:={ s with toks:=s.toks+1 }) (r:=none) X J hp ht fun b=>?_);obtain ⟨cd,hc,vJ⟩:=PySem.W.any_some hh;have hx:s.heap.get? x=some ⟨.ref C,some dx,.plain,#[]⟩:=I.obj;refine wpAny_bind (wpAny_pure (wpAny_bind (wpAny_bind (wpAny_loadPart hx (wpAny_bind (PySem.W.Looks.here (s:={ s with toks:=s.toks+1 }) (PySem.W.looks_clsIn X hc) ?_))))));rw [vJ];refine wpAny_pure (a:=some dx) (wpAny_bind (wpAny_pure (wpAny_bind ?_)));refine wpAny_nsSet1 (s:={ s with toks:=s.toks+1 }) I.ns fun h' k9 gW=>?_
 obtain ⟨oD,esD,epD,hoD,hdD,hcD⟩:=k9.count (PySem.Within.cons name v hw);refine wpAny_bind (wpAny_lookBehind hoD (by rw [hdD];exact pastItsLine_dict (F6 hcD (by rw [E8];lia))) ?_);exact wpAny_pure (h _ ⟨(gW.2 _ (Ne.symm I.ne)).trans I.obj,k9,I.ne⟩ gW)
theorem akL{R:Result->Shared->Prop}{vs:List Value}{kw:List (Str×Value)}(X:K.In s.heap)(hm:PySem.W.makesIn K C=true)(hi:F8 K (.ref C) "__init__"=some (some (.ref f)))(hf:PySem.W.typeIn K (.ref f)=some (.type "function"))(h:codeAny (model prog w) (A.under (.builtin "type.__call__" ⟨.ref C::vs,kw⟩)) (.call (.ref f) ⟨.ref (s.heap.objs.size+1)::vs,kw⟩) (PySem.W.InitBack (s.heap.objs.size+1) R)
   { s with heap:=(s.heap.push x6).push (bG C s.heap.objs.size) }) :
  codeAny (model prog w) A (.call (.ref C) ⟨vs,kw⟩) R s:=by
 obtain ⟨hh,g,d,t,os⟩:=s;exact PySem.W.make_core (PySem.W.makes_of X hm) (PySem.W.looks_findIn X hi) (fun self=>PySem.W.bind_fn X self hf) (.inl rfl) h
end
noncomputable def putF (f:Str) (v:V):List (Str×V)->List (Str×V)
 | []=>[(f,v)]
 | (g,x)::r=>if g=f then (g,v)::r else (g,x)::putF f v r
theorem fS(f g:Str)(v:V):∀ fs:List (Str×V),(putF f v fs).lookup g=if g=f then some v else fs.lookup g
 | []=>by
  show List.lookup g [(f,v)]=_
  by_cases h:g=f
  .have hb:(g==f)=true:=beq_iff_eq.mpr h;simp only [List.lookup,hb,if_pos h]
  .have hb:(g==f)=false:=beq_eq_false_iff_ne.mpr h;simp only [List.lookup,hb,if_neg h]
 | (k,x)::r=>by
  have ih:=fS f g v r;rw [show putF f v ((k,x)::r)=(if k=f then (k,v)::r else (k,x)::putF f v r) from rfl]
  by_cases hk:k=f
  .rw [if_pos hk]
   by_cases h:g=k
   .have hb:(g==k)=true:=beq_iff_eq.mpr h;simp only [List.lookup,hb,if_pos (h.trans hk)]
   .have hb:(g==k)=false:=beq_eq_false_iff_ne.mpr h;simp only [List.lookup,hb,if_neg (fun e:g=f=>h (e.trans hk.symm))]
  .rw [if_neg hk]
   by_cases h:g=k
   .have hb:(g==k)=true:=beq_iff_eq.mpr h;simp only [List.lookup,hb,if_neg (fun e:g=f=>hk (h.symm.trans e))]
   .have hb:(g==k)=false:=beq_eq_false_iff_ne.mpr h;simp only [List.lookup,hb];exact ih
theorem qT(f:Str)(v:V):∀ fs:List (Str×V),f∈(putF f v fs).map (·.1)/\∀ g,g∈fs.map (·.1)->g∈(putF f v fs).map (·.1)
 | []=>⟨by simp [putF],fun g h=>by simp at h⟩
 | (k,x)::r=>by
  obtain ⟨i1,i2⟩:=qT f v r;rw [show putF f v ((k,x)::r)=(if k=f then (k,v)::r else (k,x)::putF f v r) from rfl]
  by_cases hk:k=f
  .rw [if_pos hk];subst hk;exact ⟨by simp,fun g h=>by simpa using h⟩
  .rw [if_neg hk];refine ⟨?_,fun g h=>?_⟩
   .rw [D0];exact G5 _ i1
   .rw [D0] at h ⊢
    rcases D7.mp h with e | e
    .exact D7.mpr (.inl e)
    .exact G5 _ (i2 g e)
theorem qU(f:Str)(v:V):∀ fs:List (Str×V),(putF f v fs).length<=fs.length+1
 | []=>by simp [putF]
 | (k,x)::r=>by
  have ih:=qU f v r;rw [show putF f v ((k,x)::r)=(if k=f then (k,v)::r else (k,x)::putF f v r) from rfl]
  by_cases hk:k=f
  .rw [if_pos hk,E8,E8];lia
  .rw [if_neg hk,E8,E8];lia
theorem iX{v:V}{o:Option Value}(r:RelO (some v) o):∃ u,o=some u/\RelV v u:=by
 cases o with
 | none=>exact (show False from r).elim
 | some u=>exact ⟨u,rfl,r⟩
theorem RelO.none_of{o:Option Value}(r:RelO none o):o=none:=by
 cases o with
 | none=>rfl
 | some u=>exact (show False from r).elim
theorem yN{v:V}{u:Value}(r:RelV v u):PySem.W.handedIn u=true:=by
 cases v with
 | non=>cases (show u=Value.none from r);rfl
 | bl b=>cases (show u=Value.bool b from r);rfl
 | int i=>obtain ⟨t,e⟩:=(show ∃ t,u=Value.int i t from r);cases e;rfl
 | str x=>obtain ⟨t,e⟩:=(show ∃ t,u=Value.str x t from r);cases e;rfl
 | byt b=>obtain ⟨t,e⟩:=(show ∃ t,u=Value.bytes b t from r);cases e;rfl
 | flt b=>obtain ⟨t,e⟩:=(show ∃ t,u=Value.float b t from r);cases e;rfl
 | ref a=>cases (show u=Value.ref a from r);rfl
 | ty n=>cases (show u=Value.type n from r);rfl
section
variable {P:Program} {w:World} {H H':Hp} {h h':Heap} {a C dx:Addr} {fs fs':List (Str×V)}
theorem mI(hok:K1 P w H h)(e:H a=some (.ins C dx fs)):∃ mA,ObjM h a dx C mA/\(∀ f,RelO (fs.lookup f) (mA f))/\PySem.Within mA (fs.map (·.1))/\fs.length<=1000/\H dx=some (.own a):=by
 obtain ⟨d,z,ne,ob,mA,n,r,q⟩:=(show ObjOk P w H h a (.ins C dx fs) from hok a _ e)
 exact ⟨mA,⟨ob,n,ne⟩,r,q,z,d⟩
end
structure Cls(K:PySem.W.Frag)(C:Addr):Prop where
 pg:fG K C Str.empty=true
 hd:bF K C=true
 po:PySem.W.plainOver K C=true
 sa:F8 K (.ref C) "__setattr__"=some (some (.builtin "object.__setattr__"))
theorem Cls.get{K:PySem.W.Frag}{C:Addr}(c:Cls K C)(f:Str):fG K C f=true:=c.pg
noncomputable def NoAttr (K:PySem.W.Frag) (C:Addr) (f:Str):Prop:=F8 K (.ref C) f=some none
theorem NoAttr.taker{K:PySem.W.Frag}{C:Addr}{f:Str}(n:NoAttr K C f):PySem.W.takerIn K C f=some none:=by
 unfold PySem.W.takerIn;rw [show F8 K (.ref C) f=some none from n];rfl
structure Meth(K:PySem.W.Frag)(C:Addr)(m:Str)(f:Addr):Prop where
 at_:F8 K (.ref C) m=some (some (.ref f))
 fn:V4 K (.ref f)=true
 kp:N4 K (.ref f)=true
section
variable {X:Cx} {pins:List (Addr×Obj)} {Y:St} {H:Hp} {s:Shared} {a C dx:Addr} {fs:List (Str×V)} {f:Str} {v:V} {A:Around} {E:Value->Shared->Prop}
theorem yO{b:Bool}{Q:Value->Shared->Prop}(I:Inv X pins Y H s)(e:H a=some (.ins C dx fs))(c:Cls X.K C)(n:NoAttr X.K C f)(l:fs.lookup f=some v)(h:∀ u s',Inv X pins Y H s'->RelV v u->Q u s'):wpAny (model X.prog X.w) A (getAttr (.ref a) f b) Q E s:=by
 obtain ⟨mA,O,r,_,_,_⟩:=mI I.hok e;obtain ⟨u,hu,ru⟩:=iX (v:=v) (o:=mA f) (by rw [<- l];exact r f);exact amP I.kIn O (c.get f) c.hd n hu (yN ru) (h u _ (I.tok _) ru)
theorem yP{m:Str}{g:Addr}{pl:Sem Bool}{Q:Value×List Value->Shared->Prop}(I:Inv X pins Y H s)(e:H a=some (.ins C dx fs))(c:Cls X.K C)(k:Meth X.K C m g)(l:fs.lookup m=none)(h:Q (.ref g,[.ref a]) s):wpAny (model X.prog X.w) A (getMethod (.ref a) m pl) Q E s:=by
 obtain ⟨mA,O,r,_,_,_⟩:=mI I.hok e;have hn:mA m=none:=RelO.none_of (by rw [<- l];exact r m);exact akK I.kIn O (c.get m) k.at_ k.fn hn h
theorem yQ{y:V}{u:Value}{Q:Unit->Shared->Prop}(I:Inv X pins Y H s)(e:H a=some (.ins C dx fs))(c:Cls X.K C)(n:NoAttr X.K C f)(hl:fs.length<1000)(ry:RelV y u)(h:∀ s',Inv X pins Y (A0 H a (.ins C dx (putF f y fs))) s'->Q () s'):wpAny (model X.prog X.w) A (setAttr (.ref a) f u) Q E s:=by
 obtain ⟨mA,O,r,wi,_,ho⟩:=mI I.hok e;have hz:(fs.map (·.1)).length<=sizeLine:=by rw [A4,sizeLine_eq];lia
 refine amQ I.kIn O c.sa c.po n.taker c.hd wi hz fun h' O' sb=>h _ ?_
 have hd:∃ o,h'.get? dx=some o:=let ⟨o,_,_,e',_⟩:=O'.ns;⟨o,e'⟩
 refine I.write (x:=a) (e:=dx) (by rw [e];exact True.intro) (.inr ho) (fun b q hb z=>(sb.2 b hb).trans z) hd ?_;refine ⟨by rw [A3 O.ne];exact ho,?_,O.ne,O'.obj,_,O'.ns,fun g=>?_,fun g hg=>?_⟩
 .have:=qU f y fs;lia
 .show RelO ((putF f y fs).lookup g) (if g=f then some u else mA g);rw [fS]
  by_cases q:g=f
  .rw [if_pos q,if_pos q];exact ry
  .rw [if_neg q,if_neg q];exact r g
 .by_cases q:g=f
  .rw [q];exact (qT f y fs).1
  .refine (qT f y fs).2 g (wi g fun z=>hg ?_);show (if g=f then some u else mA g)=none;rw [if_neg q];exact z
theorem Inv.made(I:Inv X pins Y H s):Inv X pins Y (A0 (A0 H s.heap.objs.size (.own (s.heap.objs.size+1))) (s.heap.objs.size+1) (.ins C s.heap.objs.size []))
  { s with heap:=(s.heap.push x6).push (bG C s.heap.objs.size) }:=by
 have e1:(s.heap.push x6).get? s.heap.objs.size=some x6:=Heap.get?_push_size s.heap rfl;have e2:((s.heap.push x6).push (bG C s.heap.objs.size)).get? (s.heap.objs.size+1)=some (bG C s.heap.objs.size):=by
  have:=Heap.get?_push_size (s.heap.push x6) (o:=bG C s.heap.objs.size) rfl
  rwa [Heap.size_push] at this
 have e3:(s.heap.push x6).Ns s.heap.objs.size (fun _=>none):=⟨x6,#[],_,e1,rfl,(fun e he=>absurd he (by simp)),fun _=>rfl⟩
 have I1:=I.laid (a:=s.heap.objs.size) (o:=.own (s.heap.objs.size+1)) (h':=s.heap.push x6) (t':=s.toks) (fun b u q=>Heap.get?_push_of_some _ q) (C2 _) ⟨_,e1⟩;refine I1.laid (a:=s.heap.objs.size+1) (o:=.ins C s.heap.objs.size []) (t':=s.toks) (fun b u q=>Heap.get?_push_of_some _ q) (Nat.le_of_eq (Heap.size_push _ _)) ?_;have ne:s.heap.objs.size≠s.heap.objs.size+1:=K4 (Nat.lt_succ_self _);refine ⟨by rw [A3 ne,A1],K8 _,ne,e2,fun _=>none,(Heap.Ns1.of_empty e3).at fun o q=>Heap.get?_push_of_some _ q,fun _=>True.intro,fun y hy=>absurd rfl hy⟩
theorem yR{prog:Program}{w:World}{env:Env}{e:Expr}{f:Str}{pos:Pos}{s:Shared}{Q:Value->Shared->Prop}(hb:attributeBase e f env (eval e env)=eval e env)(h:wpAny (model prog w) A (eval e env) (fun o zw=>wpAny (model prog w) A (getAttr o f true) Q E zw) E s):wpAny (model prog w) A (eval (.Attribute e f pos) env) Q E s:=
 Attribute_any_ h (by rw [arm_eval_Attribute,hb])
end
noncomputable def tFld (K:PySem.W.Frag) (ta:TE) (f:Str):TE:=fun Y H Q=>ta Y H fun x H1=>∃ a C dx fs v,x=.ref a/\H1 a=some (.ins C dx fs)/\Cls K C/\NoAttr K C f/\fs.lookup f=some v/\Q v H1
noncomputable def sFld (K:PySem.W.Frag) (ta tv:TE) (f:Str):TS:=fun D Y H=>tv Y H fun y H1=>ta Y H1 fun x H2=>∃ a C dx fs,x=.ref a/\H2 a=some (.ins C dx fs)/\Cls K C/\NoAttr K C f/\fs.length<1000/\
 D.nx Y (A0 H2 a (.ins C dx (putF f y fs)))
noncomputable def InOp (X:Cx) (op:Operator) (rd:V->V->Hp->VK->Prop):Prop:=
 ∀ (pins:List (Addr×Obj)) (s:Shared) (Y:St) (H:Hp) (x y:V) (u v:Value) (Q:VK),Inv X pins Y H s->RelV x u->RelV y v->rd x y H Q->wpAny (model X.prog X.w) X.A (inplaceOp op u v) (EP X pins Y Q) X.xe s
noncomputable def qV (K:PySem.W.Frag) (ta tv:TE) (rd:V->V->Hp->VK->Prop) (f:Str):TS:=fun D Y H=>ta Y H fun x H1=>∃ a C dx fs v,x=.ref a/\H1 a=some (.ins C dx fs)/\Cls K C/\NoAttr K C f/\fs.lookup f=some v/\
 tv Y H1 fun y H2=>rd v y H2 fun z H3=>∃ dx' fs',H3 a=some (.ins C dx' fs')/\fs'.length<1000/\D.nx Y (A0 H3 a (.ins C dx' (putF f z fs')))
section
variable {X:Cx} {o e value:Expr} {f:Str} {pos pos' tpos:Pos} {ta tv:TE}
theorem aoO(he:PE X e ta)(hb:attributeBase e f X.env (eval e X.env)=eval e X.env):PE X (.Attribute e f pos) (tFld X.K ta f):=by
 intro pins s Y H Q I h;refine yR hb (A8 (he pins s Y H _ I h) fun u s1 ⟨x,H1,I1,rx,a,C,dx,fs,v,ex,ea,c,n,l,q⟩=>?_);subst ex;obtain rfl:u=Value.ref a:=rx;exact yO I1 ea c n l fun u' s2 I2 ru=>⟨v,H1,I2,ru,q⟩
theorem aoP(ha:PE X o ta)(hv:PE X value tv)(hs:swapsWith value (some (.Attribute o f pos')) pos.line X.env=pure false):PS X (.Assign [.Attribute o f pos'] value pos) (sFld X.K ta tv f):=by
 intro pins s Y H D I h;refine plainObj_wpAny_Assign_Attribute (A8 (hv pins s Y H _ I h) fun u s1 ⟨y,H1,I1,ry,q⟩=>A8 (ha pins s1 Y H1 _ I1 q) fun ov s2 ⟨x,H2,I2,rx,a,C,dx,fs,ex,ea,c,n,l,q2⟩=>?_) hs;subst ex;obtain rfl:ov=Value.ref a:=rx;exact yQ I2 ea c n l ry fun s3 I3=>⟨Y,_,I3,q2⟩
theorem aiM{op:Operator}{rd:V->V->Hp->VK->Prop}(ha:PE X o ta)(hv:PE X value tv)(dS:InOp X op rd):PS X (.AugAssign (.Attribute o f tpos) op value pos) (qV X.K ta tv rd f):=by
 intro pins s Y H D I h;refine wpAny_AugAssign_AttributeAny (A8 (ha pins s Y H _ I h) fun ov s1 ⟨x,H1,I1,rx,a,C,dx,fs,v,ex,ea,c,n,l,q⟩=>?_);subst ex;obtain rfl:ov=Value.ref a:=rx;refine yO I1 ea c n l fun u s2 I2 ru=>A8 (hv pins s2 Y H1 _ I2 q) fun w3 s3 ⟨y,H2,I3,ry,q3⟩=>A8 (dS pins s3 Y H2 v y u w3 _ I3 ru ry q3) fun w4 s4 ⟨z,H3,I4,rz,dx',fs',ea',l',q4⟩=>?_
 exact yQ I4 ea' c n l' rz fun s5 I5=>⟨Y,_,I5,q4⟩
noncomputable def rAdd:V->V->Hp->VK->Prop:=fun x y H Q=>∃ i j,x=.int i/\y=.int j/\Q (.int (i+j)) H
noncomputable def rSub:V->V->Hp->VK->Prop:=fun x y H Q=>∃ i j,x=.int i/\y=.int j/\Q (.int (i-j)) H
theorem aoQ:InOp X .Add rAdd:=by
 rintro pins s Y H x y u v Q I rx ry ⟨i,j,rfl,rfl,q⟩;obtain ⟨t,rfl⟩:=(show ∃ t,u=Value.int i t from rx)
 obtain ⟨t',rfl⟩:=(show ∃ t',v=Value.int j t' from ry)
 exact PyProof.Rows.iadd_int ⟨.int (i+j),H,I.tok _,⟨_,rfl⟩,q⟩
theorem aoR:InOp X .Sub rSub:=by
 rintro pins s Y H x y u v Q I rx ry ⟨i,j,rfl,rfl,q⟩;obtain ⟨t,rfl⟩:=(show ∃ t,u=Value.int i t from rx)
 obtain ⟨t',rfl⟩:=(show ∃ t',v=Value.int j t' from ry)
 exact PyProof.Rows.isub_int ⟨.int (i-j),H,I.tok _,⟨_,rfl⟩,q⟩
end
section
variable {X:Cx} {pins:List (Addr×Obj)} {Y:St} {H:Hp} {s:Shared} {A:Around} {E:Value->Shared->Prop} {Q:Value->Shared->Prop} {c:Value} {b:Bool}
inductive TyOf (K:PySem.W.Frag) (H:Hp):V->Value->Prop where
 | non:TyOf K H .non (.type "NoneType")
 | bl (x:Bool):TyOf K H (.bl x) (.type "bool")
 | int (i:Int):TyOf K H (.int i) (.type "int")
 | str (x:Str):TyOf K H (.str x) (.type "str")
 | flt (x:UInt64):TyOf K H (.flt x) (.type "float")
 | lst {a:Addr} {xs:List V} (e:H a=some (.lst xs)):TyOf K H (.ref a) (.type "list")
 | frz {a:Addr} {o:Obj} {xs:List V} (e:H a=some (.frz o (.lst xs))):TyOf K H (.ref a) (.type "list")
 | tup {a:Addr} {xs:List V} (e:H a=some (.tup xs)):TyOf K H (.ref a) (.type "tuple")
 | dK {a:Addr} {kvs:List (B5×V)} (e:H a=some (.dK kvs)):TyOf K H (.ref a) (.type "dict")
 | dT {a:Addr} {kvs:List (List B5×V)} (e:H a=some (.dT kvs)):TyOf K H (.ref a) (.type "dict")
 | ins {a C dx:Addr} {fs:List (Str×V)} (e:H a=some (.ins C dx fs)) (cl:Cls K C) (ha:F8 K (.ref C) "__class__"=some (some (.builtin "object.__class__")))
   (hn:x5 K (.builtin "object.__class__") "__get__"=some (some (.builtin "getset_descriptor.__get__"))) (pA:cV K (.builtin "object.__class__")=some true)
   (hm:N0 K C (.type "object")=some true):TyOf K H (.ref a) (.ref C)
theorem aiN{x:V}{u t:Value}(I:Inv X pins Y H s)(rx:RelV x u)(ty:TyOf X.K H x t)(e:D8 X.K t c=some b)(h:∀ tk,Q (.bool b) { s with toks:=tk }) :
  wpAny (model X.prog X.w) A (call (.builtin "isinstance") [u,c]) Q E s:=by
 cases ty with
 | non=>cases (show u=Value.none from rx);exact c9 PySem.W.kitx_none I.kIn True.intro e (fun z=>nomatch z) h
 | bl y=>cases (show u=Value.bool y from rx);exact c9 PySem.W.kitx_bool I.kIn True.intro e (fun z=>nomatch z) h
 | int i=>obtain ⟨t,q⟩:=(show ∃ t,u=Value.int i t from rx);cases q;exact c9 PySem.W.kitx_int I.kIn True.intro e (fun z=>nomatch z) h
 | str y=>obtain ⟨t,q⟩:=(show ∃ t,u=Value.str y t from rx);cases q;exact c9 PySem.W.kitx_str I.kIn True.intro e (fun z=>nomatch z) h
 | flt y=>obtain ⟨t,q⟩:=(show ∃ t,u=Value.float y t from rx);cases q;exact c9 PySem.W.kitx_float I.kIn True.intro e (fun z=>nomatch z) h
 | @lst a xs ea=>
  cases (show u=Value.ref a from rx)
  obtain ⟨_,_,n,_,h1⟩:=(show ObjOk X.prog X.w H s.heap a (.lst xs) from I.hok a _ ea)
  exact c9 PySem.W.kitx_list I.kIn ⟨_,h1,rfl⟩ e (fun z=>nomatch z) h
 | @frz a ob xs ea=>
  cases (show u=Value.ref a from rx)
  obtain ⟨_,_,_,n,_,h1⟩:=(show ObjOk X.prog X.w H s.heap a (.frz ob (.lst xs)) from I.hok a _ ea)
  exact c9 PySem.W.kitx_list I.kIn ⟨_,h1,rfl⟩ e (fun z=>nomatch z) h
 | @tup a xs ea=>
  cases (show u=Value.ref a from rx)
  obtain ⟨_,_,_,p⟩:=(show ObjOk X.prog X.w H s.heap a (.tup xs) from I.hok a _ ea)
  obtain ⟨o,h1,h2,_⟩:=p;exact c9 PySem.W.kitx_tuple I.kIn ⟨o,h1,h2⟩ e (fun z=>nomatch z) h
 | @dK a kvs ea=>
  cases (show u=Value.ref a from rx)
  obtain ⟨_,_,vs,_,p⟩:=(show ObjOk X.prog X.w H s.heap a (.dK kvs) from I.hok a _ ea)
  obtain ⟨o,es,ep,h1,h2,_⟩:=p;exact c9 PySem.W.kitx_dict I.kIn ⟨o,h1,h2.1⟩ e (fun z=>nomatch z) h
 | @dT a kvs ea=>
  cases (show u=Value.ref a from rx)
  obtain ⟨_,_,xs,_,o,es,ep,h1,h2,_⟩:=(show ObjOk X.prog X.w H s.heap a (.dT kvs) from I.hok a _ ea)
  exact c9 PySem.W.kitx_dict I.kIn ⟨o,h1,h2.1⟩ e (fun z=>nomatch z) h
 | @ins a C dx fs ea cl ha hn pA hm=>
  cases (show u=Value.ref a from rx)
  obtain ⟨mA,O,_⟩:=mI I.hok ea;obtain ⟨od,J,_⟩:=O.look;exact c9 (PySem.W.kitx_own (cl.get _) cl.hd ha hn pA hm) I.kIn J e (fun z=>nomatch z) h
end
end L2
namespace L2
open PySem PySem.Spec PyProof.Rows
structure Room(k:Nat)(A:Around):Prop where
 hd:A.handled=none
 dp:A.depth+3*k+5<recursionLimit
 un:A.units+16*k+200<cLine
 gd:A.guards=some []
theorem Room.mono{j k:Nat}{A:Around}(r:Room k A)(h:j<=k):Room j A:=⟨r.hd,by have:=r.dp;lia,by have:=r.un;lia,r.gd⟩
theorem Room.deeper{k:Nat}{A:Around}(r:Room (k+1) A)(env:Env):Room k (A.deeper env):=
 ⟨r.hd,by have:=r.dp;show A.depth+1+3*k+5<_;lia,by have:=r.un;show A.units+3+16*k+200<_;lia,r.gd⟩
theorem ahR{A:Around}{C:Addr}{us:List Value}{kw:List (Str×Value)} : (A.under (.builtin "type.__call__" ⟨.ref C::us,kw⟩)).depth=A.depth+1:=by
 first | rfl | simp [Around.under,Code.weight,Code.isCreation,Code.isGuard,Code.isCaller,Code.frames,Code.isFrame,guardIds]
theorem ahS{A:Around}{C:Addr}{us:List Value}{kw:List (Str×Value)} : (A.under (.builtin "type.__call__" ⟨.ref C::us,kw⟩)).units=A.units+1:=by
 first | rfl | simp [Around.under,Code.cUnits,Code.frames,Code.isFrame]
theorem Room.make{k:Nat}{A:Around}(r:Room (k+1) A)(C:Addr)(us:List Value)(kw:List (Str×Value)):Room k (A.under (.builtin "type.__call__" ⟨.ref C::us,kw⟩)):=
 ⟨r.hd,by have:=r.dp;rw [ahR];lia,by have:=r.un;rw [ahS];lia,r.gd⟩
theorem Room.depth{k:Nat}{A:Around}(r:Room k A):A.depth<recursionLimit:=by have:=r.dp;lia
theorem Room.units{k:Nat}{A:Around}(r:Room k A):A.units+64<cLine:=by have:=r.un;lia
noncomputable def tNil:TA:=fun _ H Q=>Q [] H
noncomputable def tCons (ta:TE) (tr:TA):TA:=fun Y H Q=>ta Y H fun x H1=>tr Y H1 fun xs H2=>Q (x::xs) H2
section
variable {X:Cx} {e:Expr} {es:List Expr} {te:TE} {t:TA} {pos:Pos}
theorem aoS:PA X [] tNil:=fun _ _ _ _ H Q I h=>Calls.spliced_nil ⟨[],H,I,.nil,h⟩
theorem amR(ha:PE X e te)(hr:PA X es t)(hs:starEach (e::es) X.env=(false,eval e X.env)::starEach es X.env:=by rfl):PA X (e::es) (tCons te t):=by
 intro pos pins s Y H Q I h;rw [hs];show wpAny _ _ (spliced ((false,eval e X.env)::backTo pos (starEach es X.env))) _ _ s;refine Calls.spliced_cons (A8 (ha pins s Y H _ I h) fun u s1 ⟨x,H1,I1,r1,q1⟩=>?_);exact A8 (hr pos pins s1 Y H1 _ I1 q1) fun us s2 ⟨xs,H2,I2,r2,q2⟩=>⟨x::xs,H2,I2,.cons r1 r2,q2⟩
noncomputable def tTup (t:TA):TE:=fun Y H Q=>t Y H fun xs H1=>xs.length<=sizeLine/\∀ p,H1 p=none->Q (.ref p) (A0 H1 p (.tup xs))
noncomputable def tLst (t:TA):TE:=fun Y H Q=>t Y H fun xs H1=>xs.length<=sizeLine/\∀ p,H1 p=none->Q (.ref p) (A0 H1 p (.lst xs))
theorem aoT{x1}(h:PA X es t):PE X (.Tuple es x1 pos) (tTup t):=by
 intro pins s Y H Q I hq;refine wpAny_Tuple_spliced (A8 (h pos pins s Y H _ I hq) fun us s1 ⟨xs,H1,I1,r,z,q⟩=>⟨by rw [<- r.length];exact z,?_⟩);have hf:H1 s1.heap.objs.size=none:=I1.hok.fresh (C2 _);refine ⟨.ref s1.heap.objs.size,A0 H1 s1.heap.objs.size (.tup xs),I1.laid (t':=s1.toks) (fun b u e=>Heap.get?_push_of_some _ e) (C2 _) ?_,rfl,q _ hf⟩;exact ⟨z,us,r,⟨_,Heap.get?_push_size _ rfl,rfl,_,rfl⟩⟩
theorem aoU(h:PA X es t):PE X (.List es pos) (tLst t):=by
 intro pins s Y H Q I hq;refine wpAny_List_spliced (A8 (h pos pins s Y H _ I hq) fun us s1 ⟨xs,H1,I1,r,z,q⟩=>⟨by rw [<- r.length];exact z,?_⟩);have hf:H1 s1.heap.objs.size=none:=I1.hok.fresh (C2 _);refine ⟨.ref s1.heap.objs.size,A0 H1 s1.heap.objs.size (.lst xs),I1.laid (t':=s1.toks) (fun b u e=>Heap.get?_push_of_some _ e) (C2 _) ?_,rfl,q _ hf⟩;exact ⟨z,us,0,r,Heap.get?_push_size _ rfl⟩
end
noncomputable abbrev Sp:=List V->Hp->VK->XK->Prop
noncomputable abbrev V6:=List Env->Hp->Shared->XK->Value->Shared->Prop
structure Env0(P:Program)(w:World)(K:PySem.W.Frag)(mg:Str->Option Value)(base:Heap)(A:Around)(outer:List Env)(s:Shared)(H:Hp):Prop where
 frames:A.frames=some outer
 mod:Mod K mg base
 bs:∀ b o,base.get? b=some o->s.heap.get? b=some o/\H b=none
 bsz:base.objs.size<=s.heap.objs.size
 funs:s.heap.FunFrames base outer
 frf:∀ b∈P8 outer,H b=none
 hok:K1 P w H s.heap
 bare:AllBare s.gens
noncomputable def CE (outer:List Env) (P:Program) (w:World) (H:Hp) (s:Shared) (Q:VK) (u:Value) (s':Shared):Prop:=
 ∃ v H',s'.os=s.os/\AllBare s'.gens/\Un (P8 outer) [] H H' s.heap s'.heap/\K1 P w H' s'.heap/\RelV v u/\Q v H'
noncomputable def CR (CX:V6) (outer:List Env) (P:Program) (w:World) (H:Hp) (s:Shared) (Q:VK) (E:XK) (r:Result) (s':Shared):Prop:=
 match r with
 | .ok (.ret u)=>CE outer P w H s Q u s'
 | .ok _=>False
 | .error e=>CX outer H s E e s'
structure FnOk(P:Program)(w:World)(K:PySem.W.Frag)(mg:Str->Option Value)(base:Heap)(CX:V6)(k:Nat)(f:Addr)(fd:FuncData)(ps:List Str)(sp:Sp):Prop where
 len:∀ vs H Q E,sp vs H Q E->vs.length=ps.length
 run:∀ (A:Around) (outer:List Env) (s:Shared) (H:Hp) (args:Args) (us:List Value) (vs:List V) (Q:VK) (E:XK),Room k A->Env0 P w K mg base A outer s H->BindsTo s fd args (ps.zip us)->Vals vs us->sp vs H Q E->
  codeAny (model P w) A (.call (.ref f) args) (CR CX outer P w H s Q E) s
theorem Env0.make{P:Program}{w:World}{K:PySem.W.Frag}{mg:Str->Option Value}{base:Heap}{A:Around}{outer:List Env}{s:Shared}{H:Hp}(e:Env0 P w K mg base A outer s H)(C:Addr)(us:List Value)(kw:List (Str×Value)) :
  Env0 P w K mg base (A.under (.builtin "type.__call__" ⟨.ref C::us,kw⟩)) outer s H:=⟨by first | exact e.frames | (simpa [Around.under,Code.envs,Code.isFrame,pushEnvs] using e.frames),e.mod,e.bs,e.bsz,e.funs,e.frf,e.hok,e.bare⟩
section
variable {X:Cx} {pins:List (Addr×Obj)} {Y:St} {H:Hp} {s s':Shared}
theorem Inv.env0(I:Inv X pins Y H s):Env0 X.prog X.w X.K X.mg X.base X.A X.stack s H:=
 ⟨I.ok.frames,I.ok.mod,I.bs,F6 I.ok.bsz I.sz,I.stack,I.stkFree,I.hok,I.bare⟩
theorem Inv.after{Q:VK}{u:Value}(I:Inv X pins Y H s)(h:CE X.stack X.prog X.w H s Q u s'):EP X pins Y Q u s':=by
 obtain ⟨v,H',os,bare,un,hok,r,q⟩:=h;obtain ⟨hh,g,d,t,os'⟩:=s';obtain rfl:os'=s.os:=os;exact ⟨v,H',I.call (h':=hh) (g':=g) (d':=d) (t':=t) (ch:=[]) un hok bare (fun b z=>absurd z (by simp)),r,q⟩
end
noncomputable def tCall (sp:Sp) (dvs:List V) (E:XK) (t:TA):TE:=fun Y H Q=>t Y H fun vs H1=>sp (vs++dvs) H1 Q E
noncomputable def tMeth (C:Addr) (m:Str) (sp:Sp) (dvs:List V) (E:XK) (ta:TE) (t:TA):TE:=fun Y H Q=>ta Y H fun x H1=>∃ a dx fs,x=.ref a/\H1 a=some (.ins C dx fs)/\fs.lookup m=none/\
 t Y H1 fun vs H2=>sp (x::(vs++dvs)) H2 Q E
noncomputable def tMake (C:Addr) (sp:Sp) (dvs:List V) (E:XK) (t:TA):TE:=fun Y H Q=>t Y H fun vs H1=>∀ x dx,H1 x=none->H1 dx=none->dx≠x->
 sp (.ref x::(vs++dvs)) (A0 (A0 H1 dx (.own x)) x (.ins C dx [])) (fun v H2=>v=.non/\Q (.ref x) H2) E
noncomputable def Binds (K:PySem.W.Frag) (fd:FuncData) (ps:List Str) (ds:List Value):Prop:=
 ∀ (s:Shared) (us:List Value),K.In s.heap->(us++ds).length=ps.length->BindsTo s fd ⟨us,[]⟩ (ps.zip (us++ds))
theorem Binds.all{K:PySem.W.Frag}{fd:FuncData}{ps:List Str}(h:∀ us:List Value,us.length=ps.length->bindArgs fd ⟨us,[]⟩=pure (ps.zip us)):Binds K fd ps []:=fun s us _ hl=>by
 rw [M9] at hl ⊢
 exact .of_eq (h us hl)
noncomputable def bM (CX:V6) (X:Cx) (E:XK):Prop:=∀ (pins:List (Addr×Obj)) (Y:St) (H:Hp) (s:Shared) (e:Value) (s':Shared),Inv X pins Y H s->CX X.stack H s E e s'->X.xe e s'
section
variable {X:Cx} {CX:V6} {k:Nat} {f C:Addr} {fd:FuncData} {ps:List Str} {sp:Sp} {dvs:List V} {ds:List Value} {E:XK} {x m:Str} {p pos apos:Pos} {e o:Expr} {es:List Expr} {ta:TE} {t:TA}
theorem yS{pins:List (Addr×Obj)}{Y:St}{H:Hp}{s:Shared}{Q:VK}{us:List Value}{vs:List V}(F:FnOk X.prog X.w X.K X.mg X.base CX k f fd ps sp)(hr:Room k X.A)(hb:Binds X.K fd ps ds)(hd:Vals dvs ds)(hx:bM CX X E)(I:Inv X pins Y H s)(r:Vals vs us)(h:sp (vs++dvs) H Q E):wpAny (model X.prog X.w) X.A (call (.ref f) us) (EP X pins Y Q) X.xe s:=by
 have r2:Vals (vs++dvs) (us++ds):=r.append hd;have hl:(us++ds).length=ps.length:=by rw [<- r2.length];exact F.len _ _ _ _ h
 refine wpAny_call (codeAny_mono (F.run X.A X.stack s H ⟨us,[]⟩ (us++ds) (vs++dvs) Q E hr I.env0 (hb s us I.kIn hl) r2 h) fun r s' hq=>?_)
 cases r with
 | error e=>exact hx pins Y H s e s' I hq
 | ok fl=>
  cases fl with
  | ret u=>exact I.after hq
  | next=>exact False.elim hq
  | brk=>exact False.elim hq
  | cont=>exact False.elim hq
theorem amS(F:FnOk X.prog X.w X.K X.mg X.base CX k f fd ps sp)(hr:Room k X.A)(hg:Gl X x)(hm:X.mg x=some (.ref f))(hk:N4 X.K (.ref f)=true)(hb:Binds X.K fd ps ds)(hd:Vals dvs ds)(hx:bM CX X E)(ha:PA X (e::es) t)(K2:(x==("__debug__" : Str))=false:=by decide)(he:starEach (e::es) X.env=(false,eval e X.env)::starEach es X.env:=by rfl)(Q8:(backTo pos (starEach es X.env)).any (·.1)=false:=by rfl) :
  PE X (.Call (.Name x p) (e::es) [] pos) (tCall sp dvs E t):=by
 intro pins s Y H Q I h;refine wpAny_Call_Name_kw (fO I hg hm ?_ K2);refine iP (h₀:=X.base) I.ok.mod.kin hk (A8 (ha pos pins s Y H _ I h) fun us s1 ⟨vs,H1,I1,r,q⟩=>⟨I1.kIn,?_⟩) he Q8;exact yS F hr hb hd hx I1 r q
theorem yT{pl:Sem Bool}(he:PE X o ta)(c:Cls X.K C)(hm:Meth X.K C m f)(F:FnOk X.prog X.w X.K X.mg X.base CX k f fd ps sp)(hr:Room k X.A)(hb:Binds X.K fd ps ds)(hd:Vals dvs ds)(hx:bM CX X E)(ha:PA X (e::es) t)(g9:starEach (e::es) X.env=(false,eval e X.env)::starEach es X.env:=by rfl)(Q8:(backTo pos (starEach es X.env)).any (·.1)=false:=by rfl)(ht:eval (.Call (.Attribute o m apos) (e::es) [] pos) X.env=(do
   let ov <- eval o X.env
   standAt apos.atName
   let (f,first) <- holding [ov] (getMethod ov m pl)
   callWith pos f first (backTo pos (starEach (e::es) X.env)) (backToKw pos (keywordEach [] X.env))):=by rfl) :
  PE X (.Call (.Attribute o m apos) (e::es) [] pos) (tMeth C m sp dvs E ta t):=by
 intro pins s Y H Q I h;refine PySem.W.methodCall_KW (pl:=pl) (A8 (he pins s Y H _ I h) fun u s1 ⟨x,H1,I1,rx,a,dx,fs,ex,ea,l,q⟩=>?_) ht;subst ex;obtain rfl:u=Value.ref a:=rx;refine yP I1 ea c hm l ?_;refine iP (first:=[.ref a]) (h₀:=X.base) I.ok.mod.kin hm.kp (A8 (ha pos pins s1 Y H1 _ I1 q) fun us s2 ⟨vs,H2,I2,r,q2⟩=>⟨I2.kIn,?_⟩) g9 Q8;exact yS (us:=.ref a::us) (vs:=.ref a::vs) F hr hb hd hx I2 (.cons rfl r) q2
structure Mk(K:PySem.W.Frag)(C f:Addr):Prop where
 makes:PySem.W.makesIn K C=true
 init:F8 K (.ref C) "__init__"=some (some (.ref f))
 fn:V4 K (.ref f)=true
 kp:N4 K (.ref C)=true
theorem akM{pins:List (Addr×Obj)}{Y:St}{H:Hp}{s:Shared}{Q:VK}{us:List Value}{vs:List V}(M:Mk X.K C f)(F:FnOk X.prog X.w X.K X.mg X.base CX k f fd ps sp)(hr:Room (k+1) X.A)(hb:Binds X.K fd ps ds)(hd:Vals dvs ds)(hx:bM CX X E)(I:Inv X pins Y H s)(r:Vals vs us)(h:∀ x dx,H x=none->H dx=none->dx≠x->sp (.ref x::(vs++dvs)) (A0 (A0 H dx (.own x)) x (.ins C dx [])) (fun v H2=>v=.non/\Q (.ref x) H2) E) :
  wpAny (model X.prog X.w) X.A (call (.ref C) us) (EP X pins Y Q) X.xe s:=by
 have hq:=h (s.heap.objs.size+1) s.heap.objs.size (I.hok.fresh (Nat.le_succ _)) (I.hok.fresh (C2 _)) (K4 (Nat.lt_succ_self _));have I2:=Inv.made (C:=C) I;have r2:Vals (V.ref (s.heap.objs.size+1)::(vs++dvs)) (Value.ref (s.heap.objs.size+1)::(us++ds)):=.cons rfl (r.append hd);have hl:(Value.ref (s.heap.objs.size+1)::us++ds).length=ps.length:=by
  have e:=r2.length;rw [F.len _ _ _ _ hq] at e;exact e.symm
 refine wpAny_call (akL (f:=f) I.kIn M.makes M.init (beq_iff_eq.mp M.fn) (codeAny_mono (F.run _ X.stack _ _ ⟨Value.ref (s.heap.objs.size+1)::us,[]⟩ (Value.ref (s.heap.objs.size+1)::(us++ds)) _ _ E (hr.make C us [])
  (I2.env0.make C us []) (hb _ (Value.ref (s.heap.objs.size+1)::us) I2.kIn hl) r2 hq) fun r s' Y9=>?_))
 cases r with
 | error e=>exact hx pins Y _ _ e s' I2 Y9
 | ok fl=>
  cases fl with
  | ret u=>
   obtain ⟨v,H',I3,rv,ev,q3⟩:=I2.after Y9;subst ev;exact ⟨rv,⟨V.ref (s.heap.objs.size+1),H',I3,rfl,q3⟩⟩
  | next=>exact False.elim Y9
  | brk=>exact False.elim Y9
  | cont=>exact False.elim Y9
theorem amT(M:Mk X.K C f)(F:FnOk X.prog X.w X.K X.mg X.base CX k f fd ps sp)(hr:Room (k+1) X.A)(hg:Gl X x)(hm:X.mg x=some (.ref C))(hb:Binds X.K fd ps ds)(hd:Vals dvs ds)(hx:bM CX X E)(ha:PA X (e::es) t)(K2:(x==("__debug__" : Str))=false:=by decide)(he:starEach (e::es) X.env=(false,eval e X.env)::starEach es X.env:=by rfl)(Q8:(backTo pos (starEach es X.env)).any (·.1)=false:=by rfl) :
  PE X (.Call (.Name x p) (e::es) [] pos) (tMake C sp dvs E t):=by
 intro pins s Y H Q I h;refine wpAny_Call_Name_kw (fO I hg hm ?_ K2);refine iP (h₀:=X.base) I.ok.mod.kin M.kp (A8 (ha pos pins s Y H _ I h) fun us s1 ⟨vs,H1,I1,r,q⟩=>⟨I1.kIn,?_⟩) he Q8;exact akM M F hr hb hd hx I1 r q
end
noncomputable def PK (X:Cx) (kws:List Keyword) (t:TA):Prop:=
 ∀ (pos:Pos) (pins:List (Addr×Obj)) (s:Shared) (Y:St) (H:Hp) (Q:List V->Hp->Prop),Inv X pins Y H s->t Y H Q->wpAny (model X.prog X.w) X.A (evalAll ((backToKw pos (keywordEach kws X.env)).map (·.2))) (AP X pins Y Q) X.xe s
section
variable {X:Cx} {CX:V6} {k:Nat} {f C:Addr} {fd:FuncData} {ps ks:List Str} {sp:Sp} {E:XK} {x m:Str} {p pos apos kpos:Pos} {e o:Expr} {es:List Expr} {kws:List Keyword} {te ta:TE} {t tk:TA} {nm:Option Str}
theorem aoV:PK X [] tNil:=fun _ _ _ _ H Q I h=>wpAny_evalAll_nil ⟨[],H,I,.nil,h⟩
theorem amU(ha:PE X e te)(hr:PK X kws t):PK X (⟨nm,e,kpos⟩::kws) (tCons te t):=by
 intro pos pins s Y H Q I h;show wpAny _ _ (evalAll ((do let v <- eval e X.env;standAt pos;pure v)::(backToKw pos (keywordEach kws X.env)).map (·.2))) _ _ s;refine wpAny_evalAll_cons (wpAny_bind (A8 (ha pins s Y H _ I h) fun u s1 ⟨x,H1,I1,r1,q1⟩=>wpAny_bind (wpAny_standAt (wpAny_pure ?_))));exact A8 (hr pos pins s1 Y H1 _ I1 q1) fun us s2 ⟨xs,H2,I2,r2,q2⟩=>⟨x::xs,H2,I2,.cons r1 r2,q2⟩
variable {g:List Value->List Value->List Value} {gV:List V->List V->List V}
end
structure FnScope(N P:List Str)(sc:Scope):Prop where
 kind:sc.kind=.function
 co:sc.isCoroutine=false
 gen:sc.isGenerator=false
 nd:N.Nodup
 pre:N.take P.length=P
 par:∀ x∈P,sc.names.lookup x=some .local\/sc.names.lookup x=some .cell
 nofree:∀ y∈sc.names,y.2≠.free
theorem yU{kindOf:Str->Option NameKind}{x:Str} : ∀ {binds:List (Str×Value)} {m:Str->Option Value},(∀ v,(x,v)∉binds)->bindL kindOf binds m x=m x
 | [],_,_=>rfl
 | (n,v)::r,m,h=>by
  unfold bindL;rw [yU fun w hw=>h w (G5 _ hw)]
  split
  .have:x≠n:=by rintro rfl;exact h v G9
   simp [this]
  .rfl
theorem yV{kindOf:Str->Option NameKind}{x:Str} : ∀ {binds:List (Str×Value)} {m:Str->Option Value},(∀ v,(x,v)∉binds)->bindC kindOf binds m x=m x
 | [],_,_=>rfl
 | (n,v)::r,m,h=>by
  unfold bindC;rw [yV fun w hw=>h w (G5 _ hw)]
  split
  .rfl
  .have:x≠n:=by rintro rfl;exact h v G9
   simp [this]
theorem yW{kindOf:Str->Option NameKind}{x:Str}{v:Value} : ∀ {P:List Str} {vs:List Value} {i:Nat} {m:Str->Option Value},P.Nodup->P[i]?=some x->vs[i]?=some v->kindOf x=some .local->
  bindL kindOf (P.zip vs) m x=some v
 | [],_,_,_,_,h,_,_=>by simp at h
 | _::_,[],_,_,_,_,h,_=>by simp at h
 | p::P,w::vs,0,m,nd,h1,h2,hk=>by
  simp at h1 h2;subst h1;subst h2;show bindL kindOf ((p,w)::P.zip vs) m p=_;unfold bindL;rw [yU fun v hv=>(i6.mp nd).1 (List.of_mem_zip hv).1,if_pos hk]
  simp
 | p::P,w::vs,i+1,m,nd,h1,h2,hk=>by
  show bindL kindOf ((p,w)::P.zip vs) m x=_;unfold bindL;exact yW (i:=i) (i6.mp nd).2 (by simpa using h1) (by simpa using h2) hk
theorem yX{kindOf:Str->Option NameKind}{x:Str}{v:Value} : ∀ {P:List Str} {vs:List Value} {i:Nat} {m:Str->Option Value},P.Nodup->P[i]?=some x->vs[i]?=some v->kindOf x≠some .local->
  bindC kindOf (P.zip vs) m x=some v
 | [],_,_,_,_,h,_,_=>by simp at h
 | _::_,[],_,_,_,_,h,_=>by simp at h
 | p::P,w::vs,0,m,nd,h1,h2,hk=>by
  simp at h1 h2;subst h1;subst h2;show bindC kindOf ((p,w)::P.zip vs) m p=_;unfold bindC;rw [yV fun v hv=>(i6.mp nd).1 (List.of_mem_zip hv).1,if_neg hk]
  simp
 | p::P,w::vs,i+1,m,nd,h1,h2,hk=>by
  show bindC kindOf ((p,w)::P.zip vs) m x=_;unfold bindC;exact yX (i:=i) (i6.mp nd).2 (by simpa using h1) (by simpa using h2) hk
noncomputable def start (N:List Str) (vs:List V):St:=vs.map some++O3 (N.length-vs.length) none
noncomputable def cxOf (CX:V6) (P:Program) (w:World) (K:PySem.W.Frag) (mg:Str->Option Value) (base:Heap) (N:List Str) (qual:Str) (scope:Scope) (f:Addr) (cd:Value) (A:Around) (outer:List Env) (s:Shared) (H:Hp) (E:XK):Cx where
 prog:=P
 w:=w
 K:=K
 mg:=mg
 base:=base
 A:=A.deeper (envOfC qual scope s.heap.objs.size f cd)
 N:=N
 s₀:=s
 H₀:=H
 env:=envOfC qual scope s.heap.objs.size f cd
 outer:=outer
 stack:=envOfC qual scope s.heap.objs.size f cd::outer
 ex:=[]
 calm:=true
 fn:=fun _=>true
 pn:=[]
 xe:=fun e s'=>wpAny (model P w) (A.deeper (envOfC qual scope s.heap.objs.size f cd)) (leaving (envOfC qual scope s.heap.objs.size f cd) e) (fun _ s''=>CX outer H s E e s'') (fun e' s''=>CX outer H s E e' s'') s'
theorem yY{sc:Scope}{n:Nat}{x:Str}(h:sc.names.lookup x=some .cell):∃ c,(cellsFrom n sc.names []).lookup x=some c:=by
 have q:=PySem.W.cellsFrom_some sc.names n [] (.inl h);exact Option.isSome_iff_exists.mp q
theorem aiP{CX:V6}{P:Program}{w:World}{K:PySem.W.Frag}{mg:Str->Option Value}{base:Heap}{N ps:List Str}{qual:Str}{scope:Scope}{f:Addr}{cd:Value}{A:Around}{outer:List Env}{s s1:Shared}{H:Hp}{E:XK}{us:List Value}{vs:List V}(S:FnScope N ps scope)(hd:A.handled=none)(e0:Env0 P w K mg base A outer s H)(hl:vs.length=ps.length)(r:Vals vs us)(x:InCallC s s.heap.objs.size (bindL (envOfC qual scope s.heap.objs.size f cd).kindOf (ps.zip us) fun _=>none) (cellsFrom (s.heap.objs.size+1) scope.names []) (bindC (envOfC qual scope s.heap.objs.size f cd).kindOf (ps.zip us) fun _=>none) s1) :
  Inv (cxOf CX P w K mg base N qual scope f cd A outer s H E) [] (start N vs) H s1:=by
 have Q8:ps.length<=N.length:=by have:=congrArg List.length S.pre;rw [K3] at this;lia
 obtain ⟨h1,tk,rfl,hk⟩:=x.done;have noA:∀ b:Addr,b∉(cxOf CX P w K mg base N qual scope f cd A outer s H E).ex:=fun b z=>absurd (show b∈([]:List Addr) from z) (by simp)
 refine ⟨⟨e0.mod,S.kind,rfl,rfl,C2 _,fun y z c h1 h2=>?_,fun y hy=>?_,fun y c _ h=>?_,fun _=>hd,Around.frames_deeper e0.frames,.inr ⟨rfl,rfl⟩,fun b z=>absurd z (noA b),e0.bs,e0.bsz,fun b _ _=>noA b,fun b z=>absurd z (noA b),e0.funs,e0.frf⟩,
  rfl,e0.bare,Un.kept hk,⟨_,x.toInCall.ns,fun i y v h1 h2 h3=>?_⟩,fun y c h=>⟨_,x.cell y c h⟩,e0.hok.fresh (C2 _),fun y c h=>?_,fun p hp=>absurd (show p∈([]:List (Addr×Obj)) from hp) (by simp),e0.hok.kept hk,?_⟩
 .exact name_of_addr x.apart (PySem.mem_of_lookup h1) (PySem.mem_of_lookup h2)
 .have hy:scope.names.lookup y=some .cell\/scope.names.lookup y=some .free:=hy
  rcases hy with hy | hy
  .exact yY hy
  .exact absurd rfl (S.nofree _ (PySem.mem_of_lookup hy))
 .exact Nat.le_of_lt (x.above y c (PySem.mem_of_lookup h))
 .have hi:i<vs.length:=by
   unfold start at h2
   by_cases hi:i<vs.length
   .exact hi
   .rw [X2 (by simpa using hi)] at h2;rw [List.getElem?_replicate] at h2
    split at h2 <;> cases h2
  have ha:vs[i]?=some v:=by
   unfold start at h2;rw [Z9 (by simpa using hi),M0] at h2;cases e:vs[i]? with
   | none=>rw [e] at h2;cases h2
   | some a=>rw [e] at h2;cases h2;rfl
  obtain ⟨u,hu,rv⟩:=r.get ha;have hp:ps[i]?=some y:=by
   rw [<- S.pre,List.getElem?_take_of_lt (by lia)];exact h1
  have ndP:ps.Nodup:=by rw [<- S.pre];exact S.nd.sublist (List.take_sublist _ _)
  refine ⟨u,rv,?_⟩
  rcases S.par y (G2 hp) with k | k
  .exact .inl ⟨k,yW ndP hp hu k⟩
  .obtain ⟨c,e⟩:=yY (n:=s.heap.objs.size+1) k;refine .inr ⟨.inl k,c,e,?_⟩;have q:=x.cell y c e;rw [yX ndP hp hu (by show scope.names.lookup y≠_;rw [k];decide)] at q;exact q
 .exact e0.hok.fresh (Nat.le_of_lt (x.above y c (PySem.mem_of_lookup h)))
 .unfold start;show _=N.length;rw [E3,A4,iK];lia
theorem fn_of{CX:V6}{P:Program}{w:World}{K:PySem.W.Frag}{mg:Str->Option Value}{base:Heap}{k:Nat}{f:Addr}{name qual:Str}{params:Arguments}{body:List Stmt}{scope:Scope}{dV kV doc pm cdv ct oc:Value}{an od:Option Addr}{osl:Array (Option Value)}{N ps:List Str}{sp:Sp}(lk:K.lookup f=some ⟨oc,od,.func (O4 name qual params body scope dV kV doc pm an cdv ct),osl⟩)(U2:R5 K cdv qual=true)(S:FnScope N ps scope)(len:∀ vs H Q E,sp vs H Q E->vs.length=ps.length)(T3:∀ (A:Around) (outer:List Env) (s:Shared) (H:Hp) (vs:List V) (Q:VK) (E:XK),Room k (A.deeper (envOfC qual scope s.heap.objs.size f cdv))->sp vs H Q E->
   ∃ t,U0 (cxOf CX P w K mg base N qual scope f cdv A outer s H E) body t/\t { nx:=fun _ H'=>Q .non H',rt:=Q } (start N vs) H) :
  FnOk P w K mg base CX (k+1) f (O4 name qual params body scope dV kV doc pm an cdv ct) ps sp:=by
 refine ⟨len,fun A outer s H args us vs Q E hr e0 hb r U3=>?_⟩;have hl:=len _ _ _ _ U3;have KX:K.In s.heap:=e0.mod.kin.keeps fun b o e=>(e0.bs b o e).1
 have lim:s.heap.NoLimit:=e0.mod.nolimit.keeps fun b o e=>(e0.bs b o e).1
 have kL:∀ y∈ps.zip us,scope.names.lookup y.1=some .local\/(scope.names.lookup y.1=some .cell/\((cellsFrom (s.heap.objs.size+1) scope.names []).lookup y.1).isSome=true):=fun ⟨n,v⟩ hy=>by
  rcases S.par n (List.of_mem_zip hy).1 with q | q
  .exact .inl q
  .exact .inr ⟨q,PySem.W.cellsFrom_some _ _ _ (.inl q)⟩
 refine codeAny_call_function hr.depth (KX _ _ lk) rfl S.co S.gen rfl (PySem.W.codeRec_of KX U2) (hb _ _ _ _ ?_);refine wpAny_newFunctionEnv_cells S.kind kL fun env he s1 x=>?_
 subst he;refine ⟨lim.keeps x.toInCall.keep,codeAny_func ?_⟩;obtain ⟨t,ht,hq⟩:=T3 A outer s H vs Q E (hr.deeper _) U3;have I:Inv (cxOf CX P w K mg base N qual scope f cdv A outer s H E) [] (start N vs) H s1:=aiP S hr.hd e0 hl r x;refine wpAny_mono (ht [] s1 (start N vs) H _ I hq) (fun fl s' hs=>?_) fun e s' hs=>hs
 have fin:∀ {σ':St} {H':Hp} {v:V} {u:Value},Inv (cxOf CX P w K mg base N qual scope f cdv A outer s H E) [] σ' H' s'->RelV v u->Q v H'->CE outer P w H s Q u s':=
  fun {σ' H' v u} J rv q=>⟨v,H',J.os,J.bare,J.base,J.hok,rv,q⟩
 cases fl with
 | ret u=>
  obtain ⟨v,σ',H',J,rv,q⟩:=hs;exact fin J rv q
 | next=>
  obtain ⟨σ',H',J,q⟩:=hs;exact fin (v:=V.non) (u:=Value.none) J rfl q
 | brk=>
  obtain ⟨_,_,_,q⟩:=hs;exact False.elim q
 | cont=>
  obtain ⟨_,_,_,q⟩:=hs;exact False.elim q
end L2
section
variable {C T a b dx f fa it p r sl t0:PySem.Addr}{dvs vs xs ys:List L2.V}{Q:L2.VK}{cd ct oc pm u v vl vu:PySem.Value}{ck i j k m n t' x1:Nat}{items:Array PySem.Value}{el fr ns:List Int}{bmB its us:List PySem.Value}{A:PySem.Around}{s s' zu:PySem.Shared}{x y:L2.V}{pins:List (PySem.Addr×PySem.Obj)}{Y:L2.St}{H H' H0 H1 H2 H3 zt:L2.Hp}{h h' h2:PySem.Heap}{Z fld name q qual z:PySem.Str}{L M N N' S acc bad ks line loose nms ps ts zs:List PySem.Str}{K:PySem.W.Frag}{mg:PySem.Str->Option PySem.Value}{fd:PySem.FuncData}{sp:L2.Sp}{X:L2.Cx}{kvs:List (L2.B5×L2.V)}{prog:PySem.Program}{E:PySem.Value->PySem.Shared->Prop}{ixs met:List Nat}{e elt iter target tg:PySem.Expr}{elts es ifs:List PySem.Expr}{g:L2.TG}{c:L2.TT}{t1 te tl:L2.TE}{fp rs:List PySem.Addr}{apos cpos kpos spos tpos:PySem.Pos}{calm fg neg:Bool}{st:PySem.Stmt}{an od:Option PySem.Addr}{tb:L2.TS}{D:L2.Ends}{lo sh:Int}{o:PySem.Obj}{ta:L2.TA}{ss:Array (Option PySem.Value)}
namespace L2
open PySem PySem.Spec PyProof.Rows
section
variable {X:Cx} {x:Str} {p pos:Pos} {e:Expr} {es:List Expr} {t:TA} {id T:String} {r:List V->Hp->VK->Prop}
noncomputable def bN (r:List V->Hp->VK->Prop) (t:TA):TE:=fun Y H Q=>t Y H fun vs H1=>r vs H1 Q
theorem akN(hc:CallR X (.builtin id) r)(hg:Gl X x)(hm:X.mg x=none)(hv:bootBuiltins x=some (.builtin id))(ha:PA X (e::es) t)(hn:x≠"__name__":=by decide)(K2:(x==("__debug__" : Str))=false:=by decide)(he:starEach (e::es) X.env=(false,eval e X.env)::starEach es X.env:=by rfl)(Q8:(backTo pos (starEach es X.env)).any (·.1)=false:=by rfl):PE X (.Call (.Name x p) (e::es) [] pos) (bN r t):=by
 intro pins s Y H Q I h;refine wpAny_Call_Name_kw (x8 I hg hm hv ?_ hn K2);exact PyProof.Rows.callWith_builtin1 (A8 (ha pos pins s Y H _ I h) fun us s1 ⟨vs,H1,I1,r1,q1⟩=>hc pins s1 Y H1 vs us Q I1 r1 q1) he Q8
theorem aiQ(hc:CallR X (.type T) r)(hg:Gl X x)(hm:X.mg x=none)(hv:bootBuiltins x=some (.type T))(ha:PA X (e::es) t)(hn:x≠"__name__":=by decide)(K2:(x==("__debug__" : Str))=false:=by decide)(he:starEach (e::es) X.env=(false,eval e X.env)::starEach es X.env:=by rfl)(Q8:(backTo pos (starEach es X.env)).any (·.1)=false:=by rfl):PE X (.Call (.Name x p) (e::es) [] pos) (bN r t):=by
 intro pins s Y H Q I h;refine wpAny_Call_Name_kw (x8 I hg hm hv ?_ hn K2);exact PyProof.Rows.callWith_type1 (A8 (ha pos pins s Y H _ I h) fun us s1 ⟨vs,H1,I1,r1,q1⟩=>hc pins s1 Y H1 vs us Q I1 r1 q1) he Q8
end
end L2
namespace HT
open PySem PyProof.Rows
section
open PySem.SeqAt
open PySem.AutoSeq1 (wpAny_loadPart')
open PySem.MeetsSeq PySem.MeetsSeq2 PySem.MeetsSeq3
end
section
variable {prog:Program} {w:World} {A:Around} {E:Value->Shared->Prop} {s:Shared}
theorem cat_tup{t:Addr}{vs ws:List Value}{Q:Value->Shared->Prop}(ht:IsTup s.heap t vs.toArray)(hb:IsTup s.heap b ws.toArray)(hv:vs≠[])(h1:ws=[]->Q (.ref t) s)(h2:ws≠[]->Q (.ref s.heap.objs.size) { s with heap:=s.heap.push { cls:=.type "tuple",data:=.seq (vs++ws).toArray } })(hsz:vs.length+ws.length<=sizeLine):wpAny (model prog w) A (binaryOp .Add (.ref t) (.ref b)) Q E s:=by
 obtain ⟨⟨cls,dd,data,sl⟩,ho,hc,n,hd⟩:=id ht;obtain ⟨⟨cls2,dd2,data2,qW⟩,pB,kM,n2,Z0⟩:=id hb;simp only at hc hd kM Z0;subst hc hd kM Z0;have e:vs.toArray++ws.toArray=(vs++ws).toArray:=by simp
 by_cases hw:ws=[]
 .exact concat_meets ⟨_,ho,rfl⟩ ⟨_,pB,rfl⟩ noFill_tuple_add seq_tuple_add PySem.F.slot_tuple_add PySem.F.entry_tuple_add (PySem.F.args_tuple_add_2 _ _)
   (tuple_addW1 t b vs.toArray ws.toArray n n2 dd dd2 sl qW (by simpa using hv) (by simp [hw])) ⟨ho,pB,h1 hw⟩
 .refine concat_meets ⟨_,ho,rfl⟩ ⟨_,pB,rfl⟩ noFill_tuple_add seq_tuple_add PySem.F.slot_tuple_add PySem.F.entry_tuple_add (PySem.F.args_tuple_add_2 _ _)
   (tuple_addW2 t b vs.toArray ws.toArray n n2 dd dd2 sl qW (by simpa using hv) (by simpa using hw) (by rw [J7,J7];exact hsz)) ⟨ho,pB,?_⟩
  rw [e];exact h2 hw
noncomputable def sIx (n d:Nat):Option Int->Nat
 | none=>d
 | some v=>if v<0 then (v+(n:Int)).toNat else min v.toNat n
theorem sIx_nat(n d k:Nat):sIx n d (some (k:Int))=min k n:=by
 show (if (k:Int)<0 then ((k:Int)+(n:Int)).toNat else min (k:Int).toNat n)=min k n;rw [if_neg (by lia),iS]
theorem sIx_le(n d:Nat)(hd:d<=n)(o:Option Int):sIx n d o<=n:=by
 cases o with
 | none=>exact hd
 | some v=>
  show (if v<0 then (v+(n:Int)).toNat else min v.toNat n)<=n
  by_cases hv:v<0
  .rw [if_pos hv];lia
  .rw [if_neg hv];exact Nat.min_le_right _ _
theorem clip_eq(v:Int)(n d:Nat):(if v<0 then max (v+(n:Int)) 0 else min v (n:Int))=((sIx n d (some v):Nat):Int):=by
 show (if v<0 then max (v+(n:Int)) 0 else min v (n:Int))=(((if v<0 then (v+(n:Int)).toNat else min v.toNat n):Nat):Int)
 by_cases hv:v<0
 .simp only [if_pos hv];lia
 .simp only [if_neg hv];lia
theorem ahT(lo hi:Option Int)(n:Nat):Builtin.Slice.sliceAdjust lo hi 1 (n:Int)=(((sIx n 0 lo:Nat):Int),((sIx n n hi:Nat):Int)):=by
 have h1:¬ ((1:Int)<0):=by lia
 unfold Builtin.Slice.sliceAdjust;simp only [h1,if_false];refine Prod.ext ?_ ?_
 .cases lo with
  | none=>rfl
  | some v=>exact clip_eq v n 0
 .cases hi with
  | none=>rfl
  | some v=>exact clip_eq v n n
theorem ahU(i j:Nat):Builtin.Slice.slicePlaces (i:Int) (j:Int) 1=j-i:=by
 unfold Builtin.Slice.slicePlaces;have h1:(1:Int) > 0:=by lia
 simp only [h1,if_true,Int.ediv_one]
 split <;> lia
theorem yZ{o:Option Int}{Q:Option Int->Shared->Prop}(p:IsPart v o)(h:Q o s):wpAny (model prog w) A (Builtin.Slice.slicePartIndex v) Q E s:=by
 cases p with
 | none=>exact slicePart_none h
 | int i t=>exact slicePart_int h
theorem sliceApplied_gen{lo hi:Option Int}{Q:Int×Int×Nat->Shared->Prop}(hs:s.heap.IsSliceOf sl vl vu .none)(pl:IsPart vl lo)(pu:IsPart vu hi)(h:Q (((sIx n 0 lo:Nat):Int),1,sIx n n hi-sIx n 0 lo) s):wpAny (model prog w) A (Builtin.Slice.sliceApplied (.ref sl) (pure (n:Int))) Q E s:=by
 obtain ⟨os,dU,pC,kN⟩:=id hs;unfold Builtin.Slice.sliceApplied Builtin.Slice.sliceFields;refine wpAny_bind (wpAny_bind (wpAny_field dU kN (x:=vl) rfl (wpAny_bind (wpAny_field dU kN (x:=vu) rfl (wpAny_bind (wpAny_field dU kN (x:=.none) rfl (wpAny_pure ?_)))))));refine wpAny_bind (slicePart_none ?_);show wpAny _ _ (if ((1:Int)==0)=true then _ else _) _ _ s;rw [if_neg (by decide)];refine wpAny_bind (yZ pl (wpAny_bind (yZ pu (wpAny_bind (wpAny_pure ?_)))));show wpAny _ _ (match Builtin.Slice.sliceAdjust lo hi 1 (n:Int) with | (lo,hi)=>pure (lo,(1:Int),Builtin.Slice.slicePlaces lo hi 1)) _ _ s;rw [ahT lo hi n];show wpAny _ _ (pure (((sIx n 0 lo:Nat):Int),(1:Int),Builtin.Slice.slicePlaces ((sIx n 0 lo:Nat):Int) ((sIx n n hi:Nat):Int) 1)) _ _ s;rw [ahU];exact wpAny_pure h
theorem akO(xs:Array Value)(i k:Nat):((M3 k).filterMap fun (m:Nat)=>xs[((i:Int)+(m:Int)*1).toNat]?).toArray=((xs.toList.drop i).take k).toArray:=by
 have e:(fun (m:Nat)=>xs[((i:Int)+(m:Int)*1).toNat]?)=fun m=>xs[i+m]?:=by
  funext m
  have:((i:Int)+(m:Int)*1).toNat=i+m:=by lia
  rw [this]
 rw [e]
 have:=pick_run xs i k
 rw [List.filterMap_map] at this;have e2:((fun x=>xs[x]?)∘fun x=>i+x)=fun m=>xs[i+m]?:=rfl
 rw [e2] at this;rw [this]
theorem getItem_tuple_cut{t:Addr}{lo hi:Option Int}{Q:Value->Shared->Prop}(ht:IsTup s.heap t items)(hs:s.heap.IsSliceOf sl vl vu .none)(pl:IsPart vl lo)(pu:IsPart vu hi)(hw:¬ (sIx items.size 0 lo=0/\sIx items.size items.size hi=items.size))(h:Q (.ref s.heap.objs.size) { s with heap:=s.heap.push { cls:=.type "tuple",data:=.seq ((items.toList.drop (sIx items.size 0 lo)).take (sIx items.size items.size hi-sIx items.size 0 lo)).toArray } })(hsz:items.size<=sizeLine):wpAny (model prog w) A (getItem (.ref t) (.ref sl)) Q E s:=by
 have W3:sizeOk (.seq ((items.toList.drop (sIx items.size 0 lo)).take (sIx items.size items.size hi-sIx items.size 0 lo)).toArray):=by
  show ((items.toList.drop (sIx items.size 0 lo)).take (sIx items.size items.size hi-sIx items.size 0 lo)).toArray.size<=sizeLine;rw [J7,K3,o7,bJ];lia
 have hj:sIx items.size items.size hi<=items.size:=sIx_le _ _ (C2 _) hi;obtain ⟨os,dU,pC,kN⟩:=id hs;have hTs:s.TypeIs (.ref sl) "slice":=⟨os,dU,pC⟩
 unfold getItem
 try with_reducible refine wpAny_holding ?_
 first | refine wpAny_bind (wpAny_pure ?_) | skip
 refine wpAny_bind (wpAny_sequenceKey ht.typeIs (by decide) ?_);refine wpAny_bind (wpAny_callSpecial?_slot (name:=Str.ofString "__getitem__") ht.typeIs PyProof.Rows.slot_tuple_getitem
  (wpAny_call_entry PyProof.Rows.slot_tuple_getitem ht.typeIs entry_tuple_getitem ?_ (args_tuple_getitem _ _)))
 show wpAny _ _ (Builtin.Tuple.tupleItemsOf (.ref t) >>= _) _ _ s;refine wpAny_bind (tupleItemsOf_ ht ?_);refine wpAny_bind (wpAny_typeOf hTs ?_);rw [if_pos (by decide)];refine wpAny_bind (sliceApplied_gen hs pl pu ?_);have kO:¬ ((((sIx items.size 0 lo:Nat):Int)==0&&(1:Int)==1&&(sIx items.size items.size hi-sIx items.size 0 lo)==items.size)=true):=by
  intro q;rw [P3,P3] at q;have q1:((sIx items.size 0 lo:Nat):Int)=0:=eq_of_beq q.1.1;have q2:sIx items.size items.size hi-sIx items.size 0 lo=items.size:=eq_of_beq q.2;exact hw ⟨by lia,by lia⟩
 show wpAny _ _ (if (((sIx items.size 0 lo:Nat):Int)==0&&(1:Int)==1&&(sIx items.size items.size hi-sIx items.size 0 lo)==items.size)=true then _ else _) _ _ s;rw [if_neg kO,akO]
 first
  | exact wpAny_bind (m:=Builtin.Tuple.tupleExact _) (wpAny_newObj_type (wpAny_pure ⟨_,rfl,wpAny_pure h⟩) W3)
  | exact wpAny_bind (m:=Builtin.Tuple.tupleExact _) (wpAny_newObj_type (wpAny_bind (wpAny_pure (wpAny_pure ⟨_,rfl,wpAny_pure h⟩))) W3)
  | exact wpAny_bind (wpAny_bind (m:=Builtin.Tuple.tupleExact _) (wpAny_newObj_type (wpAny_pure (wpAny_pure ⟨_,rfl,wpAny_pure h⟩)) W3))
  | exact wpAny_bind (wpAny_bind (m:=Builtin.Tuple.tupleExact _) (wpAny_newObj_type (wpAny_pure ⟨_,rfl,wpAny_pure h⟩) W3))
end
end HT
namespace L2
open PySem PySem.Spec PyProof.Rows
noncomputable abbrev TO:=St->Hp->(Option Int->Hp->Prop)->Prop
noncomputable def PO (X:Cx) (e:Option Expr) (t:TO):Prop:=
 ∀ (pins:List (Addr×Obj)) (s:Shared) (Y:St) (H:Hp) (Q:Option Int->Hp->Prop),Inv X pins Y H s->t Y H Q->
  wpAny (model X.prog X.w) X.A (evalPart e X.env) (fun u s'=>∃ o H',Inv X pins Y H' s'/\IsPart u o/\Q o H') X.xe s
noncomputable def qX:TO:=fun _ H Q=>Q none H
noncomputable def tPart (t:TE):TO:=fun Y H Q=>t Y H fun x H1=>∃ i,x=.int i/\Q (some i) H1
theorem qY : ∀ {us:List Value},Vals (ns.map V.int) us->IntsAre us ns:=by
 induction ns with
 | nil=>intro us r;rw [i7] at r;cases r;exact .nil
 | cons n ns ih=>
  intro us r;rw [D0] at r
  cases r with
  | cons r1 r2=>
   obtain ⟨t,e⟩:=r1;subst e;exact .cons n t (ih r2)
section
variable {X:Cx} {e:Expr} {te:TE} {lo hi:Option Expr} {tl th:TO} {pos p2:Pos}
theorem amV:PO X none qX:=by
 intro pins s Y H Q I h;rw [evalPart_none];exact wpAny_pure ⟨none,H,I,.none,h⟩
theorem amW(h:PE X e te):PO X (some e) (tPart te):=by
 intro pins s Y H Q I hw;rw [evalPart_some];refine A8 (h pins s Y H _ I hw) fun u s1 ⟨x,H1,I1,r1,q1⟩=>?_
 obtain ⟨i,rfl,q⟩:=q1;obtain ⟨t,rfl⟩:=r1;exact ⟨some i,H1,I1,.int i t,q⟩
noncomputable def fT (X:Cx) (r:V->Option Int->Option Int->Hp->VK->Prop):Prop:=
 ∀ (pins:List (Addr×Obj)) (s:Shared) (Y:St) (H:Hp) (x:V) (v vl vu:Value) (lo hi:Option Int) (sl:Addr) (Q:VK),Inv X pins Y H s->RelV x v->s.heap.IsSliceOf sl vl vu .none->IsPart vl lo->IsPart vu hi->r x lo hi H Q->
  ∃ T id,typeLookup (.type T) "__getitem__"=pure (some (.builtin id))/\s.TypeIs v T/\wpAny (model X.prog X.w) X.A (getItem v (.ref sl)) (EP X pins Y Q) X.xe s
noncomputable def qZ (r:V->Option Int->Option Int->Hp->VK->Prop) (te:TE) (tl th:TO):TE:=fun Y H Q=>te Y H fun x H1=>tl Y H1 fun l H2=>th Y H2 fun u H3=>r x l u H3 Q
theorem akP{r:V->Option Int->Option Int->Hp->VK->Prop}(hr:fT X r)(he:PE X e te)(hl:PO X lo tl)(hu:PO X hi th):PE X (.Subscript e (.Slice lo hi none p2) pos) (qZ r te tl th):=by
 intro pins s Y H Q I h;refine Subscript_ (A8 (he pins s Y H _ I h) fun v s1 ⟨x,H1,I1,r1,q1⟩=>?_);refine wpAny_Slice (A8 (hl pins s1 Y H1 _ I1 q1) fun vl s2 ⟨l,H2,I2,pl,q2⟩=>A8 (hu pins s2 Y H2 _ I2 q2) fun vu s3 ⟨u,H3,I3,pu,q3⟩=>?_);rw [evalPart_none];refine wpAny_pure ?_;have I4:Inv X pins Y H3 { s3 with heap:=s3.heap.push { cls:=.type "slice",data:=.fields #[vl,vu,.none] } }:=I3.kept (t':=s3.toks) fun b ob q=>Heap.get?_push_of_some _ q
 obtain ⟨T,id,hT,ht,hg⟩:=hr pins { s3 with heap:=s3.heap.push { cls:=.type "slice",data:=.fields #[vl,vu,.none] } } Y H3 x v vl vu l u s3.heap.objs.size Q I4 r1 (Heap.IsSliceOf.new ..) pl pu q3;show wpAny (model X.prog X.w) X.A (subscriptTail e (.Slice lo hi none p2) v (.ref s3.heap.objs.size)) (EP X pins Y Q) X.xe { s3 with heap:=s3.heap.push { cls:=.type "slice",data:=.fields #[vl,vu,.none] } };exact tail_any (ops:=[.ref s3.heap.objs.size,v]) ht hT hg (by with_unfolding_all rfl)
noncomputable def cutV (xs:List V) (lo hi:Option Int):List V:=(xs.drop (HT.sIx xs.length 0 lo)).take (HT.sIx xs.length xs.length hi-HT.sIx xs.length 0 lo)
theorem zA(xs:List V)(lo hi:Option Int):(cutV xs lo hi).length<=xs.length:=by
 unfold cutV;rw [K3,o7];lia
noncomputable def rSlT (K:PySem.W.Frag):V->Option Int->Option Int->Hp->VK->Prop:=fun x lo hi H Q=>∃ a xs,x=.ref a/\C8 K H a xs/\
 ¬ (HT.sIx xs.length 0 lo=0/\HT.sIx xs.length xs.length hi=xs.length)/\∀ p,H p=none->Q (.ref p) (A0 H p (.tup (cutV xs lo hi)))
theorem aoW:fT X (rSlT X.K):=by
 intro pins s Y H x v vl vu lo hi sl Q I rx hs pl pu h;obtain ⟨a,xs,rfl,hx,hw,q⟩:=h
 cases rx
 obtain ⟨its,r,ht,hz⟩:=I.tuple hx;have A9:its.toArray.size=xs.length:=by rw [J7];exact r.length.symm
 refine ⟨"tuple",_,PyProof.Rows.slot_tuple_getitem.lookup,ht.typeIs,?_⟩;refine HT.getItem_tuple_cut ht hs pl pu (by rw [A9];exact hw) ?_ (by rw [A9];exact hz);rw [A9];refine ⟨.ref s.heap.objs.size,_,I.laid (t':=s.toks) (o:=.tup (cutV xs lo hi)) (fun b ob q=>Heap.get?_push_of_some _ q) (C2 _) ?_,rfl,q _ (I.hok.fresh (C2 _))⟩;exact ⟨F6 (zA xs lo hi) hz,_,(r.drop (HT.sIx xs.length 0 lo)).take (HT.sIx xs.length xs.length hi-HT.sIx xs.length 0 lo),IsTup.new _ _⟩
noncomputable def rCatT (K:PySem.W.Frag):R2:=fun x y H Q=>∃ a b xs ys,x=.ref a/\y=.ref b/\C8 K H a xs/\C8 K H b ys/\xs≠[]/\xs.length+ys.length<=sizeLine/\
 (ys=[]->Q (.ref a) H)/\(ys≠[]->∀ p,H p=none->Q (.ref p) (A0 H p (.tup (xs++ys))))
theorem Vals.nil_iff(r:Vals xs us):us=[]↔xs=[]:=by
 cases r with
 | nil=>simp
 | cons _ _=>simp
theorem amX:G0 X (binaryOp .Add) (rCatT X.K):=by
 intro pins s Y H x y v u Q I rx ry h;obtain ⟨a,b,xs,ys,rfl,rfl,ha,hb,hx,hz,q1,q2⟩:=h
 cases rx
 cases ry
 obtain ⟨its,r1,p1,_⟩:=I.tuple ha;obtain ⟨its2,r2,p2,_⟩:=I.tuple hb;refine HT.cat_tup p1 p2 (fun z=>hx (r1.nil_iff.mp z)) (fun z=>⟨.ref a,H,I,rfl,q1 (r2.nil_iff.mp z)⟩) (fun z=>?_) (by rw [<- r1.length,<- r2.length];exact hz);refine ⟨.ref s.heap.objs.size,_,I.laid (t':=s.toks) (o:=.tup (xs++ys)) (fun b ob q=>Heap.get?_push_of_some _ q) (C2 _) ?_,rfl,q2 (fun w=>z (r2.nil_iff.mpr w)) _ (I.hok.fresh (C2 _))⟩;exact ⟨by rw [E3];exact hz,_,r1.append r2,IsTup.new _ _⟩
end
end L2
namespace L2
open PySem PySem.Spec PyProof.Rows
noncomputable def j1 (n:Nat) (i:Int):Option Nat:=if 0<=i then (if i<n then some i.toNat else none) else if -(n:Int)<=i then some (i+n).toNat else none
noncomputable def L7 {α:Type} (xs:List α) (i:Int):Option α:=(j1 xs.length i).bind fun j=>xs[j]?
theorem amY{i:Int}(h:j1 n i=some j):seqIndex? i n=some j/\j<n/\-(n:Int)<=i/\i<n:=by
 unfold j1 at h
 by_cases h0:0<=i
 .rw [if_pos h0] at h
  by_cases h1:i<n
  .rw [if_pos h1] at h;have e:i.toNat=j:=Option.some.inj h;exact ⟨by rw [seqIndex_of h0 h1,e],by lia,by lia,h1⟩
  .rw [if_neg h1] at h;cases h
 .rw [if_neg h0] at h
  by_cases h1:-(n:Int)<=i
  .rw [if_pos h1] at h;have e:(i+n).toNat=j:=Option.some.inj h;exact ⟨by rw [seqIndex_neg (by lia) h1,e],by lia,h1,by lia⟩
  .rw [if_neg h1] at h;cases h
theorem rA{α:Type}{xs:List α}{i:Int}{v:α}(h:L7 xs i=some v):∃ j,seqIndex? i xs.length=some j/\xs[j]?=some v/\j<xs.length/\-(xs.length:Int)<=i/\i<xs.length:=by
 unfold L7 at h;cases e:j1 xs.length i with
 | none=>rw [e] at h;cases h
 | some j=>
  rw [e] at h;obtain ⟨h1,h2,h3,h4⟩:=amY e;exact ⟨j,h1,h,h2,h3,h4⟩
theorem N9{α:Type}{xs:List α}{v:α}(h:xs[j]?=some v):L7 xs (j:Int)=some v:=by
 have hj:j<xs.length:=(J4.mp h).1;have e:j1 xs.length (j:Int)=some j:=by
  unfold j1;rw [if_pos (by lia),if_pos (by lia)];simp
 unfold L7;rw [e];exact h
noncomputable def zB (b:Expr):Prop:=∀ o i,subscripted b false o i=operate [o,i] (getItem o i)
noncomputable def y1 (X:Cx) (r:R2):Prop:=
 ∀ (value slice:Expr) (pins:List (Addr×Obj)) (s:Shared) (Y:St) (H:Hp) (x y:V) (v u:Value) (Q:VK),Inv X pins Y H s->RelV x v->RelV y u->r x y H Q->
  subscripted slice false v u=operate [v,u] (getItem v u)->wpAny (model X.prog X.w) X.A (subscriptTail value slice v u) (EP X pins Y Q) X.xe s
noncomputable def mJ (X:Cx) (id:String) (r:V->List V->Hp->VK->Prop):Prop:=
 ∀ (pins:List (Addr×Obj)) (s:Shared) (Y:St) (H:Hp) (x:V) (xs:List V) (v:Value) (us:List Value) (Q:VK),Inv X pins Y H s->RelV x v->Vals xs us->r x xs H Q->
  wpAny (model X.prog X.w) X.A (call (.builtin id) (v::us)) (EP X pins Y Q) X.xe s
section
variable {X:Cx} {a b:Expr} {ta tb:TE} {pos:Pos}
theorem y1.or{r r':R2}(h:y1 X r)(h':y1 X r'):y1 X (fun x y H Q=>r x y H Q\/r' x y H Q):=by
 intro value slice pins s Y H x y v u Q I rx ry q hs
 rcases q with q | q
 .exact h value slice pins s Y H x y v u Q I rx ry q hs
 .exact h' value slice pins s Y H x y v u Q I rx ry q hs
theorem pe_ix{r:R2}(hr:y1 X r)(ha:PE X a ta)(hb:PE X b tb)(hs:zB b):PE X (.Subscript a b pos) (y0 r ta tb):=by
 intro pins s Y H Q I h;exact Subscript_ (binT ha hb I h fun v u s2 x y H2 I2 rx ry q=>hr a b pins s2 Y H2 x y v u Q I2 rx ry q (hs _ _))
noncomputable def rIxL (K:PySem.W.Frag):R2:=fun x y H Q=>∃ p xs i v,x=.ref p/\y=.int i/\D1 K H p xs/\L7 xs i=some v/\Q v H
noncomputable def rIxT (K:PySem.W.Frag):R2:=fun x y H Q=>∃ p xs i v,x=.ref p/\y=.int i/\C8 K H p xs/\L7 xs i=some v/\Q v H
noncomputable def rIxS:R2:=fun x y H Q=>∃ z i c,x=.str z/\y=.int i/\z.length<=sizeLine/\L7 z.cps.toList i=some c/\Q (.str ⟨#[c]⟩) H
theorem ix_list:y1 X (rIxL X.K):=by
 intro value slice pins s Y H x y v u Q I rx ry h hs;obtain ⟨p,xs,i,z,rfl,rfl,hq,he,q⟩:=h
 cases rx
 obtain ⟨t,rfl⟩:=ry;obtain ⟨its,r,pl,hz⟩:=I.list hq;obtain ⟨j,h1,h2,h3,h4,h5⟩:=rA he;obtain ⟨w,ew,rw'⟩:=r.get h2;have hl:=r.length;have hn:=iW;have fin:EP X pins Y Q w s:=⟨z,H,I,rw',q⟩
 by_cases h0:0<=i
 .have hj:i.toNat=j:=by
   rw [seqIndex_of h0 h5] at h1;exact Option.some.inj h1
  exact item_listR pl.isList h0 (by lia) (by rw [hj];simpa using ew) fin hs
 .have hj:(i+(its.toArray.size:Int)).toNat=j:=by
   rw [seqIndex_neg (by lia) h4] at h1;rw [J7,<- hl];exact Option.some.inj h1
  exact subscriptTail_builtinR (x:=w) pl.isList.typeIs slot_list_getitem.lookup
   (wpAny_getItem_list_neg (Q:=fun r s'=>r=w/\EP X pins Y Q r s') pl.isList (by lia) (by rw [J7] <;> lia) (by lia) (by rw [hj];simpa using ew) ⟨rfl,fin⟩) hs
theorem ix_tup:y1 X (rIxT X.K):=by
 intro value slice pins s Y H x y v u Q I rx ry h hs;obtain ⟨p,xs,i,z,rfl,rfl,hq,he,q⟩:=h
 cases rx
 obtain ⟨t,rfl⟩:=ry;obtain ⟨its,r,pl,hz⟩:=I.tuple hq;obtain ⟨j,h1,h2,h3,h4,h5⟩:=rA he;obtain ⟨w,ew,rw'⟩:=r.get h2;have hl:=r.length;have hn:=iW;have fin:EP X pins Y Q w s:=⟨z,H,I,rw',q⟩
 exact subscriptTail_builtinR (x:=w) pl.typeIs slot_tuple_getitem.lookup
  (getItem_tuple (j:=j) (Q:=fun r s'=>r=w/\EP X pins Y Q r s') pl (by lia) (by lia) (by rw [J7,<- hl];exact h1) (by simpa using ew) ⟨rfl,fin⟩) hs
theorem aoX:y1 X rIxS:=by
 intro value slice pins s Y H x y v u Q I rx ry h hs;obtain ⟨z,i,c,rfl,rfl,hz,he,q⟩:=h;obtain ⟨t,rfl⟩:=rx;obtain ⟨t',rfl⟩:=ry;obtain ⟨j,h1,h2,h3,h4,h5⟩:=rA he;have hl:z.cps.toList.length=z.length:=by simp [Str.length]
 rw [hl] at h1 h4 h5;have hn:=iW;exact tail_any (typeIs_str s z t) slot_str_getitem.lookup (getItem_str (c:=c) (by
  have e1:decide (i < -(2 ^ 63:Int))=false:=decide_eq_false (by lia);have e2:decide (i≥2 ^ 63)=false:=decide_eq_false (by lia);rw [e1,e2,Bool.or_false]) (by rw [h1];simpa using h2) ⟨.str ⟨#[c]⟩,H,I.tok _,⟨_,rfl⟩,q⟩) hs
noncomputable def fU (K:PySem.W.Frag):R2:=fun x y H Q=>rIxL K x y H Q\/rIxT K x y H Q\/rIxS x y H Q
theorem aoY:y1 X (fU X.K):=ix_list.or (ix_tup.or aoX)
noncomputable def rSetL:V->V->V->Hp->(Hp->Prop)->Prop:=fun o i v H Q=>∃ p xs k j,o=.ref p/\i=.int k/\H p=some (.lst xs)/\j1 xs.length k=some j/\Q (A0 H p (.lst (xs.set j v)))
theorem afA(lo hi:Option Int)(n:Nat):(sliceBounds lo hi none n).1=((HT.sIx n 0 lo:Nat):Int)/\(sliceBounds lo hi none n).2.1=((HT.sIx n n hi:Nat):Int)/\(sliceBounds lo hi none n).2.2=1:=by
 refine ⟨?_,?_,rfl⟩
 .cases lo with
  | none=>simp [sliceBounds,HT.sIx]
  | some i=>
   simp only [sliceBounds,HT.sIx,Option.getD_none,show (1:Int) > 0 by decide,if_true]
   by_cases h:i<0
   .simp only [h,if_true] <;> lia
   .simp only [h,if_false] <;> lia
 .cases hi with
  | none=>simp [sliceBounds,HT.sIx]
  | some i=>
   simp only [sliceBounds,HT.sIx,Option.getD_none,show (1:Int) > 0 by decide,if_true]
   by_cases h:i<0
   .simp only [h,if_true] <;> lia
   .simp only [h,if_false] <;> lia
theorem ae4(its:List Value)(lo hi:Option Int):slicePick its.toArray lo hi none=((its.drop (HT.sIx its.length 0 lo)).take (HT.sIx its.length its.length hi-HT.sIx its.length 0 lo)).toArray:=by
 obtain ⟨h1,h2,h3⟩:=afA lo hi its.toArray.size;unfold slicePick;rw [h1,h2,h3];simp only [sliceRange_one,pick_run,J7] <;> rfl
noncomputable def rSlL (K:PySem.W.Frag):V->Option Int->Option Int->Hp->VK->Prop:=fun x lo hi H Q=>∃ a xs,x=.ref a/\D1 K H a xs/\∀ p,H p=none->Q (.ref p) (A0 H p (.lst (cutV xs lo hi)))
theorem amZ:fT X (rSlL X.K):=by
 intro pins s Y H x v vl vu lo hi sl Q I rx hs pl pu h;obtain ⟨a,xs,rfl,hx,q⟩:=h
 cases rx
 obtain ⟨its,r,ht,hz⟩:=I.list hx;have A9:=r.length;refine ⟨"list",_,slot_list_getitem.lookup,ht.isList.typeIs,?_⟩;refine wpAny_getItem_list_slice ht.isList hs pl pu .none (by simp) ?_ (by rw [J7] <;> lia);rw [ae4,<- A9];refine ⟨.ref s.heap.objs.size,_,I.laid (t':=s.toks) (o:=.lst (cutV xs lo hi)) (fun b ob q=>Heap.get?_push_of_some _ q) (C2 _) ?_,rfl,q _ (I.hok.fresh (C2 _))⟩;exact ⟨F6 (zA xs lo hi) hz,_,0,(r.drop (HT.sIx xs.length 0 lo)).take (HT.sIx xs.length xs.length hi-HT.sIx xs.length 0 lo),Heap.get?_push_size _ rfl⟩
noncomputable def flatV:V->Bool
 | .non=>true
 | .bl _=>true
 | .int _=>true
 | .str _=>true
 | _=>false
noncomputable def bO:V->V->Bool
 | .non,.non=>true
 | .bl a,.bl b=>a==b
 | .bl a,.int b=>(if a then 1 else 0)==b
 | .int a,.bl b=>a==(if b then 1 else 0)
 | .int a,.int b=>a==b
 | .str a,.str b=>a==b
 | _,_=>false
theorem aoZ(ry:RelV y u)(rx:RelV x v)(fy:flatV y=true)(fx:flatV x=true):SeqAt.EqAt A s u v (bO y x):=by
 cases y with
 | non=>
  cases ry
  cases x with
  | non=>cases rx;exact SeqAt.EqAt.same _
  | bl b=>cases rx;exact SeqAt.EqAt.none_bool b
  | int b=>obtain ⟨t,rfl⟩:=rx;exact SeqAt.EqAt.none_int b t
  | str b=>obtain ⟨t,rfl⟩:=rx;exact SeqAt.EqAt.none_str b t
  | _=>exact absurd (show false=true from fx) K9
 | bl a=>
  cases ry
  cases x with
  | non=>cases rx;exact SeqAt.EqAt.bool_none a
  | bl b=>cases rx;exact SeqAt.EqAt.bool_bool a b
  | int b=>obtain ⟨t,rfl⟩:=rx;exact SeqAt.EqAt.bool_int a b t
  | str b=>obtain ⟨t,rfl⟩:=rx;exact SeqAt.EqAt.bool_str a b t
  | _=>exact absurd (show false=true from fx) K9
 | int a=>
  obtain ⟨t',rfl⟩:=ry
  cases x with
  | non=>cases rx;exact SeqAt.EqAt.int_none a t'
  | bl b=>cases rx;exact SeqAt.EqAt.int_bool a t' b
  | int b=>obtain ⟨t,rfl⟩:=rx;exact SeqAt.EqAt.int_int a t' b t
  | str b=>obtain ⟨t,rfl⟩:=rx;exact SeqAt.EqAt.int_str a t' b t
  | _=>exact absurd (show false=true from fx) K9
 | str a=>
  obtain ⟨t',rfl⟩:=ry
  cases x with
  | non=>cases rx;exact SeqAt.EqAt.str_none a t'
  | bl b=>cases rx;exact SeqAt.EqAt.str_bool a t' b
  | int b=>obtain ⟨t,rfl⟩:=rx;exact SeqAt.EqAt.str_int a t' b t
  | str b=>obtain ⟨t,rfl⟩:=rx;exact SeqAt.EqAt.str_str a t' b t
  | _=>exact absurd (show false=true from fx) K9
 | _=>exact absurd (show false=true from fy) K9
noncomputable def U8 (x:V) (u:Value):Bool:=match u with
 | .none=>bO .non x
 | .bool b=>bO (.bl b) x
 | .int i _=>bO (.int i) x
 | .str z _=>bO (.str z) x
 | _=>false
theorem zC(r:RelV y u)(f:flatV y=true):U8 x u=bO y x:=by
 cases y with
 | non=>cases r;rfl
 | bl b=>cases r;rfl
 | int i=>obtain ⟨t,rfl⟩:=r;rfl
 | str z=>obtain ⟨t,rfl⟩:=r;rfl
 | _=>exact absurd (show false=true from f) K9
theorem iY : ∀ {xs:List V} {us:List Value},Vals xs us->xs.all flatV=true->us.any (U8 x)=xs.any fun y=>bO y x
 | _,_,.nil,_=>rfl
 | y::xs,u::us,.cons r t,f=>by
  rw [List.all_cons,P3] at f;rw [p4,p4,zC r f.1,iY t f.2]
theorem iZ(rx:RelV x v)(fx:flatV x=true):∀ {xs:List V} {us:List Value},Vals xs us->xs.all flatV=true->∀ u∈us,SeqAt.EqAt A s u v (U8 x u)
 | _,_,.nil,_=>fun u hu=>by cases hu
 | y::xs,u::us,.cons r t,f=>fun u' hu=>by
  rw [List.all_cons,P3] at f
  rcases D7.mp hu with rfl | hu
  .rw [zC r f.1];exact aoZ r rx f.1 fx
  .exact iZ rx fx t f.2 u' hu
noncomputable def X7 (x:V) (xs:List V):Bool:=xs.any fun y=>bO y x
noncomputable def rB (K:PySem.W.Frag) (neg:Bool):R2:=fun x y H Q=>∃ p xs,y=.ref p/\(D1 K H p xs\/C8 K H p xs)/\flatV x=true/\xs.all flatV=true/\Q (.bl (if neg then !X7 x xs else X7 x xs)) H
theorem aiS:G0 X (compareOp .In) (rB X.K false):=by
 intro pins s Y H x y v u Q I rx ry h;obtain ⟨p,xs,rfl,hq,fx,fs,q⟩:=h
 cases ry
 rcases hq with hq | hq
 .obtain ⟨its,r,pl,hz⟩:=I.list hq;refine SeqAt.in_listAt (U8 x) pl.isList (fun w hw=>iZ rx fx r fs w (by simpa using hw)) ⟨.bl _,H,I,rfl,?_⟩;rw [show its.toArray.any (U8 x)=its.any (U8 x) by simp,iY r fs];exact q
 .obtain ⟨its,r,pl,hz⟩:=I.tuple hq;refine SeqAt.in_tupleAt (U8 x) pl (fun w hw=>iZ rx fx r fs w (by simpa using hw)) ⟨.bl _,H,I,rfl,?_⟩;rw [show its.toArray.any (U8 x)=its.any (U8 x) by simp,iY r fs];exact q
theorem afB:G0 X (compareOp .NotIn) (rB X.K true):=by
 intro pins s Y H x y v u Q I rx ry h;obtain ⟨p,xs,rfl,hq,fx,fs,q⟩:=h
 cases ry
 rcases hq with hq | hq
 .obtain ⟨its,r,pl,hz⟩:=I.list hq;refine SeqAt.notIn_listAt (U8 x) pl.isList (fun w hw=>iZ rx fx r fs w (by simpa using hw)) ⟨.bl _,H,I,rfl,?_⟩;rw [show its.toArray.any (U8 x)=its.any (U8 x) by simp,iY r fs];exact q
 .obtain ⟨its,r,pl,hz⟩:=I.tuple hq;refine SeqAt.notIn_tupleAt (U8 x) pl (fun w hw=>iZ rx fx r fs w (by simpa using hw)) ⟨.bl _,H,I,rfl,?_⟩;rw [show its.toArray.any (U8 x)=its.any (U8 x) by simp,iY r fs];exact q
theorem afC:G0 X (compareOp .NotIn) (fun x y H Q=>∃ i j,x=.str i/\y=.str j/\Q (.bl (!(!(Builtin.Str.occurrences j i 0 j.length 1).isEmpty))) H):=by
 intro pins s Y H x y v u Q I rx ry h;obtain ⟨i,j,rfl,rfl,q⟩:=h;obtain ⟨t,rfl⟩:=rx;obtain ⟨t',rfl⟩:=ry;exact notIn_str ⟨.bl _,H,I,rfl,q⟩
theorem afD:CallR X (.type "list") (fun xs H Q=>∃ p ys,xs=[.ref p]/\(D1 X.K H p ys\/C8 X.K H p ys)/\∀ l,H l=none->Q (.ref l) (A0 H l (.lst ys))):=by
 intro pins s Y H xs us Q I r h;obtain ⟨p,ys,rfl,hq,q⟩:=h;obtain ⟨u,rfl,rx⟩:=vals1 r
 cases rx
 have fin:∀ (its:List Value),Vals ys its->ys.length<=sizeLine->∀ (h':Heap) (c':Nat),(∀ b o',s.heap.get? b=some o'->h'.get? b=some o')->
   h'.get? s.heap.objs.size=some { cls:=.type "list",dict:=none,data:=.seq its.toArray c',slots:=#[] }->EP X pins Y Q (.ref s.heap.objs.size) { s with heap:=h' }:=fun its r' hz h' c' kp e=>
  ⟨.ref s.heap.objs.size,_,I.laid (t':=s.toks) kp (C2 _) (show ObjOk X.prog X.w _ h' _ (.lst ys) from ⟨hz,its,c',r',e⟩),rfl,q _ (I.hok.fresh (C2 _))⟩
 rcases hq with hq | hq
 .obtain ⟨its,r',pl,hz⟩:=I.list hq;have A9:=r'.length;obtain ⟨o,ho,hc,n,hd⟩:=pl.isList;exact call_list_seq p (.inl rfl) ho hc hd (fun h' c' kp e=>fin its r' hz h' c' kp e) (by simp only [J7] <;> lia)
 .obtain ⟨its,r',pl,hz⟩:=I.tuple hq;have A9:=r'.length;obtain ⟨o,ho,hc,n,hd⟩:=pl;exact call_list_seq p (.inr rfl) ho hc hd (fun h' c' kp e=>fin its r' hz h' c' kp e) (by simp only [J7] <;> lia)
theorem ae5:CallR X (.type "tuple") (fun xs H Q=>∃ p ys,xs=[.ref p]/\((D1 X.K H p ys/\∀ l,H l=none->Q (.ref l) (A0 H l (.tup ys)))\/(C8 X.K H p ys/\Q (.ref p) H))):=by
 intro pins s Y H xs us Q I r h;obtain ⟨p,ys,rfl,h⟩:=h;obtain ⟨u,rfl,rx⟩:=vals1 r
 cases rx
 rcases h with ⟨hq,q⟩ | ⟨hq,q⟩
 .obtain ⟨its,r',pl,hz⟩:=I.list hq;have A9:=r'.length;refine call_tuple_list pl.isList (fun h' kp=>?_) (by simp only [J7] <;> lia);have I1:Inv X pins Y H { s with heap:=h' }:=I.kept (t':=s.toks) kp;have I2:Inv X pins Y (A0 H h'.objs.size (.tup ys)) { s with heap:=h'.push { cls:=.type "tuple",data:=.seq its.toArray } }:=
   I1.laid (t':=s.toks) (fun b o e=>Heap.get?_push_of_some _ e) (C2 _) (show ObjOk X.prog X.w _ _ _ (.tup ys) from ⟨hz,its,r',IsTup.new _ _⟩)
  exact ⟨.ref h'.objs.size,_,I2,rfl,q _ (I1.hok.fresh (C2 _))⟩
 .obtain ⟨its,r',pl,hz⟩:=I.tuple hq;exact call_tuple_same pl ⟨.ref p,H,I,rfl,q⟩
noncomputable def j2 (K:PySem.W.Frag) (T:String) (x:V) (H:Hp):Prop:=match x with
 | .str _=>T="str"
 | .int _=>T="int"
 | .ref p=>(T="list"/\∃ xs,D1 K H p xs)\/(T="tuple"/\∃ o,K.lookup p=some o/\o.cls=.type "tuple"/\o.dict=none)\/
   (T="dict"/\((∃ kvs,H p=some (.dK kvs))\/∃ kvs,H p=some (.dT kvs)))\/(T="set"/\∃ S n,H p=some (.set S n))
 | _=>False
theorem zD{T:String}(I:Inv X pins Y H s)(r:RelV x v)(ty:j2 X.K T x H) :
  s.TypeIs v T/\∀ a,v=.ref a->∃ ob,s.heap.get? a=some ob/\ob.dict=none:=by
 cases x with
 | str z=>
  obtain ⟨t,rfl⟩:=r
  cases (show T="str" from ty)
  exact ⟨typeIs_str s z t,fun _ e=>nomatch e⟩
 | int i=>
  obtain ⟨t,rfl⟩:=r
  cases (show T="int" from ty)
  exact ⟨typeIs_int s i t,fun _ e=>nomatch e⟩
 | ref p=>
  cases r
  rcases ty with ⟨rfl,xs,hq⟩ | ⟨rfl,o,hk,hc,hd⟩ | ⟨rfl,hk⟩ | ⟨rfl,S,n,hk⟩
  .obtain ⟨its,_,pl,_⟩:=I.list hq;refine ⟨pl.isList.typeIs,fun a e=>?_⟩;cases e;obtain ⟨o,n,e,c,hd,_⟩:=pl;exact ⟨o,e,hd⟩
  .refine ⟨⟨o,I.kIn p o hk,hc⟩,fun a e=>?_⟩;cases e;exact ⟨o,I.kIn _ o hk,hd⟩
  .have z:∃ o,s.heap.get? p=some o/\o.ExactDict:=by
    rcases hk with ⟨kvs,hk⟩ | ⟨kvs,hk⟩
    .obtain ⟨_,_,_,_,o,_,_,e,ex,_⟩:=I.hok p _ hk;exact ⟨o,e,ex⟩
    .obtain ⟨_,_,_,_,o,_,_,e,ex,_⟩:=I.hok p _ hk;exact ⟨o,e,ex⟩
   obtain ⟨o,e,ex⟩:=z;refine ⟨⟨o,e,ex.1⟩,fun a e2=>?_⟩;cases e2;exact ⟨o,e,ex.2.1⟩
  .obtain ⟨o,_,_,_,e,ex,_⟩:=I.hok p _ hk;refine ⟨⟨o,e,ex.1⟩,fun a e2=>?_⟩;cases e2;exact ⟨o,e,ex.2.1⟩
 | _=>exact False.elim ty
noncomputable def tBM0 (K:PySem.W.Frag) (T:String) (r:V->List V->Hp->VK->Prop) (to:TE):TE:=fun Y H Q=>to Y H fun x H1=>j2 K T x H1/\r x [] H1 Q
noncomputable def mK (K:PySem.W.Frag) (T:String) (r:V->List V->Hp->VK->Prop) (to:TE) (t:TA):TE:=fun Y H Q=>to Y H fun x H1=>j2 K T x H1/\t Y H1 fun xs H2=>r x xs H2 Q
variable {o e:Expr} {es:List Expr} {to:TE} {t:TA} {name:Str} {apos cpos:Pos} {T id:String} {r:V->List V->Hp->VK->Prop}
theorem ao0(pa:PlainAttrs T)(slot:Slot T name id)(T4:typeOf (.builtin id)=pure (.type "method_descriptor"))(hm:mJ X id r)(ho:PE X o to)(E9:attributeBase o name X.env (eval o X.env)=eval o X.env:=by rfl)(G3:(apos.endLine==cpos.line)=true:=by rfl):PE X (.Call (.Attribute o name apos) [] [] cpos) (tBM0 X.K T r to):=by
 intro pins s Y H Q I h;refine wpAny_Call_method0_late E9 G3 (A8 (ho pins s Y H _ I h) fun v s1 ⟨x,H1,I1,r1,ty,q1⟩=>?_);obtain ⟨h1,h2⟩:=zD I1 r1 ty;exact ⟨T,id,pa,slot,T4,h1,h2,Calls.callWith_builtin rfl (PySem.evalArgs_none (hm pins s1 Y H1 x [] v [] Q I1 r1 .nil q1))⟩
theorem pe_bm(pa:PlainAttrs T)(slot:Slot T name id)(T4:typeOf (.builtin id)=pure (.type "method_descriptor"))(hm:mJ X id r)(ho:PE X o to)(ha:PA X (e::es) t)(E9:attributeBase o name X.env (eval o X.env)=eval o X.env:=by rfl)(vO:((backTo cpos (starEach (e::es) X.env)).all (fun x=>!x.1)&&(backToKw cpos (keywordEach [] X.env)).all (fun x=>x.1.isSome)
   && decide ((e::es).length+([]:List Keyword).length+(if ([]:List Keyword).isEmpty then 0 else 1)<30))=true:=by rfl)(G3:(apos.endLine==cpos.line)=true:=by rfl)(hs:starEach (e::es) X.env=(false,eval e X.env)::starEach es X.env:=by rfl)(hplain:(backTo cpos (starEach es X.env)).any (·.1)=false:=by rfl) :
  PE X (.Call (.Attribute o name apos) (e::es) [] cpos) (mK X.K T r to t):=by
 intro pins s Y H Q I h;refine wpAny_Call_method_late E9 vO G3 rfl (A8 (ho pins s Y H _ I h) fun v s1 ⟨x,H1,I1,r1,ty,q1⟩=>?_);obtain ⟨h1,h2⟩:=zD I1 r1 ty;refine ⟨T,id,pa,slot,T4,h1,h2,?_⟩;have hA:=ha cpos pins s1 Y H1 _ I1 q1;rw [hs] at hA ⊢
 refine Calls.callWith_builtin (by show (false || (backTo cpos (starEach es X.env)).any (·.1))=false;rw [hplain] <;> rfl) (Calls.evalArgs_plain ?_);exact A8 hA fun us s2 ⟨vs,H2,I2,r2,q2⟩=>hm pins s2 Y H2 x vs v us Q I2 r1 r2 q2
end
end L2
namespace L2
open PySem PySem.Spec PyProof.Rows
noncomputable def jA (X:Cx) (id:String) (r:V->List V->Hp->VK->Prop):Prop:=
 ∀ (pins:List (Addr×Obj)) (s:Shared) (Y:St) (H:Hp) (x:V) (xs:List V) (v:Value) (us:List Value) (Q:VK),Inv X pins Y H s->RelV x v->Vals xs us->r x xs H Q->
  wpAny (model X.prog X.w) X.A (call (.builtin id) (v::us)) (EP X pins Y Q) X.xe s
theorem Vals.one:∀ {x:V} {us:List Value},Vals [x] us->∃ u,us=[u]/\RelV x u
 | _,_,.cons r .nil=>⟨_,rfl,r⟩
theorem Vals.eraseIdx:∀ {xs:List V} {us:List Value} (i:Nat),Vals xs us->Vals (xs.eraseIdx i) (us.eraseIdx i)
 | _,_,_,.nil=>.nil
 | _,_,0,.cons _ t=>t
 | _,_,i+1,.cons r t=>.cons r (Vals.eraseIdx i t)
theorem Vals.rep(h:Vals xs us):∀ k:Nat,Vals (O3 k xs).flatten (O3 k us).flatten
 | 0=>.nil
 | k+1=>by
  rw [fB,fB,bB,bB];exact Vals.append h (Vals.rep h k)
theorem zE(its:List Value):∀ (k:Nat) (acc:List Value),
  List.foldl (fun x1 x2=>x1++x2) acc.toArray (O3 k its.toArray)=(acc++(O3 k its).flatten).toArray
 | 0,acc=>by simp
 | k+1,acc=>by
  have e:acc.toArray++its.toArray=(acc++its).toArray:=by simp
  have e2:(acc++its)++(O3 k its).flatten=acc++(O3 (k+1) its).flatten:=by
   rw [fB,bB,i5]
  rw [<- e2,<- zE its k (acc++its),<- e,fB,List.foldl_cons]
section
variable {X:Cx} {pins:List (Addr×Obj)} {Y:St} {H:Hp} {s:Shared} {l b:Addr} {xs ys zs:List V}
theorem Inv.lset{its':List Value}{f:Array Value->Array Value}(I:Inv X pins Y H s)(hH:H l=some (.lst xs))(e:s.heap.get? l=some { cls:=.type "list",data:=.seq its.toArray n })(hf:f its.toArray=its'.toArray)(hv:Vals ys its')(hz:ys.length<=sizeLine) :
  Inv X pins Y (A0 H l (.lst ys)) { s with heap:=s.heap.update l (Obj.mapSeq f),toks:=t' }:=by
 have q:=PySem.IsL.update e f;rw [hf] at q;refine I.write (x:=l) (e:=l) (by rw [hH];exact trivial) (.inl rfl) (fun b' u hb hu=>(Heap.get?_update_other s.heap (Obj.mapSeq f) (Ne.symm hb)).trans hu) ⟨_,q⟩ ?_;exact ⟨hz,its',_,hv,q⟩
theorem Inv.lnew(I:Inv X pins Y H s)(hv:Vals ys its)(hz:ys.length<=sizeLine) :
  Inv X pins Y (A0 H s.heap.objs.size (.lst ys)) { s with heap:=s.heap.push { cls:=.type "list",data:=.seq its.toArray },toks:=t' }:=
 I.laid (fun _ _ q=>Heap.get?_push_of_some _ q) (C2 _) ⟨hz,its,0,hv,Heap.get?_push_size _ rfl⟩
theorem Inv.fresh(I:Inv X pins Y H s):H s.heap.objs.size=none:=I.hok.fresh (C2 _)
theorem Inv.lstM(I:Inv X pins Y H s)(hH:H l=some (.lst xs)):xs.length<=sizeLine/\∃ (its:List Value) (n:Nat),Vals xs its/\xs.length=its.length/\s.heap.get? l=some { cls:=.type "list",data:=.seq its.toArray n }:=by
 obtain ⟨z,its,n,r,e⟩:=I.hok l _ hH;exact ⟨z,its,n,r,r.length,e⟩
theorem zF(h:n<=sizeLine):Builtin.List.listTooLong n=false:=by
 unfold Builtin.List.listTooLong;exact decide_eq_false (by lia)
end
section
variable {X:Cx}
noncomputable def cY:V->List V->Hp->VK->Prop:=fun x vs H Q=>∃ l xs y,x=.ref l/\vs=[y]/\H l=some (.lst xs)/\xs.length<sizeLine/\Q .non (A0 H l (.lst (xs++[y])))
theorem zG:jA X "list.append" cY:=by
 intro pins s Y H x vs v us Q I rx rv h;obtain ⟨l,xs,y,rfl,rfl,hH,hz,q⟩:=h
 cases rx
 obtain ⟨u,rfl,ru⟩:=rv.one;obtain ⟨z,its,n,r,hl,e⟩:=I.lstM hH;refine call_meets F.slot_list_append ⟨_,e,rfl⟩ F.entry_list_append (F.args_list_append_2 _ _) (PySem.list_append l its.toArray n u (by rw [J7];lia)) ⟨e,?_⟩;refine ⟨.non,_,I.lset (its':=its++[u]) hH e (by simp) (r.append (.cons ru .nil)) ?_,rfl,q⟩;rw [E3,o0];lia
noncomputable def rCat:R2:=fun x y H Q=>∃ l b xs zs,x=.ref l/\y=.ref b/\H l=some (.lst xs)/\H b=some (.lst zs)/\xs.length+zs.length<=sizeLine/\∀ p,H p=none->Q (.ref p) (A0 H p (.lst (xs++zs)))
theorem ao1:G0 X (binaryOp .Add) rCat:=by
 intro pins s Y H x y v u Q I rx ry h;obtain ⟨l,b,xs,zs,rfl,rfl,hH,hB,hz,q⟩:=h
 cases rx
 cases ry
 obtain ⟨z,its,n,r,hl,e⟩:=I.lstM hH;obtain ⟨z2,its2,n2,r2,W4,e2⟩:=I.lstM hB;refine PySem.P.add_list e e2 ?_ (by rw [J7,J7];lia);have ea:its.toArray++its2.toArray=(its++its2).toArray:=by simp
 rw [ea];exact ⟨.ref _,_,I.lnew (t':=s.toks) (r.append r2) (by rw [E3];lia),rfl,q _ I.fresh⟩
noncomputable def rRep:R2:=fun x y H Q=>∃ l k xs,x=.ref l/\y=.int k/\H l=some (.lst xs)/\-(2 ^ 63)<=k/\k<2 ^ 63/\xs.length*k.toNat<=sizeLine/\
 ∀ p,H p=none->Q (.ref p) (A0 H p (.lst (O3 k.toNat xs).flatten))
theorem am0{α:Type}(xs:List α)(k:Nat):(O3 k xs).flatten.length=k*xs.length:=by
 induction k with
 | zero=>simp
 | succ k ih=>rw [fB,bB,E3,ih,Nat.succ_mul,Nat.add_comm]
theorem ao2:G0 X (binaryOp .Mult) rRep:=by
 intro pins s Y H x y v u Q I rx ry h;obtain ⟨l,k,xs,rfl,rfl,hH,h1,h2,hz,q⟩:=h
 cases rx
 obtain ⟨t,rfl⟩:=ry;obtain ⟨z,its,n,r,hl,e⟩:=I.lstM hH;have A9:its.toArray.size*k.toNat<=sizeLine:=by rw [J7,<- hl];exact hz
 have vP:¬ its.toArray.size*k.toNat > (2 ^ 63-1) / 8:=by
  have:(sizeLine:Nat)<=(2 ^ 63-1) / 8:=by decide
  lia
 have vQ:¬ (!Builtin.List.listFitsIndex k)=true:=by
  rw [fitsIndex_both h1 h2];exact K9
 have l6:¬ Builtin.List.listTooLong (its.toArray.size*k.toNat)=true:=by
  rw [zF A9];exact K9
 have O9:List.foldl (fun x1 x2=>x1++x2) #[] (O3 (if its.toArray.isEmpty=true then 0 else k.toNat) its.toArray)=(O3 k.toNat its).flatten.toArray:=by
  have f0:∀ m:Nat,List.foldl (fun x1 x2=>x1++x2) #[] (O3 m its.toArray)=(O3 m its).flatten.toArray:=fun m=>by
   have:=zE its m []
   rw [fE] at this;exact this
  rw [f0]
  cases its with
  | nil=>simp
  | cons a r'=>rw [if_neg (by simp)]
 refine wpAny_binaryOp_repeat_ref (T:="list") (U:="int") (by decide) ⟨_,e,rfl⟩ (fun s'=>typeIs_int s' k t) noFill_list_mul F.fills_int_mul F.slot_int_rmul repeat_list F.slot_int_index.lookup
  (call_meets F.slot_int_rmul (typeIs_int s k t) F.entry_int_rmul (F.args_int_rmul_2 _ _) (int___rmul___int_list k t l its.toArray n)
   ⟨e,rfl,⟨_,e,rfl⟩,call_meets F.slot_list_mul ⟨_,e,rfl⟩ F.entry_list_mul (F.args_list_mul_2 _ _) (AutoListH.list___mul___list_int_3 l its.toArray n k t vQ vP l6) ⟨e,?_⟩⟩)
 rw [O9];exact ⟨.ref _,_,I.lnew (t':=s.toks) (r.rep k.toNat) (by rw [am0,Nat.mul_comm];exact hz),rfl,q _ I.fresh⟩
end
section
variable {prog:Program} {w:World} {A:Around} {E:Value->Shared->Prop} {s:Shared}
end
section
variable {X:Cx}
end
end L2
namespace Att
open PySem PySem.W PySem.Calls PyProof.Rows
theorem ad2{P:Params} : ∀ (ns:List Int) (vs:List Value),WellAll P h vs (ns.map WData.int)->IntsAre vs ns:=by
 intro ns
 induction ns with
 | nil=>
  intro vs w;rw [i7] at w
  cases w
  exact .nil
 | cons n ns ih=>
  intro vs w;rw [D0] at w
  cases w with
  | cons a b=>
   cases a
   exact .cons _ _ (ih _ b)
theorem aiT{l:OpenLaw}(hn:l.most=some n){P:Params}{args:List WData}{vals:List Value}(aM:l.row.toRowW.claim.pre args=true)(pD:WellAll P h vals args) :
  ∃ a vs ns,vals=[Value.ref a]/\args=[WData.list (ns.map WData.int)]/\h.get? a=some { cls:=.type "list",data:=.seq vs.toArray }/\IntsAre vs ns/\ns.length<=n:=by
 have hsh:WShape.hasAll [] args [.list .int]=true:=(pre_splitW aM).1;have hc:l.pre.holds [] { args:=args }=true:=(pre_splitW aM).2;obtain ⟨d,r,rfl,h1,h2⟩:=hasAllW_cons hsh;obtain rfl:=hasAllW_nil h2;obtain ⟨xs,rfl,h3⟩:=hasW_list h1;obtain ⟨ns,rfl⟩:=items_int h3;have A9:ns.length<=n:=by
  unfold OpenLaw.pre at hc;have h4:(WTm.not (.lt (.lit (.int (n:Int))) (.len (.arg 0)))).holds [] { args:=[.list (ns.map .int)] }=true:=by
   have h4:=(holds_andW hc).1;rw [hn] at h4;exact h4
  have h5:=condW_of h4 (w_not (w_lt w_lit (w_len_list (w_arg rfl))));rw [A4] at h5;refine Nat.le_of_not_lt fun q=>?_
  have q':(n:Int)<((ns.length:Nat):Int):=by lia
  first
   | (rw [decide_eq_true q'] at h5;exact absurd h5 (by decide))
   | (simp at h5;lia)
 cases pD with
 | cons w1 w2=>
  cases w2
  cases w1 with
  | list ho Z1=>exact ⟨_,_,ns,rfl,rfl,ho,ad2 ns _ Z1,A9⟩
theorem aiU(l:OpenLaw)(args:List WData):l.row.toRowW.claim.post args (.bool true) args=true:=
 postW_of (r:=l.row.toRowW) (X:=(true==true))
  (show WShape.has [] (.bool true) .bool=true by first | rfl | decide | simp [WShape.has,WShape.arms,WShape.armsAll])
  (show (WTm.eq .res (.lit (.bool true))).value [] { args:=args,res:=some (.bool true),after:=args }=some (.bool (true==true)) from w_eq_bool (w_res rfl) w_lit) rfl
theorem attach_call{l:OpenLaw}{q:Program}{XP:(Str->Option Value)->Heap->Prop}{YP:World->Heap->Prop}{d:DefRec}(hn:l.most=some n)(v0:d.params.defaults=[])(call:∀ (w:World) (s₀ zw:Shared) (mg mb:Str->Option Value) (fa:Addr) (o:Obj) (pm cd doc:Value) (a:Addr) (vs:List Value) (ns:List Int),
   Ground q loose [] XP w s₀ mg mb zw.heap->YP w zw.heap->
   zw.heap.get? fa=some o->o.data=.func (docDef d.name d.params d.body d.scope pm cd doc)->zw.heap.CodeRec cd d.name->mg d.name=some (.ref fa)->
   zw.heap.get? a=some { cls:=.type "list",data:=.seq vs.toArray }->IntsAre vs ns->ns.length<=n->zw.gens=#[]->
   codeAny (model l.prog w) callerA (.call (.ref fa) ⟨[.ref a],[]⟩) (fun r s'=>r=.ok (.ret (.bool true))/\OldK zw.heap s'.heap/\s'.os=zw.os/\AllBare s'.gens) zw) :
  WalkO q loose XP YP l.row.toRowW d [] (fun f vs=>PySem.call f vs):=by
 intro w s₀ zw mg mb G zy fa o pm cd doc dV kV ho hd U2 hD dW hg args vals as aM hlay hrd pD hlo;obtain rfl:dV=.none:=Dflts.none hD v0;obtain rfl:kV=.none:=Dflts.noKw hD;obtain ⟨a,vs,ns,rfl,rfl,dX,l7,A9⟩:=aiT hn aM pD;refine enter_call (codeAny_mono (call w s₀ zw mg mb fa o pm cd doc a vs ns G zy ho (fd_plain hd) U2 dW dX l7 A9 hg) fun r s' hq=>?_);obtain ⟨rfl,h2,h3,h4⟩:=hq;exact ⟨.inl ⟨.bool true,.bool true,[],rfl,fun _=>rfl,.bool true,aiU l _,fun _=>⟨List.Pairwise.nil,fun _ hm=>(nomatch hm)⟩⟩,h2,h3,h4⟩
section
variable {prog:Program} {w:World} {A:Around} {E:Value->Shared->Prop} {s:Shared} {K:Frag}
end
end Att
namespace L2
open PySem PySem.Spec PyProof.Rows
theorem zH:∀ {vs:List Value} {ns:List Int},IntsAre vs ns->Vals (ns.map V.int) vs
 | _,_,.nil=>.nil
 | _,_,.cons n t h=>.cons ⟨t,rfl⟩ (zH h)
noncomputable def Only (H:Hp):Prop:=∀ b,H b=none\/∃ o xs,H b=some (.frz o (.lst xs))
theorem akQ{P:Program}{w:World}{mb:Str->Option Value}{CX:V6}{x:Str}{zw:Shared}{vs:List Value}(KX:K.In zw.heap)(cF:zw.heap.Ns mainGlobals mg)(hb:zw.heap.Ns builtinsNs mb)(hbb:∀ x:Str,x≠"__name__"->mb x=bootBuiltins x)(vR:zw.heap.NoLimit)(hg:zw.gens=#[])(ha:zw.heap.get? a=some { cls:=.type "list",data:=.seq vs.toArray })(hi:IntsAre vs ns)(hl:ns.length<=sizeLine)(hr:Room k callerA)(F:∀ base:Heap,K.In base->base.Ns mainGlobals mg->FnOk P w K mg base CX k fa fd [x] sp)(kP:∀ (s:Shared) (u:Value),BindsTo s fd ⟨[u],[]⟩ [(x,u)])(U3:∀ H:Hp,Only H->D1 K H a (ns.map V.int)->sp [.ref a] H (fun v _=>v=.bl true) fun _ _ _=>False)(hCX:∀ H e s',CX [] H zw (fun _ _ _=>False) e s'->False) :
  codeAny (model P w) callerA (.call (.ref fa) ⟨[.ref a],[]⟩) (fun r s'=>r=.ok (.ret (.bool true))/\OldK zw.heap s'.heap/\s'.os=zw.os/\AllBare s'.gens) zw:=by
 have rv:=zH hi;have lenV:=hi.length;have core:∀ H:Hp,Only H->D1 K H a (ns.map V.int)->K1 P w H zw.heap->(∀ b,H b≠none->b=a)->(H a≠none->K.lookup a=none)->
   codeAny (model P w) callerA (.call (.ref fa) ⟨[.ref a],[]⟩) (fun r s'=>r=.ok (.ret (.bool true))/\OldK zw.heap s'.heap/\s'.os=zw.os/\AllBare s'.gens) zw:=by
  intro H hO hS hok hA hK;have base_of:∀ {b:Addr} {o:Obj},zw.heap.get? b=some o->H b=none->(hidT zw.heap H).get? b=some o:=fun e n=>akz e n
  have noA:∀ {b:Addr} {o:Obj} {es:Array DictEntry} {ep:Nat},zw.heap.get? b=some o->o.data=.dict es ep->H b=none:=fun {b o es ep} e d=>by
   cases q:H b with
   | none=>rfl
   | some u=>
    have e':b=a:=hA b (by rw [q];simp);subst e';rw [ha] at e;cases e;have d':Data.seq vs.toArray _=Data.dict es ep:=d
    cases d'
  have nsK:∀ {b:Addr} {m:Str->Option Value},zw.heap.Ns b m->(hidT zw.heap H).Ns b m:=fun {b m} ⟨o,es,ep,e,d,r⟩=>⟨o,es,ep,base_of e (noA e d),d,r⟩
  have hKb:K.In (hidT zw.heap H):=fun b o e=>base_of (KX b o e) (by
   cases q:H b with
   | none=>rfl
   | some u=>
    have e':b=a:=hA b (by rw [q];simp);subst e';rw [hK (by rw [q];simp)] at e;cases e)
  have hM:Mod K mg (hidT zw.heap H):=⟨hKb,nsK cF,⟨mb,nsK hb,hbb⟩,let ⟨mc,h1,h2⟩:=vR;⟨mc,nsK h1,h2⟩⟩
  have e0:Env0 P w K mg (hidT zw.heap H) callerA [] zw H:=⟨rfl,hM,fun b o e=>amA e,Nat.le_of_eq (aix _ _),trivial,fun b hb=>absurd (show b∈([]:List Addr) from hb) (by simp),hok,.of_eq hg⟩
  refine codeAny_mono ((F _ hKb (nsK cF)).run callerA [] zw H ⟨[.ref a],[]⟩ [.ref a] [.ref a] _ _ hr e0 (kP zw (.ref a)) (.cons rfl .nil) (U3 H hO hS)) fun r s' h=>?_
  cases r with
  | error e=>exact (hCX H e s' h).elim
  | ok fl=>
   cases fl with
   | next=>exact False.elim h
   | brk=>exact False.elim h
   | cont=>exact False.elim h
   | ret u=>
    obtain ⟨v,H',os,bare,un,vS,r',q⟩:=h;have q':v=.bl true:=q;subst q';obtain rfl:u=Value.bool true:=r';refine ⟨rfl,OldK.of_keep fun b o e=>?_,os,bare⟩
    cases q:H b with
    | none=>exact un.keep b o e q (by intro z;exact absurd (show b∈([]:List Addr) from z) (by simp)) (by simp)
    | some u=>
     rcases hO b with z | ⟨ob,xs,z⟩
     .rw [q] at z;cases z
     .have z2:=un.frzs b ob _ z;obtain ⟨e1,_⟩:=hok b _ z;obtain ⟨e2,_⟩:=vS b _ z2;rw [e] at e1;cases e1;exact e2
 cases hk:K.lookup a with
 | some o=>
  have e:=KX a o hk;rw [ha] at e;cases e;refine core (fun _=>none) (fun _=>.inl rfl) (.inr ⟨_,vs.toArray,_,hk,rfl,rfl,rfl,by rw [J7,lenV];exact hl,by simpa using rv⟩) (fun b u z=>by have z':(none:Option HO)=some u:=z;cases z') (fun b z=>absurd rfl z) fun z=>absurd rfl z
 | none=>
  refine core (fun b=>if b=a then some (.frz { cls:=.type "list",data:=.seq vs.toArray } (.lst (ns.map V.int))) else none) (fun b=>?_) (.inl (.inr ⟨{ cls:=.type "list",data:=.seq vs.toArray },if_pos rfl⟩)) (fun b u z=>?_) (fun b z=>?_) fun _=>hk
  .by_cases hb:b=a
   .exact .inr ⟨_,_,if_pos hb⟩
   .exact .inl (if_neg hb)
  .by_cases hb:b=a
   .have z':=(if_pos hb).symm.trans z
    cases z'
    subst hb;exact ⟨ha,by rw [A4];exact hl,vs,_,rv,ha⟩
   .have z':=(if_neg hb).symm.trans z
    cases z'
  .by_cases hb:b=a
   .exact hb
   .exact absurd (if_neg hb) z
end L2
namespace L2
open PySem PySem.Spec PyProof.Rows
theorem walk_of{l:PySem.W.OpenLaw}{q:Program}{XP:(Str->Option Value)->Heap->Prop}{YP:World->Heap->Prop}{d:DefRec}{K:Params->PySem.W.Frag}{CX:World->V6}{sp:World->Sp}{x:Str}(hn:l.most=some n)(k9:n<=sizeLine)(v0:d.params.defaults=[])(hr:Room k callerA)(hY:∀ (w:World) (h:Heap),YP w h->(K w.params).In h)(F:∀ (w:World) (mg:Str->Option Value) (fa:Addr) (h:Heap),(K w.params).In h->h.Ns mainGlobals mg->mg d.name=some (.ref fa)->
   ∃ fd:FuncData,(∀ (s:Shared) (u:Value),BindsTo s fd ⟨[u],[]⟩ [(x,u)])/\
    ∀ base:Heap,(K w.params).In base->base.Ns mainGlobals mg->FnOk l.prog w (K w.params) mg base (CX w) k fa fd [x] (sp w))(U3:∀ (w:World) (H:Hp) (a:Addr) (ns:List Int),ns.length<=n->Only H->D1 (K w.params) H a (ns.map V.int)->sp w [.ref a] H (fun v _=>v=.bl true) fun _ _ _=>False)(hCX:∀ (w:World) (H:Hp) (s:Shared) (e:Value) (s':Shared),CX w [] H s (fun _ _ _=>False) e s'->False) :
  PySem.W.WalkO q loose XP YP l.row.toRowW d [] (fun f vs=>PySem.call f vs):=by
 refine Att.attach_call hn v0 fun w s₀ zw mg mb fa o pm cd doc a vs ns G zy ho hd U2 dW dX l7 A9 hg=>?_
 have KX:=hY w _ zy;obtain ⟨fd,hb,hF⟩:=F w mg fa _ KX G.T.g dW;exact akQ KX G.T.g G.T.b G.T.builtins G.T.nolimit hg dX l7 (F6 A9 k9) hr hF hb (fun H hO hS=>U3 w H a ns A9 hO hS) fun H e s'=>hCX w H zw e s'
end L2
namespace L2
open PySem PySem.Spec PyProof.Rows
noncomputable def p7 (s:Stmt) (j:Nat):Stmt:=match s with
 | .ClassDef _ _ _ body _ _ _ _ _ _ _=>body.getD j (.Pass ⟨0,0,0,0⟩)
 | _=>.Pass ⟨0,0,0,0⟩
noncomputable def Q7 (s:Stmt):Arguments:=match s with
 | .FunctionDef _ a _ _ _ _ _ _ _ _=>a
 | _=>{ posonlyargs:=[],args:=[],vararg:=none,kwonlyargs:=[],kw_defaults:=[],kwarg:=none,defaults:=[] }
noncomputable def O5 (s:Stmt):List Stmt:=match s with
 | .FunctionDef _ _ b _ _ _ _ _ _ _=>b
 | _=>[]
noncomputable def C3 (s:Stmt):Scope:=match s with
 | .FunctionDef _ _ _ _ _ _ sc _ _ _=>sc
 | _=>{ kind:=.function,names:=[],isGenerator:=false,isCoroutine:=false }
noncomputable abbrev D9:V6:=fun _ _ _ _ _ _=>False
noncomputable abbrev E0:XK:=fun _ _ _=>False
theorem pass0 : bM D9 X E0:=fun _ _ _ _ _ _ _ h=>h.elim
structure Fun(K:PySem.W.Frag)(x qual:Str)(st:Stmt)(f:Addr)(fd:FuncData):Prop where
 ex:∃ (oc:Value) (od:Option Addr) (kV doc pm:Value) (an:Option Addr) (cdv ct:Value) (osl:Array (Option Value)),
  fd=O4 x qual (Q7 st) (O5 st) (C3 st) .none kV doc pm an cdv ct/\K.lookup f=some ⟨oc,od,.func fd,osl⟩/\R5 K cdv qual=true
 kp:N4 K (.ref f)=true
section
variable {P:Program} {w:World} {K:PySem.W.Frag} {mg:Str->Option Value} {base:Heap}
end
theorem hu_of(hr:Room k A):A.units+1<cLine:=Nat.lt_of_le_of_lt (Nat.add_le_add_left (by decide:1<=64) _) hr.units
section
variable {X:Cx}
end
theorem iteF{A B:Prop}(h:B):if false=true then A else B:=by
 rw [if_neg K9];exact h
theorem iteT{A B:Prop}(h:A):if true=true then A else B:=by
 rw [if_pos rfl];exact h
noncomputable def Same (H H':Hp):Prop:=∀ b o,H b=some o->H' b=some o
theorem U9(H:Hp):Same H H:=fun _ _ h=>h
theorem Same.trans(a:Same H H1)(b:Same H1 H2):Same H H2:=fun c o h=>b c o (a c o h)
theorem Same.free(e:Same H H'){l:Addr}(h:H' l=Option.none):H l=Option.none:=by
 cases q:H l with
 | none=>rfl
 | some o=>
  rw [e l o q] at h;cases h
theorem Same.seq(e:Same H H')(h:D1 K H a xs):D1 K H' a xs:=by
 rcases h with (h | ⟨o,h⟩) | h
 .exact .inl (.inl (e _ _ h))
 .exact .inl (.inr ⟨o,e _ _ h⟩)
 .exact .inr h
end L2
set_option maxRecDepth 100000
namespace L2
open PySem PySem.Spec PyProof.Rows
section
variable {κ:Type} [DecidableEq κ]
noncomputable def valV (kvs:List (κ×V)) (k:κ):Option V:=(kvs.find? fun kv=>decide (kv.1=k)).map (·.2)
noncomputable def putK (kvs:List (κ×V)) (k:κ) (v:V):List (κ×V):=
 if (kvs.any fun kv=>decide (kv.1=k))=true then kvs.map (fun kv=>if kv.1=k then (kv.1,v) else kv) else kvs++[(k,v)]
noncomputable def dropK (kvs:List (κ×V)) (k:κ):List (κ×V):=kvs.filter fun kv=>decide (kv.1≠k)
theorem mM{p:κ×V}{r:List (κ×V)}{k:κ}(e:p.1=k):valV (p::r) k=some p.2:=by simp [valV,o8,e]
theorem y3{p:κ×V}{r:List (κ×V)}{k:κ}(e:¬ p.1=k):valV (p::r) k=valV r k:=by simp [valV,o8,e]
theorem rC(k:κ):∀ kvs:List (κ×V),(kvs.any fun kv=>decide (kv.1=k))=(valV kvs k).isSome
 | []=>rfl
 | p::r=>by
  rw [p4]
  by_cases e:p.1=k
  .simp only [mM e,decide_eq_true e,Bool.true_or,Option.isSome_some]
  .rw [y3 e,decide_eq_false e,Bool.false_or];exact rC k r
theorem rD(kvs:List (κ×V))(k:κ)(v:V):(putK kvs k v).length<=kvs.length+1:=by
 unfold putK
 split
 .rw [A4];lia
 .rw [E3,E8,T7];lia
theorem akR{kvs:List (κ×V)}{k:κ}(v:V)(h:valV kvs k=none):putK kvs k v=kvs++[(k,v)]:=by
 unfold putK;rw [rC,h];exact if_neg (by decide)
theorem RelO.isSome_eq{o:Option V}{u:Option Value}(r:RelO o u):o.isSome=u.isSome:=by
 cases o with
 | none=>cases u with
  | none=>rfl
  | some _=>exact (show False from r).elim
 | some _=>cases u with
  | none=>exact (show False from r).elim
  | some _=>rfl
theorem RelO.getD{o:Option V}{u:Option Value}{d:V}{d':Value}(r:RelO o u)(rd:RelV d d'):RelV (o.getD d) (u.getD d'):=by
 cases o with
 | none=>cases u with
  | none=>exact rd
  | some _=>exact (show False from r).elim
 | some _=>cases u with
  | none=>exact (show False from r).elim
  | some _=>exact r
theorem KV.val{kvs:List (κ×V)}{vs:List (κ×Value)}(r:KV kvs vs)(k:κ):RelO (valV kvs k) (valueAt vs k):=by
 unfold KV at r
 induction r with
 | nil=>exact True.intro
 | @cons p q ps qs h t ih=>
  obtain ⟨h1,h2⟩:=h
  by_cases e:p.1=k
  .have e':q.1=k:=h1.symm.trans e;have b:valueAt (q::qs) k=some q.2:=by simp [valueAt,o8,e']
   rw [mM e,b];exact h2
  .have e':¬ q.1=k:=fun z=>e (h1.trans z)
   have b:valueAt (q::qs) k=valueAt qs k:=by simp [valueAt,o8,e']
   rw [y3 e,b];exact ih
theorem KV.any{kvs:List (κ×V)}{vs:List (κ×Value)}(r:KV kvs vs)(k:κ):(kvs.any fun kv=>decide (kv.1=k))=vs.any fun kv=>decide (kv.1=k):=by
 unfold KV at r
 induction r with
 | nil=>rfl
 | cons h t ih=>rw [p4,p4,ih,h.1]
theorem KV.repl{kvs:List (κ×V)}{vs:List (κ×Value)}(r:KV kvs vs)(k:κ)(ry:RelV y u) :
  KV (kvs.map fun kv=>if kv.1=k then (kv.1,y) else kv) (vs.map fun kv=>if kv.1=k then (kv.1,u) else kv):=by
 unfold KV at r ⊢
 induction r with
 | nil=>exact .nil
 | @cons p q ps qs h t ih=>
  rw [D0,D0];refine .cons ?_ ih;obtain ⟨h1,h2⟩:=h
  by_cases e:p.1=k
  .rw [if_pos e,if_pos (h1.symm.trans e)];exact ⟨h1,ry⟩
  .rw [if_neg e,if_neg (fun z=>e (h1.trans z))];exact ⟨h1,h2⟩
theorem KV.put{kvs:List (κ×V)}{vs:List (κ×Value)}(r:KV kvs vs)(k:κ)(ry:RelV y u):KV (putK kvs k y) (stored vs k u):=by
 unfold putK stored;rw [r.any k]
 by_cases e:(vs.any fun kv=>decide (kv.1=k))=true
 .rw [if_pos e,if_pos e];exact r.repl k ry
 .rw [if_neg e,if_neg e];exact Paired.snoc r ⟨rfl,ry⟩
theorem KV.keys{kvs:List (κ×V)}{vs:List (κ×Value)}(r:KV kvs vs):kvs.map (·.1)=vs.map (·.1):=by
 unfold KV at r
 induction r with
 | nil=>rfl
 | cons h t ih=>rw [D0,D0,ih,h.1]
theorem KV.length{kvs:List (κ×V)}{vs:List (κ×Value)}(r:KV kvs vs):kvs.length=vs.length:=Paired.length r
end
theorem kV_is{P:Program}{w:World}{k:B5}(r:RelV (kV k) u):(N3 P w).is k u=true:=by
 cases k with
 | inl i=>obtain ⟨t,e⟩:=(show ∃ t,u=Value.int i t from r);subst e;exact agt P w i t
 | inr x=>obtain ⟨t,e⟩:=(show ∃ t,u=Value.str x t from r);subst e;exact agu P w x t
theorem zI{P:Program}{w:World} : ∀ {ks:List B5} {us:List Value},Vals (ks.map kV) us->ItemsAre (N3 P w) ks us
 | [],_,r=>by rw [i7] at r;cases r;exact .nil
 | k::ks,_,r=>by
  rw [D0] at r
  cases r with
  | cons h t=>exact .cons (kV_is h) (zI t)
noncomputable abbrev KT (H:Hp):List (List B5×V)->List (List B5×Addr×Value)->Prop:=Paired fun p q=>p.1=q.1/\H q.2.1=some (.tup (p.1.map kV))/\RelV p.2 q.2.2
theorem KT.val{kvs:List (List B5×V)}{xs:List (List B5×Addr×Value)}(r:KT H kvs xs)(k:List B5):RelO (valV kvs k) ((atKey xs k).map (·.2)):=by
 induction r with
 | nil=>exact True.intro
 | @cons p q ps qs h t ih=>
  obtain ⟨h1,_,h2⟩:=h
  by_cases e:p.1=k
  .have e':q.1=k:=h1.symm.trans e;have b:atKey (q::qs) k=some q.2:=by simp [atKey,o8,e']
   rw [mM e,b];exact h2
  .have e':¬ q.1=k:=fun z=>e (h1.trans z)
   have b:atKey (q::qs) k=atKey qs k:=by simp [atKey,o8,e']
   rw [y3 e,b];exact ih
theorem KT.repl{kvs:List (List B5×V)}{xs:List (List B5×Addr×Value)}(r:KT H kvs xs)(k:List B5)(ry:RelV y u) :
  KT H (kvs.map fun kv=>if kv.1=k then (kv.1,y) else kv) (xs.map (putAt k u)):=by
 induction r with
 | nil=>exact .nil
 | @cons p q ps qs h t ih=>
  rw [D0,D0];refine .cons ?_ ih;obtain ⟨h1,h2,h3⟩:=h;unfold putAt
  by_cases e:p.1=k
  .rw [if_pos e,if_pos (h1.symm.trans e)];exact ⟨h1,h2,ry⟩
  .rw [if_neg e,if_neg (fun z=>e (h1.trans z))];exact ⟨h1,h2,h3⟩
theorem KT.put{kvs:List (List B5×V)}{xs:List (List B5×Addr×Value)}(r:KT H kvs xs)(k:List B5)(hb:H b=some (.tup (k.map kV)))(ry:RelV y u) :
  KT H (putK kvs k y) (storedH xs k b u):=by
 have e:(kvs.any fun kv=>decide (kv.1=k))=(atKey xs k).isSome:=by
  rw [rC,(r.val k).isSome_eq,Option.isSome_map]
 unfold putK storedH;rw [e]
 by_cases q:(atKey xs k).isSome=true
 .rw [if_pos q,if_pos q];exact r.repl k ry
 .rw [if_neg q,if_neg q];exact Paired.snoc r ⟨rfl,hb,ry⟩
theorem KT.keeps{kvs:List (List B5×V)}{xs:List (List B5×Addr×Value)}(r:KT H kvs xs)(ht:∀ b ys,H b=some (.tup ys)->H' b=some (.tup ys)):KT H' kvs xs:=
 R1 r fun _ _ z=>⟨z.1,ht _ _ z.2.1,z.2.2⟩
section
variable {P:Program} {w:World} {H:Hp} {h:Heap} {a:Addr}
theorem rd_of{u:HO}(ok:K1 P w H h)(e:Rd H a u):ObjOk P w H h a u:=e.ok ok
theorem dk_rd(ok:K1 P w H h)(e:Rd H a (.dK kvs)):kvs.length<=sizeLine/\(a==sysModules)=false/\∃ vs,KV kvs vs/\h.DictOf (N3 P w) a vs:=
 show ObjOk P w H h a (.dK kvs) from rd_of ok e
theorem dk_of(ok:K1 P w H h)(e:H a=some (.dK kvs)):kvs.length<=sizeLine/\(a==sysModules)=false/\∃ vs,KV kvs vs/\h.DictOf (N3 P w) a vs:=dk_rd ok (.inl e)
theorem fV{ks:List B5}(ok:K1 P w H h)(e:H a=some (.tup (ks.map kV))):(tupleKind (N3 P w)).is h ks a:=by
 obtain ⟨_,its,r,o,h1,h2,n,h3⟩:=(show ObjOk P w H h a (.tup (ks.map kV)) from ok a _ e)
 exact ⟨o,its.toArray,n,h1,h2,h3,by simpa using zI r⟩
theorem dt_rd{kvs:List (List B5×V)}(ok:K1 P w H h)(e:Rd H a (.dT kvs)):kvs.length<=sizeLine/\(a==sysModules)=false/\
  ∃ xs,KT H kvs xs/\h.DictOfH (tupleKind (N3 P w)) a xs:=by
 obtain ⟨z,y,xs,r,o,es,ep,h1,h2,h3,h4,h5⟩:=(show ObjOk P w H h a (.dT kvs) from rd_of ok e)
 refine ⟨z,y,xs,r,o,es,ep,h1,h2,h3,h4,fun x hx=>?_,h5⟩;have all:∀ {l:List (List B5×V)} {m:List (List B5×Addr×Value)},KT H l m->∀ x∈m,(tupleKind (N3 P w)).is h x.1 x.2.1:=by
  intro l m q
  induction q with
  | nil=>intro x hx;exact nomatch hx
  | @cons p q ps qs hq t ih=>
   intro x hx
   rcases D7.mp hx with e | hx
   .subst e;exact fV ok (by rw [<- hq.1];exact hq.2.1)
   .exact ih x hx
 exact all r x hx
theorem dt_of{kvs:List (List B5×V)}(ok:K1 P w H h)(e:H a=some (.dT kvs)):kvs.length<=sizeLine/\(a==sysModules)=false/\
  ∃ xs,KT H kvs xs/\h.DictOfH (tupleKind (N3 P w)) a xs:=dt_rd ok (.inl e)
end
noncomputable def DGet (H:Hp) (a:Addr) (y:V) (r:Option V):Prop:=
 (∃ kvs k,Rd H a (.dK kvs)/\y=kV k/\r=valV kvs k)\/∃ kvs k b,Rd H a (.dT kvs)/\y=.ref b/\H b=some (.tup (k.map kV))/\r=valV kvs k
noncomputable def DPut (H:Hp) (a:Addr) (y v:V) (H':Hp):Prop:=
 (∃ kvs k,H a=some (.dK kvs)/\y=kV k/\kvs.length<sizeLine/\H'=A0 H a (.dK (putK kvs k v)))\/
 ∃ kvs k b,H a=some (.dT kvs)/\y=.ref b/\H b=some (.tup (k.map kV))/\kvs.length<sizeLine/\H'=A0 H a (.dT (putK kvs k v))
theorem p8{k:B5}(e:H a=some (.dK kvs)):DGet H a (kV k) (valV kvs k):=.inl ⟨kvs,k,.inl e,rfl,rfl⟩
theorem j3{k:B5}{v:V}(e:H a=some (.dK kvs))(hl:kvs.length<sizeLine):DPut H a (kV k) v (A0 H a (.dK (putK kvs k v))):=.inl ⟨kvs,k,e,rfl,hl,rfl⟩
section
variable {X:Cx} {pins:List (Addr×Obj)} {Y:St} {H:Hp} {s:Shared} {a:Addr} {y v:V} {u r:Value} {o:Option V} {A:Around} {E:Value->Shared->Prop}
theorem Inv.big(I:Inv X pins Y H s):sysModules<s.heap.objs.size:=by
 have h:mainGlobals<s.heap.objs.size:=(I.mod.glob.keeps I.bk).lt;exact Nat.lt_trans (by decide) h
theorem zJ{Q:Value->Shared->Prop}(hu:A.units+1<cLine)(I:Inv X pins Y H s)(g:DGet H a y (some v))(ry:RelV y u)(h:∀ w' s',Inv X pins Y H s'->RelV v w'->Q w' s') :
  wpAny (model X.prog X.w) A (getItem (.ref a) u) Q E s:=by
 rcases g with ⟨kvs,k,e,ey,l⟩ | ⟨kvs,k,b,e,ey,eb,l⟩
 .subst ey;obtain ⟨z,hd,vs,rel,dd⟩:=dk_rd I.hok e;obtain ⟨w',hw,rw'⟩:=iX (v:=v) (o:=valueAt vs k) (by rw [l];exact rel.val k);exact wpAny_getItem_of (kV_is ry) dd.mapOf hw (h w' _ (I.tok _) rw')
 .subst ey
  cases (show u=Value.ref b from ry)
  obtain ⟨z,hd,xs,rel,dd⟩:=dt_rd I.hok e;obtain ⟨w',hw,rw'⟩:=iX (v:=v) (o:=(atKey xs k).map (·.2)) (by rw [l];exact rel.val k);obtain ⟨p,hp,pE⟩:=Option.map_eq_some_iff.mp hw;refine wpAny_getItem_heap (tupleKind_room_in1 hu) (fV I.hok eb) dd hp ?_;rw [pE];exact h w' _ (I.tok _) rw'
theorem d_in{Q:Value->Shared->Prop}(hu:A.units+1<cLine)(I:Inv X pins Y H s)(g:DGet H a y o)(ry:RelV y u)(h:∀ s',Inv X pins Y H s'->Q (.bool o.isSome) s') :
  wpAny (model X.prog X.w) A (compareOp .In u (.ref a)) Q E s:=by
 rcases g with ⟨kvs,k,e,ey,l⟩ | ⟨kvs,k,b,e,ey,eb,l⟩
 .subst ey;obtain ⟨z,hd,vs,rel,dd⟩:=dk_rd I.hok e;refine wpAny_in_of (kV_is ry) hd dd.mapOf ?_;rw [<- (rel.val k).isSome_eq,<- l];exact h _ (I.tok _)
 .subst ey
  cases (show u=Value.ref b from ry)
  obtain ⟨z,hd,xs,rel,dd⟩:=dt_rd I.hok e;refine wpAny_in_heap (tupleKind_room_in1 hu) (fV I.hok eb) hd dd ?_;have q:=(rel.val k).isSome_eq;rw [Option.isSome_map] at q;rw [<- q,<- l];exact h _ (I.tok _)
theorem am1{Q:Value->Shared->Prop}(hu:A.units+1<cLine)(I:Inv X pins Y H s)(g:DGet H a y o)(ry:RelV y u)(h:∀ s',Inv X pins Y H s'->Q (.bool (!o.isSome)) s') :
  wpAny (model X.prog X.w) A (compareOp .NotIn u (.ref a)) Q E s:=by
 rcases g with ⟨kvs,k,e,ey,l⟩ | ⟨kvs,k,b,e,ey,eb,l⟩
 .subst ey;obtain ⟨z,hd,vs,rel,dd⟩:=dk_rd I.hok e;refine wpAny_notIn_of (kV_is ry) hd dd.mapOf ?_;rw [<- (rel.val k).isSome_eq,<- l];exact h _ (I.tok _)
 .subst ey
  cases (show u=Value.ref b from ry)
  obtain ⟨z,hd,xs,rel,dd⟩:=dt_rd I.hok e;refine wpAny_notIn_heap (tupleKind_room_in1 hu) (fV I.hok eb) hd dd ?_;have q:=(rel.val k).isSome_eq;rw [Option.isSome_map] at q;rw [<- q,<- l];exact h _ (I.tok _)
theorem rE{ob:HO}(I:Inv X pins Y H s)(mu:fM (H a))(hs:Heap.SameBut a s.heap h')(he:∃ q,h'.get? a=some q)(new:ObjOk X.prog X.w (A0 H a ob) h' a ob) :
  Inv X pins Y (A0 H a ob) { s with heap:=h',toks:=t' }:=
 I.write (x:=a) (e:=a) mu (.inl rfl) (fun b q hb z=>(hs.2 b hb).trans z) he new
theorem rF{P:Program}{w:World}{vs:List (B5×Value)}(z:kvs.length<=sizeLine)(hd:(a==sysModules)=false)(rel:KV kvs vs)(dd:h'.DictOf (N3 P w) a vs) :
  ObjOk P w H' h' a (.dK kvs):=⟨z,hd,vs,rel,dd⟩
theorem zK{Q:Unit->Shared->Prop}(hu:A.units+1<cLine)(I:Inv X pins Y H s)(g:DPut H a y v H')(ry:RelV y u)(rv:RelV v r)(h:∀ s',Inv X pins Y H' s'->Q () s') :
  wpAny (model X.prog X.w) A (setItem (.ref a) u r) Q E s:=by
 rcases g with ⟨kvs,k,e,ey,l,eH⟩ | ⟨kvs,k,b,e,ey,eb,l,eH⟩
 .subst ey eH;obtain ⟨z,hd,vs,rel,dd⟩:=dk_of I.hok e;have hz:vs.length<=sizeLine:=by rw [<- rel.length];exact z
  have hl:(putK kvs k v).length<=sizeLine:=by have:=rD kvs k v;lia
  refine wpAny_setItem_pairs (hsz:=hz) (kV_is ry) dd fun h' dd' hs=>h _ ?_
  have he:∃ q,h'.get? a=some q:=let ⟨q,_,_,hq,_⟩:=dd';⟨q,hq⟩
  exact rE I (by rw [e];exact True.intro) hs he (rF hl hd (rel.put k rv) dd')
 .subst ey eH
  cases (show u=Value.ref b from ry)
  obtain ⟨z,hd,xs,rel,dd⟩:=dt_of I.hok e;have hz:xs.length<=sizeLine:=by rw [<- Paired.length rel];exact z
  have hl:(putK kvs k v).length<=sizeLine:=by have:=rD kvs k v;lia
  refine wpAny_setItem_heap (hsz:=hz) (tupleKind_room_in1 hu) (fV I.hok eb) dd fun h' dd' hs=>h _ ?_
  obtain ⟨q,es,ep,hq,h2,h3,h4,_,h5⟩:=dd';refine rE I (by rw [e];exact True.intro) hs ⟨q,hq⟩ ⟨hl,hd,_,(rel.put k eb rv).keeps fun c ys ec=>?_,q,es,ep,hq,h2,h3,h4,h5⟩;rw [A3 (ne_of ec e (fun z=>nomatch z))];exact ec
end
section
variable {X:Cx} {pins:List (Addr×Obj)} {Y:St} {H:Hp} {s:Shared} {a:Addr} {kvs:List (B5×V)} {k:B5} {u:Value} {A:Around} {E:Value->Shared->Prop}
theorem d_len{Q:Value->Shared->Prop}(I:Inv X pins Y H s)(e:Rd H a (.dK kvs))(h:∀ t s',Inv X pins Y H s'->Q (.int kvs.length t) s'):wpAny (model X.prog X.w) A (call (.builtin "len") [.ref a]) Q E s:=by
 obtain ⟨z,hd,vs,rel,dd⟩:=dk_rd I.hok e;refine call_len_dict hd dd (by rw [<- rel.length];rw [sizeLine_eq] at z;lia) ?_;rw [<- rel.length];exact h _ _ (I.tok _)
end
noncomputable def NoSl (i:Expr):Prop:=∀ ov iv,subscripted i false ov iv=operate [ov,iv] (getItem ov iv)
theorem zL{w:World}{env:Env}{value slice:Expr}{pos:Pos}{T id:String}{Q:Value->Shared->Prop}(hl:typeLookup (.type T) "__getitem__"=pure (some (.builtin id)))(hs:NoSl slice)(h:wpAny (model prog w) A (eval value env) (fun o zw=>wpAny (model prog w) A (eval slice env) (fun i zv=>zv.TypeIs o T/\wpAny (model prog w) A (getItem o i) Q E zv) E zw) E s) :
  wpAny (model prog w) A (eval (.Subscript value slice pos) env) Q E s:=by
 refine Subscript_ (wpAny_mono h (fun o zw zr=>wpAny_mono zr (fun i zv zq=>?_) fun _ _ x=>x) fun _ _ x=>x);obtain ⟨hT,zq⟩:=zq;unfold subscriptTail;refine wpAny_bind ?_;rw [getitemInPython_of_ne hT.not_modules];refine wpAny_bind (wpAny_specialOf hT hl ?_);have fin:wpAny (model prog w) A (subscripted slice false o i) (fun r zu=>wpAny (model prog w) A (letTemporaryGo value o r >>= fun _=>pure r) Q E zu) E zv:=by
  rw [hs o i];exact wpAny_operating (wpAny_mono zq (fun r zu zp=>wpAny_bind (wpAny_letTemporaryGo (wpAny_pure zp))) fun _ _ x=>x)
 first
  | exact wpAny_pure (wpAny_bind fin)
  | exact wpAny_bind (wpAny_pure (wpAny_bind fin))
  | exact wpAny_bind fin
theorem agA{o:Option V}(I:Inv X pins Y H s)(g:DGet H a y o):s.TypeIs (.ref a) "dict":=by
 rcases g with ⟨kvs,k,e,_,_⟩ | ⟨kvs,k,b,e,_,_,_⟩
 .obtain ⟨_,_,vs,_,dd⟩:=dk_rd I.hok e;exact dd.typeIs
 .obtain ⟨_,_,xs,_,dd⟩:=dt_rd I.hok e;exact dd.typeIs
noncomputable def tDGet (td ty:TE):TE:=fun Y H Q=>td Y H fun x H1=>ty Y H1 fun y H2=>∃ a v,x=.ref a/\DGet H2 a y (some v)/\Q v H2
noncomputable def sDPut (td ty tv:TE):TS:=fun D Y H=>tv Y H fun v H1=>td Y H1 fun x H2=>ty Y H2 fun y H3=>∃ a H4,x=.ref a/\DPut H3 a y v H4/\D.nx Y H4
noncomputable def sDAug (td ty tv:TE) (rd:V->V->Hp->VK->Prop):TS:=fun D Y H=>td Y H fun x H1=>ty Y H1 fun y H2=>∃ a v,x=.ref a/\DGet H2 a y (some v)/\
 tv Y H2 fun y2 H3=>rd v y2 H3 fun z H4=>∃ H5,DPut H4 a y z H5/\D.nx Y H5
section
variable {X:Cx} {o i e value:Expr} {pos pos' tpos:Pos} {td ty tv:TE}
theorem am2(hu:X.A.units+1<cLine)(ho:PE X o td)(hi:PE X i ty)(hs:NoSl i):PE X (.Subscript o i pos) (tDGet td ty):=by
 intro pins s Y H Q I h;refine zL PySem.F.slot_dict_getitem.lookup hs (A8 (ho pins s Y H _ I h) fun u s1 ⟨x,H1,I1,rx,q1⟩=>A8 (hi pins s1 Y H1 _ I1 q1) fun iv s2 ⟨y,H2,I2,ry,a,v,ex,g,q2⟩=>?_);subst ex;obtain rfl:u=Value.ref a:=rx;exact ⟨agA I2 g,zJ hu I2 g ry fun w' s3 I3 rw'=>⟨v,H2,I3,rw',q2⟩⟩
theorem am3(hu:X.A.units+1<cLine)(ho:PE X o td)(hi:PE X i ty)(hv:PE X value tv)(hs:swapsWith value (some (.Subscript o i pos')) pos.line X.env=pure false) :
  PS X (.Assign [.Subscript o i pos'] value pos) (sDPut td ty tv):=by
 intro pins s Y H D I h;refine wpAny_Assign_Subscript (A8 (hv pins s Y H _ I h) fun r s1 ⟨v,H1,I1,rv,q1⟩=>A8 (ho pins s1 Y H1 _ I1 q1) fun u s2 ⟨x,H2,I2,rx,q2⟩=>A8 (hi pins s2 Y H2 _ I2 q2) fun iv s3 ⟨y,H3,I3,ry,a,H4,ex,g,q3⟩=>?_) hs;subst ex;obtain rfl:u=Value.ref a:=rx;exact zK hu I3 g ry rv fun s4 I4=>⟨Y,H4,I4,q3⟩
theorem am4{op:Operator}{rd:V->V->Hp->VK->Prop}(hu:X.A.units+1<cLine)(ho:PE X o td)(hi:PE X i ty)(hv:PE X value tv)(dS:InOp X op rd)(ha:∀ ov iv new,augStore i ov iv new=(do holding [new,ov,iv] (setItem ov iv new);release [new,ov,iv] [];pure .next)):PS X (.AugAssign (.Subscript o i tpos) op value pos) (sDAug td ty tv rd):=by
 intro pins s Y H D I h;refine wpAny_AugAssign_SubscriptAny (A8 (ho pins s Y H _ I h) fun u s1 ⟨x,H1,I1,rx,q1⟩=>A8 (hi pins s1 Y H1 _ I1 q1) fun iv s2 ⟨y,H2,I2,ry,a,v,ex,g,q2⟩=>?_) ha;subst ex;obtain rfl:u=Value.ref a:=rx;refine zJ hu I2 g ry fun w' s3 I3 rw'=>A8 (hv pins s3 Y H2 _ I3 q2) fun w2 s4 ⟨y2,H3,I4,ry2,q3⟩=>A8 (dS pins s4 Y H3 v y2 w' w2 _ I4 rw' ry2 q3) fun w3 s5 ⟨z,H4,I5,rz,H5,g5,q4⟩=>?_
 exact zK hu I5 g5 ry rz fun s6 I6=>⟨Y,H5,I6,q4⟩
end
theorem akS{P:Program}{w:World}(h:Heap)(hb:sysModules<h.objs.size):ObjOk P w H (h.push { cls:=.type "dict",data:=.dict #[] }) h.objs.size (.dK []):=
 ⟨K8 _,beq_eq_false_iff_ne.mpr (Ne.symm (K4 hb)),[],.nil,Heap.DictOf.new h⟩
noncomputable def rG:TE:=fun _ H Q=>∀ p,H p=none->Q (.ref p) (A0 H p (.dK []))
section
variable {X:Cx} {pos:Pos}
theorem akT:PE X (.Dict [] [] pos) rG:=fun pins s Y H Q I h=>
 wpAny_Dict_empty ⟨.ref s.heap.objs.size,_,I.laid (a:=s.heap.objs.size) (o:=.dK []) (t':=s.toks) (fun _ _ q=>Heap.get?_push_of_some _ q) (C2 _) (akS s.heap I.big),rfl,h _ (I.hok.fresh (C2 _))⟩
end
noncomputable def fW:List (TE×TE)->St->Hp->(List (V×V)->Hp->Prop)->Prop
 | [],_,H,Q=>Q [] H
 | (tk,tv)::r,Y,H,Q=>tk Y H fun x H1=>tv Y H1 fun y H2=>fW r Y H2 fun ps H3=>Q ((x,y)::ps) H3
noncomputable def X8 (kvs more:List (B5×V)):List (B5×V):=more.foldl (fun acc kv=>putK acc kv.1 kv.2) kvs
theorem zM:∀ (more kvs:List (B5×V)),(X8 kvs more).length<=kvs.length+more.length
 | [],kvs=>by show kvs.length<=kvs.length+0;lia
 | p::r,kvs=>by
  have h1:=zM r (putK kvs p.1 p.2);have h2:=rD kvs p.1 p.2;show (X8 (putK kvs p.1 p.2) r).length<=_;rw [E8];lia
noncomputable def tDisp (trs:List (TE×TE)):TE:=fun Y H Q=>∀ p,H p=none->fW trs Y (A0 H p (.dK [])) fun ps H2=>H2 p=some (.dK [])/\∃ kvs:List (B5×V),ps=kvs.map (fun kv=>(kV kv.1,kv.2))/\kvs.length<=15/\Q (.ref p) (A0 H2 p (.dK (X8 [] kvs)))
structure M1(X:Cx)(o:Expr)(m:Str)(apos:Pos)(e:Expr)(cpos:Pos):Prop where
 base:attributeBase o m X.env (eval o X.env)=eval o X.env
 few:((backTo cpos (starEach [e] X.env)).all (fun x=>!x.1)&&(backToKw cpos (keywordEach [] X.env)).all (fun x=>x.1.isSome)
  && decide (([e]:List Expr).length+([]:List Keyword).length+(if ([]:List Keyword).isEmpty then 0 else 1)<30))=true
 line:(apos.endLine==cpos.line)=true
 trees:backTo cpos (starEach [e] X.env)=[(false,eval e X.env)]
structure M2(X:Cx)(o:Expr)(m:Str)(apos:Pos)(e f:Expr)(cpos:Pos):Prop where
 base:attributeBase o m X.env (eval o X.env)=eval o X.env
 few:((backTo cpos (starEach [e,f] X.env)).all (fun x=>!x.1)&&(backToKw cpos (keywordEach [] X.env)).all (fun x=>x.1.isSome)
  && decide (([e,f]:List Expr).length+([]:List Keyword).length+(if ([]:List Keyword).isEmpty then 0 else 1)<30))=true
 line:(apos.endLine==cpos.line)=true
 trees:backTo cpos (starEach [e,f] X.env)=[(false,eval e X.env),(false,eval f X.env)]
noncomputable def y4 (H:Hp) (a:Addr):Prop:=(∃ kvs,Rd H a (.dK kvs))\/∃ kvs,Rd H a (.dT kvs)
theorem zN(I:Inv X pins Y H s)(d:y4 H a) :
  s.TypeIs (.ref a) "dict"/\(∀ b,Value.ref a=.ref b->∃ ob,s.heap.get? b=some ob/\ob.dict=none)/\(a==sysModules)=false:=by
 rcases d with ⟨kvs,e⟩ | ⟨kvs,e⟩
 .obtain ⟨_,hd,vs,_,dd⟩:=dk_rd I.hok e;refine ⟨dd.typeIs,fun b q=>?_,hd⟩
  cases q
  obtain ⟨ob,_,_,h1,h2,_⟩:=dd;exact ⟨ob,h1,h2.2.1⟩
 .obtain ⟨_,hd,xs,_,dd⟩:=dt_rd I.hok e;refine ⟨dd.typeIs,fun b q=>?_,hd⟩
  cases q
  obtain ⟨ob,_,_,h1,h2,_⟩:=dd;exact ⟨ob,h1,h2.2.1⟩
section
variable {X:Cx} {pins:List (Addr×Obj)} {Y:St} {H:Hp} {s:Shared} {a:Addr} {y d:V} {u r:Value} {o:Option V} {A:Around} {E:Value->Shared->Prop}
theorem ao3{Q:Value->Shared->Prop}(hu:A.units+1<cLine)(I:Inv X pins Y H s)(g:DGet H a y o)(ry:RelV y u)(h:∀ w' s',Inv X pins Y H s'->RelV (o.getD .non) w'->Q w' s') :
  wpAny (model X.prog X.w) A (call (.builtin "dict.get") [.ref a,u]) Q E s:=by
 rcases g with ⟨kvs,k,e,ey,l⟩ | ⟨kvs,k,b,e,ey,eb,l⟩
 .subst ey;obtain ⟨z,hd,vs,rel,dd⟩:=dk_rd I.hok e;refine call_meetsIn PySem.F.slot_dict_get dd.typeIs PySem.F.entry_dict_get (PySem.F.args_dict_get_2 _ _) (meets_dict_get (N3 X.prog X.w) a (kV_is ry) hd) ⟨_,dd.mapOf,h _ _ (I.tok _) ?_⟩;rw [l];exact (rel.val k).getD rfl
 .subst ey
  cases (show u=Value.ref b from ry)
  obtain ⟨z,hd,xs,rel,dd⟩:=dt_rd I.hok e;refine call_meetsIn PySem.F.slot_dict_get dd.typeIs PySem.F.entry_dict_get (PySem.F.args_dict_get_2 _ _) (meetsH_dict_get (tupleKind (N3 X.prog X.w)) a b hd) ⟨tupleKind_room_in1 hu,k,xs,fV I.hok eb,dd,h _ _ (I.tok _) ?_⟩;rw [l];exact (rel.val k).getD rfl
end
noncomputable def rH (td ty:TE):TE:=fun Y H Q=>td Y H fun x H1=>∃ a,x=.ref a/\y4 H1 a/\ty Y H1 fun y H2=>∃ o,DGet H2 a y o/\Q (o.getD .non) H2
noncomputable def ao4 (td ty tx:TE):TE:=fun Y H Q=>td Y H fun x H1=>∃ a,x=.ref a/\y4 H1 a/\ty Y H1 fun y H2=>tx Y H2 fun z H3=>∃ o,DGet H3 a y o/\Q (o.getD z) H3
noncomputable def ao5 (td ty:TE):TE:=fun Y H Q=>td Y H fun x H1=>∃ a,x=.ref a/\y4 H1 a/\ty Y H1 fun y H2=>∃ kvs k v,H2 a=some (.dK kvs)/\y=kV k/\valV kvs k=some v/\Q v (A0 H2 a (.dK (dropK kvs k)))
section
variable {X:Cx} {o e f:Expr} {apos cpos:Pos} {td ty tx:TE}
theorem akU(hu:X.A.units+1<cLine)(ho:PE X o td)(he:PE X e ty)(m:M1 X o "get" apos e cpos):PE X (.Call (.Attribute o "get" apos) [e] [] cpos) (rH td ty):=by
 intro pins s Y H Q I h;refine wpAny_Call_method m.base m.few m.line PySem.F.plainAttrs_dict PySem.F.slot_dict_get PySem.F.type_dict_get (A8 (ho pins s Y H _ I h) fun u s1 ⟨x,H1,I1,rx,a,ex,d,q1⟩=>?_);subst ex;obtain rfl:u=Value.ref a:=rx;obtain ⟨t1,t2,_⟩:=zN I1 d;refine ⟨t1,t2,?_⟩;rw [m.trees];refine Calls.callWith_builtin rfl (Calls.evalArgs_plain (Calls.spliced_cons (A8 (he pins s1 Y H1 _ I1 q1) fun iv s2 ⟨y,H2,I2,ry,ov,g,q2⟩=>Calls.spliced_nil ?_)));exact ao3 hu I2 g ry fun w' s3 I3 rw'=>⟨_,H2,I3,rw',q2⟩
end
section
variable {X:Cx} {pins:List (Addr×Obj)} {Y:St} {H:Hp} {s:Shared} {a:Addr} {kvs:List (B5×V)} {A:Around} {E:Value->Shared->Prop}
end
section
variable {X:Cx} {pins:List (Addr×Obj)} {Y:St} {H:Hp} {s:Shared} {a:Addr} {y:V} {u:Value} {A:Around} {E:Value->Shared->Prop}
end
end L2
namespace L2
open PySem PySem.Spec PyProof.Rows
section
variable {X:Cx}
end
section
variable {κ:Type} [DecidableEq κ]
theorem zO:∀ {l:List κ} {k:κ},l.Nodup->¬ k∈l->(l++[k]).Nodup
 | [],k,_,_=>by simp
 | a::r,k,h,hk=>by
  obtain ⟨h1,h2⟩:=i6.mp h;show (a::(r++[k])).Nodup;refine i6.mpr ⟨fun m=>?_,zO h2 fun m=>hk (D7.mpr (Or.inr m))⟩
  rcases J8.mp m with q | q
  .exact h1 q
  .exact hk (D7.mpr (Or.inl (K7.mp q).symm))
end
end L2
set_option maxRecDepth 100000
namespace L2
open PySem PySem.Spec PyProof.Rows
noncomputable def cloOf (cells:List (Str×Addr)):List (Str×NameKind)->List (Str×Addr)->List (Str×Addr)
 | [],acc=>acc
 | (n,k)::r,acc=>if k=.free then cloOf cells r ((n,(cells.lookup n).getD 0)::acc) else cloOf cells r acc
theorem rJ{env:Env} : ∀ (names:List (Str×NameKind)) (acc:List (Str×Addr)),(∀ x∈names,x.2=.free->∃ c,env.cells.lookup x.1=some c)->
  (forIn names acc fun (x:Str×NameKind) (cs:List (Str×Addr))=>(if (x.2==NameKind.free)=true then do
   let c <- cellOf env x.1
   pure (ForInStep.yield ((x.1,c)::cs)) else pure (ForInStep.yield cs):Sem (ForInStep (List (Str×Addr)))))=(pure (cloOf env.cells names acc):Sem (List (Str×Addr)))
 | [],acc,_=>rfl
 | (n,k)::r,acc,h=>by
  rw [List.forIn_cons];have hr:∀ x∈r,x.2=.free->∃ c,env.cells.lookup x.1=some c:=fun x hx=>h x (G5 _ hx)
  by_cases hk:k=.free
  .subst hk;obtain ⟨c,hc⟩:=h (n,.free) G9 rfl;have e1:cellOf env n=pure c:=by unfold cellOf;rw [show env.cells.lookup n=some c from hc]
   simp only [beq_self_eq_true,if_true];rw [e1];show (forIn r ((n,c)::acc) _:Sem _)=_;rw [rJ r _ hr];show _=pure (if NameKind.free=.free then cloOf env.cells r ((n,(env.cells.lookup n).getD 0)::acc) else _);rw [if_pos rfl,show env.cells.lookup n=some c from hc];rfl
  .have hb:(k==NameKind.free)=false:=by simpa using hk
   simp only [hb,Bool.false_eq_true,if_false];show (forIn r acc _:Sem _)=_;rw [rJ r _ hr];show _=pure (if k=.free then _ else cloOf env.cells r acc);rw [if_neg hk]
theorem zP{scope:Scope}{env:Env}(h:∀ x∈scope.names,x.2=.free->∃ c,env.cells.lookup x.1=some c):closureFor scope env=pure (cloOf env.cells scope.names []):=by
 simp only [closureFor];have e:=rJ (env:=env) scope.names [] h;rw [e];rfl
theorem mO{cells:List (Str×Addr)}{x:Str} : ∀ (names:List (Str×NameKind)) (acc:List (Str×Addr)),
  (cloOf cells names acc).lookup x=if (x,NameKind.free)∈names then some ((cells.lookup x).getD 0) else acc.lookup x
 | [],acc=>by simp [cloOf]
 | (n,k)::r,acc=>by
  show (if k=.free then cloOf cells r ((n,(cells.lookup n).getD 0)::acc) else cloOf cells r acc).lookup x=_
  by_cases hk:k=.free
  .subst hk;rw [if_pos rfl,mO r]
   by_cases hm:(x,NameKind.free)∈r
   .rw [if_pos hm,if_pos (G5 _ hm)]
   .rw [if_neg hm,List.lookup_cons]
    by_cases hx:x=n
    .subst hx;rw [if_pos G9]
     simp
    .have e:(x==n)=false:=by simpa using hx
     rw [e,if_neg];intro z
     rcases D7.mp z with z | z
     .exact hx (Prod.mk.inj z).1
     .exact hm z
  .rw [if_neg hk,mO r]
   by_cases hm:(x,NameKind.free)∈r
   .rw [if_pos hm,if_pos (G5 _ hm)]
   .rw [if_neg hm,if_neg];intro z
    rcases D7.mp z with z | z
    .exact hk (Prod.mk.inj z).2.symm
    .exact hm z
theorem rK{α:Type}{x:Str} : ∀ {l:List (Str×α)} {k:α},l.lookup x=some k->(x,k)∈l
 | [],_,h=>by simp at h
 | (n,a)::r,k,h=>by
  rw [List.lookup_cons] at h
  by_cases hx:x=n
  .subst hx;simp at h;subst h;exact G9
  .have e:(x==n)=false:=by simpa using hx
   rw [e] at h;exact G5 _ (rK h)
theorem zQ{sc:Scope}{env:Env}{x:Str}{k:NameKind}(hc:∀ y∈sc.names,y.2≠.cell)(h:(relabel sc env).names.lookup x=some k)(hk:k=.cell\/k=.free):(x,NameKind.free)∈sc.names:=by
 have m:=rK h;unfold relabel at m;obtain ⟨⟨n,k'⟩,hm,e⟩:=G6.mp m;have G4:=hc _ hm
 by_cases hf:k'=.free
 .subst hf
  have:n=x:=by
   dsimp only at e
   split at e
   .exact (Prod.mk.inj e).1
   .exact (Prod.mk.inj e).1
  subst this;exact hm
 .have hb:(k'==NameKind.free)=false:=by simpa using hf
  simp only [hb,Bool.false_and,Bool.false_eq_true,if_false] at e;obtain ⟨e1,e2⟩:=Prod.mk.inj e;subst e1 e2
  rcases hk with z | z
  .exact absurd z G4
  .subst z;exact absurd rfl hf
structure CompOk(N:List Str)(kn:List (Str×NameKind))(sc:Scope)(N':List Str)(k:Nat)(ixs:List Nat):Prop where
 kind:sc.kind=.function
 cell:∀ x∈sc.names,x.2≠.cell
 names:∀ x∈sc.names,x.2=.local->sc.names.lookup x.1=some .local
 free:∀ x∈sc.names,x.2=.free->kn.lookup x.1=some .cell\/kn.lookup x.1=some .free
 clean:∀ x∈sc.names,x.2=.free->sc.names.lookup x.1=some .free
 len:N'.length=k+ixs.length
 at_:ixs.map (fun i=>N[i]?)=(N'.drop k).map some
 fr:∀ x∈N'.drop k,(x,NameKind.free)∈sc.names
noncomputable def L4 (X:Cx) (sc:Scope) (N':List Str) (C:Addr) (zu:Shared) (zt:Hp) (fp:List Addr) (pins:List (Addr×Obj)):Cx:=
 {prog:=X.prog,w:=X.w,K:=X.K,mg:=X.mg,base:=X.base,A:=X.A,N:=N',s₀:=zu,H₀:=zt,
  env:=compEnvC sc (cloOf X.env.cells sc.names []) C X.env,outer:=X.stack,stack:=X.stack,ex:=fp,fn:=fun _=>false,calm:=X.calm,
  pn:=X.pn++pins,xe:=fun _ _=>False }
noncomputable def compStart (k:Nat) (ixs:List Nat) (Y:St):St:=O3 k none++ixs.map fun i=>(Y[i]?).join
theorem ae7 : (compStart k ixs Y).length=k+ixs.length:=by simp [compStart]
section
variable {X:Cx} {sc:Scope} {N':List Str} {k:Nat} {ixs:List Nat} {pins:List (Addr×Obj)} {Y:St} {H:Hp} {s:Shared} {fp:List Addr}
theorem fX(C:CompOk X.N X.env.scope.names sc N' k ixs)(I:Inv X pins Y H s){x:Str}{c:Addr}(e:(cloOf X.env.cells sc.names []).lookup x=some c):X.env.cells.lookup x=some c/\(x,NameKind.free)∈sc.names:=by
 rw [mO] at e
 by_cases hm:(x,NameKind.free)∈sc.names
 .rw [if_pos hm] at e;obtain ⟨c',u8⟩:=I.ok.has x (C.free _ hm rfl);rw [u8] at e;exact ⟨u8.trans e,hm⟩
 .rw [if_neg hm] at e;cases e
theorem zR(C:CompOk X.N X.env.scope.names sc N' k ixs)(I:Inv X pins Y H s){x:Str}(hm:(x,NameKind.free)∈sc.names):∃ c,(cloOf X.env.cells sc.names []).lookup x=some c/\X.env.cells.lookup x=some c:=by
 obtain ⟨c',u8⟩:=I.ok.has x (C.free _ hm rfl);refine ⟨c',?_,u8⟩;rw [mO,if_pos hm,u8];rfl
theorem ao6(C:CompOk X.N X.env.scope.names sc N' k ixs)(I:Inv X pins Y H s)(hf:∀ b∈fp,FpOk X pins H b)(ho:∀ b∈fp,∃ o,s.heap.get? b=some o):(L4 X sc N' s.heap.objs.size s H fp pins).Ok where
 mod:=I.ok.mod
 kind:=C.kind
 glob:=I.ok.glob
 blt:=I.ok.blt
 above:=C2 _
 inj:=fun x y c e1 e2=>I.ok.inj x y c (fX C I e1).1 (fX C I e2).1
 has:=fun x hx=>by
  have hm:(x,NameKind.free)∈sc.names:=by
   rcases hx with z | z
   .exact zQ C.cell z (.inl rfl)
   .exact zQ C.cell z (.inr rfl)
  obtain ⟨c,h1,_⟩:=zR C I hm;exact ⟨c,h1⟩
 cab:=fun x c h _=>by cases h
 hd:=I.ok.hd
 frames:=I.ok.frames
 stk:=.inl rfl
 exf:=fun b hb=>by
  obtain ⟨o,e⟩:=ho b hb;exact ⟨K4 (Heap.lt_size e),fun x c e1=>(hf b hb).2.2.2.2.1 x c (fX C I e1).1⟩
 bs:=I.bs
 bsz:=F6 I.ok.bsz I.sz
 noex:=fun b o e hb=>by
  rcases (hf b hb).2.2.2.1 with z | z
  .exact I.ok.noex b o e z
  .exact absurd (Q6 (Heap.lt_size e) (F6 I.ok.bsz z)) (X6 _)
 exfs:=fun b hb hm=>by
  rcases D7.mp (I.stkSub b hm) with z | z
  .exact (hf b hb).2.1 z
  .exact (hf b hb).2.2.1 z
 funs:=I.stack
 frf:=I.stkFree
theorem am5(C:CompOk X.N X.env.scope.names sc N' k ixs)(I:Inv X pins Y H s)(hf:∀ b∈fp,FpOk X pins H b)(ho:∀ b∈fp,∃ o,s.heap.get? b=some o){m:Str->Option Value}(hn:h'.Ns s.heap.objs.size m)(hk:∀ b o,s.heap.get? b=some o->h'.get? b=some o):Inv (L4 X sc N' s.heap.objs.size s H fp pins) [] (compStart k ixs Y) H { s with heap:=h',toks:=t' } where
 ok:=ao6 C I hf ho
 os:=rfl
 bare:=I.bare
 base:=Un.kept hk
 loc:=by
  refine ⟨m,hn,fun i x v e1 e2 e3=>?_⟩;unfold compStart at e2
  by_cases hi:i<k
  .rw [Z9 (by simpa using hi)] at e2;rw [List.getElem?_replicate_of_lt hi] at e2;cases e2
  .rw [X2 (by simpa using hi),iK] at e2;rw [M0] at e2;cases e4:ixs[i-k]? with
   | none=>rw [e4] at e2;cases e2
   | some j=>
    rw [e4] at e2;have e5:(Y[j]?).join=some v:=Option.some.inj e2;have e6:Y[j]?=some (some v):=by
     cases e7:Y[j]? with
     | none=>rw [e7] at e5;cases e5
     | some o=>rw [e7] at e5;exact congrArg some e5
    have e1':N'[i]?=some x:=e1;have ed:(N'.drop k)[i-k]?=some x:=by rw [List.getElem?_drop,show k+(i-k)=i by lia];exact e1'
    have n3:(x,NameKind.free)∈sc.names:=C.fr x (G2 ed);have n2:X.N[j]?=some x:=by
     have q:=congrArg (fun l=>l[i-k]?) C.at_;simp only [M0,e4,ed,Option.map_some] at q;exact Option.some.inj q
    obtain ⟨m0,kQ,pF⟩:=I.loc;have kR:X.env.scope.names.lookup x=some .cell\/X.env.scope.names.lookup x=some .free:=C.free _ n3 rfl;obtain ⟨u,r,l⟩:=pF j x v n2 e6 (.inr kR);refine ⟨u,r,.inr ?_⟩
    rcases l with ⟨l,_⟩ | ⟨_,c,hc,M8⟩
    .have l':X.env.scope.names.lookup x=some .local:=l
     rcases kR with z | z
     .rw [l'] at z;cases z
     .rw [l'] at z;cases z
    .obtain ⟨c',h1,h2⟩:=zR C I n3;rw [hc] at h2;cases h2;refine ⟨?_,c,h1,?_⟩
     .have e3':(relabel sc X.env).names.lookup x=some .local\/(relabel sc X.env).names.lookup x=some .cell\/(relabel sc X.env).names.lookup x=some .free:=e3
      rcases e3' with z | z
      .exfalso
       have mm:=rK z;unfold relabel at mm;obtain ⟨⟨n,k'⟩,hm,e⟩:=G6.mp mm;have dY:k'=.local/\n=x:=by
        dsimp only at e
        split at e
        .obtain ⟨_,q⟩:=Prod.mk.inj e
         cases q
        .exact ⟨(Prod.mk.inj e).2,(Prod.mk.inj e).1⟩
       obtain ⟨z1,z2⟩:=dY;subst z1 z2;have q1:=C.names _ hm rfl;rw [C.clean _ n3 rfl] at q1
       cases q1
      .exact z
     .exact M8.keeps hk
 cell:=fun x c e=>by
  obtain ⟨v,z⟩:=I.cell x c (fX C I e).1;exact ⟨v,z.keeps hk⟩
 free:=I.hok.fresh (C2 _)
 freeC:=fun x c e=>I.freeC x c (fX C I e).1
 pin:=fun p hp=>by
  have vT:p∈X.pn++pins:=by simpa [L4] using hp
  obtain ⟨e,n,ne,nf,d⟩:=I.pin p vT;refine ⟨hk _ _ e,n,K4 (Heap.lt_size e),fun hm=>?_,d⟩
  rcases D7.mp (I.stkSub _ hm) with z | z
  .exact ne z
  .exact nf z
 hok:=I.hok.kept hk
 len:=by rw [ae7];exact C.len.symm
end
section
variable {prog:Program} {w:World} {A:Around} {R:Result->Shared->Prop} {s:Shared}
theorem afK{scope:Scope}{pos:Pos}{it acc:Value}{env:Env}(I:Nat->Shared->Prop)(turn:∀ n s,I n s->wpAny (model prog w) A (pyNext it) (fun r zw=>match r with
   | none=>R (.ok .next) zw
   | some v=>wpAny (model prog w) A (letOwnedTupleGo target it v) (fun _ zw=>wpAny (model prog w) A (assign target env v) (fun _ zv=>
     wpAny (model prog w) A (forIn ifs true fun c r=>if r=true then do let ok <- isTrue c env (eval c env);pure (ForInStep.yield ok) else pure (ForInStep.yield r)) (fun ok zu=>
      if ok=true then wpAny (model prog w) A (eval elt env) (fun x zo=>
       wpAny (model prog w) A (call (.builtin "list.append") [acc,x]) (fun _ zn=>∃ m,m<n/\I m zn) (notedBy (model prog w) A env fun e s'=>R (.error e) s') zo) (notedBy (model prog w) A env fun e s'=>R (.error e) s') zu
      else ∃ m,m<n/\I m zu) (notedBy (model prog w) A env fun e s'=>R (.error e) s') zv) (notedBy (model prog w) A env fun e s'=>R (.error e) s') zw) (notedBy (model prog w) A env fun e s'=>R (.error e) s') zw) (notedBy (model prog w) A env fun e s'=>R (.error e) s') s)(n:Nat)(h:I n s) :
  codeAny (model prog w) A (.compLoop (.ListComp elt [⟨target,iter,ifs,0⟩] scope pos) 0 it acc env) R s:=by
 refine codeAny_loop rfl I (fun n s hI=>?_) n h;show wpAny _ A ((compTurn (.ListComp elt [⟨target,iter,ifs,0⟩] scope pos) 0 it acc env).onRaise (fun x=>do noteFrame x env;theTreesLotGoes x)) _ _ s;refine wpAny_noted ?_;rw [compTurn_list];refine wpAny_bind (wpAny_standAt (wpAny_bind (wpAny_mono (turn n s hI) (fun r zw zr=>?_) fun _ _ h'=>h')))
 cases r with
 | none=>exact wpAny_pure zr
 | some v=>
  refine wpAny_bind (wpAny_mono zr (fun _ zw zr=>?_) fun _ _ h'=>h');refine wpAny_bind (wpAny_mono zr (fun _ zv zq=>wpAny_bind (wpAny_mono zq (fun ok zu zp=>?_) fun _ _ h'=>h')) fun _ _ h'=>h')
  cases ok with
  | false=>exact wpAny_pure ⟨rfl,zp⟩
  | true=>
   exact wpAny_bind (wpAny_bind (wpAny_mono zp (fun x zo zm=>wpAny_bind (wpAny_mono zm (fun _ zn zk=>wpAny_pure (wpAny_pure ⟨rfl,zk⟩)) fun _ _ h'=>h')) fun _ _ h'=>h'))
end
noncomputable def PIfs (X:Cx) (ifs:List Expr) (t:TT):Prop:=
 ∀ (pins:List (Addr×Obj)) (s:Shared) (Y:St) (H:Hp) (Q:Bool->Hp->Prop),Inv X pins Y H s->t Y H Q->
  wpAny (model X.prog X.w) X.A (forIn ifs true fun c r=>if r=true then do let ok <- isTrue c X.env (eval c X.env);pure (ForInStep.yield ok) else pure (ForInStep.yield r)) (TP X pins Y Q) X.xe s
noncomputable def tYes:TT:=fun _ H Q=>Q true H
theorem akV : PIfs X [] tYes:=fun _ _ _ H _ I h=>wpAny_tests_nil ⟨H,I,h⟩
theorem akW{c:Expr}{t:TT}(hc:PT X c t):PIfs X [c] t:=fun pins s Y H Q I h=>wpAny_tests_one (hc pins s Y H Q I h)
noncomputable def tComp (wi:TI) (k:Nat) (ixs:List Nat) (g:TG) (c:TT) (te:TE):TE:=fun Y H Q=>wi Y H fun J H1=>∀ D,H1 D=none->
 ∃ (n:Nat) (W:Nat->List V->St->Hp->Prop),W 0 [] (compStart k ixs Y) (A0 H1 D (.lst []))/\∀ i ys σ2 H2,W i ys σ2 H2->H2 D=some (.lst ys)->
  (J.stop i H2/\Q (.ref D) H2)\/
  (i<n/\J.go i H2/\∀ x H',J.yld i H2 x H'->g x σ2 H' fun σ3 H3=>c σ3 H3 fun b H4=>
   if b=true then te σ3 H4 fun y H5=>H5 D=some (.lst ys)/\ys.length<sizeLine/\W (i+1) (ys++[y]) σ3 (A0 H5 D (.lst (ys++[y])))
   else H4 D=some (.lst ys)/\W (i+1) ys σ3 H4)
section
variable {X:Cx} {sc:Scope} {N':List Str} {k:Nat} {ixs:List Nat}
theorem zS{pos:Pos}{J:It}(C:CompOk X.N X.env.scope.names sc N' k ixs)(K6:X.calm=true)(hg:∀ C zu zt fp pins,PG (L4 X sc N' C zu zt fp pins) target g)(hc:∀ C zu zt fp pins,PIfs (L4 X sc N' C zu zt fp pins) ifs c)(he:∀ C zu zt fp pins,PE (L4 X sc N' C zu zt fp pins) elt te){tn:Nat->Heap->Prop}(I:Inv X pins Y H s)(T:Turn X.prog X.w X.K target J fp it tn)(st:tn 0 s.heap)(hf:∀ b∈fp,FpOk X pins H b)(h:∀ D,H D=none->∃ (n:Nat) (W:Nat->List V->St->Hp->Prop),W 0 [] (compStart k ixs Y) (A0 H D (.lst []))/\∀ i ys σ2 H2,W i ys σ2 H2->H2 D=some (.lst ys)->
   (J.stop i H2/\Q (.ref D) H2)\/
   (i<n/\J.go i H2/\∀ x H',J.yld i H2 x H'->g x σ2 H' fun σ3 H3=>c σ3 H3 fun b H4=>
    if b=true then te σ3 H4 fun y H5=>H5 D=some (.lst ys)/\ys.length<sizeLine/\W (i+1) (ys++[y]) σ3 (A0 H5 D (.lst (ys++[y])))
    else H4 D=some (.lst ys)/\W (i+1) ys σ3 H4)){RR:Value->Addr->Result->Shared->Prop}(hRR:∀ D Cc (H':Hp) (s':Shared) (o:Obj) m,Inv X pins Y H' s'->Inv X (pins++[(Cc,o)]) Y H' s'->s'.heap.get? Cc=some o->s'.heap.Ns Cc m->H' Cc=none->Cc≠X.env.locals->X.s₀.heap.objs.size<=Cc->
   (∀ x c,X.env.cells.lookup x=some c->c≠Cc)->(∀ p∈X.pn++pins,p.1≠Cc)->Q (.ref D) H'->RR (.ref D) Cc (.ok .next) s') :
  wpAny (model X.prog X.w) X.A (newList []) (fun acc zu=>wpAny (model X.prog X.w) X.A (newFunctionEnv sc X.env.globals (cloOf X.env.cells sc.names []) [] X.env.qual none .none (some X.env)) (fun cenv zo=>
   codeAny (model X.prog X.w) X.A (.compStart (.ListComp elt [⟨target,iter,ifs,0⟩] sc pos) 0 (.ref it) acc { cenv with scope:=relabel sc X.env }) (RR acc cenv.locals) zo) E zu) E s:=by
 have fresh:=I.hok.fresh (C2 s.heap.objs.size);obtain ⟨n,W,w0,turn⟩:=h s.heap.objs.size fresh;have hfD:∀ b∈fp,b≠s.heap.objs.size:=fun b hb z=>by
  obtain ⟨o,e,_⟩:=T.obj _ _ st b hb;rw [z] at e;exact absurd (Heap.lt_size e) (X6 _)
 have hf3:∀ b∈fp,FpOk X pins (A0 H s.heap.objs.size (.lst [])) b:=fun b hb=>⟨by rw [A3 (hfD b hb)];exact (hf b hb).1,(hf b hb).2⟩
 have main:∀ (s3:Shared) (zr:Heap) (t1:Nat),Inv X pins Y (A0 H s.heap.objs.size (.lst [])) s3->(∀ b o,s.heap.get? b=some o->s3.heap.get? b=some o)->zr.Ns s3.heap.objs.size (fun x=>([]:List (Str×Value)).reverse.lookup x)->
   (∀ b o,s3.heap.get? b=some o->zr.get? b=some o)->
   tn 0 zr/\codeAny (model X.prog X.w) X.A (.compLoop (.ListComp elt [⟨target,iter,ifs,0⟩] sc pos) 0 (.ref it) (.ref s.heap.objs.size) (L4 X sc N' s3.heap.objs.size s3 (A0 H s.heap.objs.size (.lst [])) fp pins).env) (RR (.ref s.heap.objs.size) s3.heap.objs.size) { s3 with heap:=zr,toks:=t1 }:=by
  intro s3 zr t1 I3 k3 cF keep3;have cE:tn 0 s3.heap:=T.keep _ _ _ st fun b hb o e=>k3 b o e
  have ho3:∀ b∈fp,∃ o,s3.heap.get? b=some o:=fun b hb=>let ⟨o,e,_⟩:=T.obj _ _ cE b hb;⟨o,e⟩
  have gX:tn 0 zr:=T.keep _ _ _ cE fun b hb o e=>keep3 b o e
  have B0:Inv (L4 X sc N' s3.heap.objs.size s3 (A0 H s.heap.objs.size (.lst [])) fp pins) [] (compStart k ixs Y) (A0 H s.heap.objs.size (.lst [])) { s3 with heap:=zr,toks:=t1 }:=am5 C I3 hf3 ho3 cF keep3;refine ⟨gX,?_⟩;have fpX:∀ {H':Hp},(∀ b∈fp,H' b=none)->∀ b∈fp,FpOk (L4 X sc N' s3.heap.objs.size s3 (A0 H s.heap.objs.size (.lst [])) fp pins) [] H' b:=fun {H'} hn b hb=>by
   obtain ⟨o,eo⟩:=ho3 b hb;refine ⟨hn b hb,K4 (Heap.lt_size eo),?_,.inl hb,?_,?_⟩
   .intro hm
    rcases D7.mp (I3.stkSub b hm) with z | z
    .exact (hf b hb).2.1 z
    .exact (hf b hb).2.2.1 z
   .intro x cc ec;exact (hf b hb).2.2.2.2.1 x cc (fX C I3 ec).1
   .intro p hp;exact (hf b hb).2.2.2.2.2 p (by simpa [L4] using hp)
  refine afK (fun m s'=>∃ i ys σ' H',m=n-i/\Inv (L4 X sc N' s3.heap.objs.size s3 (A0 H s.heap.objs.size (.lst [])) fp pins) [] σ' H' s'/\tn i s'.heap/\(∀ b∈fp,H' b=none)/\H' s.heap.objs.size=some (.lst ys)/\W i ys σ' H') ?_ n ⟨0,[],_,_,rfl,B0,gX,fun b hb=>(hf3 b hb).1,A1,w0⟩;rintro m s4 ⟨i,ys,σ4,H4,rfl,I4,st4,fr4,hD4,w4⟩;have again:∀ {i':Nat} {ys':List V} {σ7:St} {H7:Hp} {s6 s7:Shared},i<n->i'=i+1->tn i' s6.heap->Inv (L4 X sc N' s3.heap.objs.size s3 (A0 H s.heap.objs.size (.lst [])) fp pins) ([]++fP fp s6.heap) σ7 H7 s7->H7 s.heap.objs.size=some (.lst ys')->W i' ys' σ7 H7->
    ∃ m,m<n-i/\∃ i ys σ' H',m=n-i/\Inv (L4 X sc N' s3.heap.objs.size s3 (A0 H s.heap.objs.size (.lst [])) fp pins) [] σ' H' s7/\tn i s7.heap/\(∀ b∈fp,H' b=none)/\H' s.heap.objs.size=some (.lst ys)/\W i ys σ' H':=fun {i' ys' σ7 H7 s6 s7} C1 ei gY I7 hD w=>by
   subst ei;refine ⟨n-(i+1),by lia,i+1,ys',σ7,H7,rfl,I7.unpinned,T.keep _ _ _ gY fun b hb o e=>(I7.pin (b,o) (P2 _ (P2 _ (fQ hb e)))).1,fun b hb=>?_,hD,w⟩;obtain ⟨o,e,_⟩:=T.obj _ _ gY b hb;exact (I7.pin (b,o) (P2 _ (P2 _ (fQ hb e)))).2.1
  rcases turn i ys σ4 H4 w4 hD4 with ⟨stop,q⟩ | ⟨C1,go,step⟩
  .refine A8 (T.done (L4 X sc N' s3.heap.objs.size s3 (A0 H s.heap.objs.size (.lst [])) fp pins) rfl rfl rfl K6 i [] s4 σ4 H4 _ I4 (fpX fr4) st4 stop) fun r s5 gZ=>?_
   obtain ⟨hr,I5⟩:=gZ;subst hr;have back:Inv X pins Y H4 s5:=I3.call' (ch:=fp) I5.os I5.base I5.hok I5.bare fun b hb=>⟨(hf b hb).2.2.2.1,(hf b hb).2.1,(hf b hb).2.2.2.2.1,(hf b hb).2.2.2.2.2⟩
   obtain ⟨mm,hn5,_⟩:=I5.loc;obtain ⟨o,es,ep,ho,hd,W5⟩:=id hn5;have hC:s3.heap.objs.size≠X.env.locals:=x4 I3.lt;refine hRR s.heap.objs.size s3.heap.objs.size H4 s5 o mm back ?_ ho hn5 I5.free hC I3.sz ?_ ?_ q
   .refine back.pins_of fun p hp=>?_
    rcases J8.mp hp with z | z
    .exact back.pin p (P2 _ z)
    .have e:p=(s3.heap.objs.size,o):=by simpa using z
     subst e;exact ⟨ho,I5.free,hC,I3.nofs (C2 _),fun v z=>by rw [hd] at z;cases z⟩
   .intro x c e z;obtain ⟨v,q⟩:=I3.cell x c e
    have:=q.lt
    rw [z] at this;exact X6 _ this
   .intro p hp z
    have:=Heap.lt_size (I3.pin p hp).1
    rw [z] at this;exact X6 _ this
  .refine A8 (T.item (L4 X sc N' s3.heap.objs.size s3 (A0 H s.heap.objs.size (.lst [])) fp pins) rfl rfl rfl K6 i [] s4 σ4 H4 _ I4 (fpX fr4) st4 go) fun r s5 gZ=>?_
   obtain ⟨u,hr,h5⟩:=gZ;subst hr;refine A8 h5 fun _ s6 h6=>?_
   obtain ⟨x,H6,I6,r6,y6,gY,fr6⟩:=h6;have I6':=I6.pinned (fpX fr6) (T.obj _ _ gY);refine wpAny_mono (hg _ _ _ _ _ _ s6 σ4 H6 x u _ I6' r6 (step x H6 y6)) (fun _ s7 h7=>?_) fun _ _ z=>False.elim z
   obtain ⟨σ7,H7,I7,q7⟩:=h7;refine wpAny_mono (hc _ _ _ _ _ _ s7 σ7 H7 _ I7 q7) (fun ok s8 h8=>?_) fun _ _ z=>False.elim z
   obtain ⟨H8,I8,q8⟩:=h8
   cases ok with
   | false=>
    rw [if_neg K9] at q8 ⊢
    exact again C1 rfl gY I8 q8.1 q8.2
   | true=>
    rw [if_pos rfl] at q8 ⊢
    refine wpAny_mono (he _ _ _ _ _ _ s8 σ7 H8 _ I8 q8) (fun y s9 h9=>?_) fun _ _ z=>False.elim z
    obtain ⟨yv,H9,I9,r9,hD9,hz9,w9⟩:=h9;refine wpAny_mono (zG (X:=(L4 X sc N' s3.heap.objs.size s3 (A0 H s.heap.objs.size (.lst [])) fp pins)) _ s9 σ7 H9 (.ref s.heap.objs.size) [yv] (.ref s.heap.objs.size) [y] (fun _ H'=>H'=A0 H9 s.heap.objs.size (.lst (ys++[yv]))) I9 rfl (.cons r9 .nil) ⟨_,ys,yv,rfl,rfl,hD9,hz9,rfl⟩) (fun _ s10 h10=>?_) fun _ _ z=>False.elim z
    obtain ⟨_,Q3,I10,_,e10⟩:=h10;subst e10;exact again C1 rfl gY I10 A1 w9
 have I3:=I.lnew (ys:=[]) (its:=[]) (t':=s.toks) .nil (K8 _);refine wpAny_newObj_type (wpAny_newFunctionEnv C.cell (by intro y hy;simp at hy) (fun zr zj zi=>?_) C.kind);obtain ⟨gX,loop⟩:=main _ zr (s.toks+([]:List (Str×Value)).length) I3 (fun b o e=>Heap.get?_push_of_some _ e) zj fun b o e=>zi.extBut b o (K4 (Heap.lt_size e)) (Heap.get?_push_of_some _ e)
 exact codeAny_compStart_list loop (T.self X.A 0 _ _ _ gX loop)
theorem am6{pos:Pos}{wi:TI}(C:CompOk X.N X.env.scope.names sc N' k ixs)(K6:X.calm=true)(hi:PI X target iter wi)(hg:∀ C zu zt fp pins,PG (L4 X sc N' C zu zt fp pins) target g)(hc:∀ C zu zt fp pins,PIfs (L4 X sc N' C zu zt fp pins) ifs c)(he:∀ C zu zt fp pins,PE (L4 X sc N' C zu zt fp pins) elt te)(hs:∀ x,foldedSetIterable iter X.env x=pure x:=by intro _;rfl):PE X (.ListComp elt [⟨target,iter,ifs,0⟩] sc pos) (tComp wi k ixs g c te):=by
 intro pins s Y H Q I h;rw [eval_ListComp];refine wpAny_comprehension_free (use:=none) rfl hs (zP fun x hx hf=>I.ok.has x.1 (C.free x hx hf)) C.kind C.names (A8 (hi pins s Y H _ I h) fun v s1 h1=>A8 h1 fun itv s2 h2=>?_);obtain ⟨it,fp,tn,J,H2,e,I2,T,k8,f2,q2⟩:=h2;subst e;refine zS (RR:=fun acc C=>compPost (model X.prog X.w) X.A X.xe none (EP X pins Y Q) acc C) C K6 hg hc he I2 T k8 f2 q2 ?_;intro D Cc H' s' o m I' _ ho hn hC hL cG M8 dZ q;exact ⟨m,hn,fun h'' hs''=>⟨.ref D,H',I'.turned (t':=s'.toks) (fun b o hb e=>hs''.extBut b o hb e) hC hL (.inr cG) M8 dZ,rfl,q⟩⟩
theorem ahV{pos py:Pos}{wi:TI}{y:Str}(hN:X.N.Nodup)(hiN:X.N[i]?=some y)(hx:p6 X.env.scope y)(C:CompOk X.N X.env.scope.names sc N' k ixs)(K6:X.calm=true)(hi:PI X target iter wi)(hg:∀ C zu zt fp pins,PG (L4 X sc N' C zu zt fp pins) target g)(hc:∀ C zu zt fp pins,PIfs (L4 X sc N' C zu zt fp pins) ifs c)(he:∀ C zu zt fp pins,PE (L4 X sc N' C zu zt fp pins) elt te)(eA:swapsWith (.ListComp elt [⟨target,iter,ifs,0⟩] sc pos) (some (.Name y py)) spos.line X.env=pure true:=by rfl)(hf:X.fn y=true\/X.env.scope.names.lookup y=some .local:=by first | exact .inl rfl | exact .inr rfl | assumption)(hs:∀ x,foldedSetIterable iter X.env x=pure x:=by intro _;rfl):PS X (.Assign [.Name y py] (.ListComp elt [⟨target,iter,ifs,0⟩] sc pos) spos) (tAsg (tComp wi k ixs g c te) (gName i)):=by
 intro pins s Y H D I h;rw [exec_Assign_Name_used _ _ _ _ eA];refine wpAny_bind (wpAny_standAt (wpAny_bind ?_));show wpAny _ X.A (do let _ <- comprehension (.ListComp elt [⟨target,iter,ifs,0⟩] sc pos) sc X.env _ (newList []) false (eval iter X.env) (some (assign (.Name y py) X.env))) _ _ s;refine wpAny_bind (wpAny_mono (wpAny_comprehension_free (use:=some (assign (.Name y py) X.env)) (Q:=fun _ s'=>SP X pins D .next s') rfl hs (zP fun x hx hf=>I.ok.has x.1 (C.free x hx hf)) C.kind C.names
  (A8 (hi pins s Y H _ I h) fun v s1 h1=>A8 h1 fun itv s2 h2=>?_)) (fun _ s' hq=>wpAny_pure (wpAny_pure hq)) fun _ _ e=>e)
 obtain ⟨it,fp,tn,J,H2,e,I2,T,k8,f2,q2⟩:=h2;subst e;refine zS (Q:=fun x H1=>gName i x Y H1 D.nx) (RR:=fun acc C=>compPost (model X.prog X.w) X.A X.xe (some (assign (.Name y py) X.env)) (fun _ s'=>SP X pins D .next s') acc C) C K6 hg hc he I2 T k8 f2 q2 ?_;intro Da Cc H' s' o m _ Ip ho hn hC hL cG M8 dZ q;show wpAny _ X.A (assign (.Name y py) X.env (.ref Da)) _ _ _;refine wpAny_assign_Name (iU (v:=.ref Da) Ip hN hiN hx rfl (fun s'' I''=>?_) hf);have hC2:=(I''.pin (Cc,o) (P2 _ (P2 _ (K7.mpr rfl)))).1;refine ⟨m,hn.at' fun o' e'=>?_,fun h'' hs''=>?_⟩
 .rw [ho] at e';cases e';exact hC2
 .have I3:Inv X pins (Y.set i (some (.ref Da))) H' s'':=I''.unpinned;exact ⟨_,H',I3.turned (t':=s''.toks) (fun b o hb e=>hs''.extBut b o hb e) hC hL (.inr cG) M8 dZ,q⟩
end
end L2
end
set_option maxRecDepth 100000
namespace L2
open PySem PySem.Spec PyProof.Rows
section
variable {X:Cx} {a b:Expr} {ta tb:TE} {pos:Pos} {rest:List Expr}
noncomputable def tTru (K:PySem.W.Frag) (te:TE):TT:=fun Y H Q=>te Y H fun x H1=>∃ k,TruV K x H1 k/\Q k H1
theorem ao7(ha:PE X a ta)(he:∀ whole,isTrue a X.env whole=(do let v <- whole;standAt a.pos;holding [v] (truthy v)):=by intro _;rfl):PT X a (tTru X.K ta):=akI ha he
noncomputable def tNotT (K:PySem.W.Frag) (te:TE):TE:=fun Y H Q=>te Y H fun x H1=>∃ k,TruV K x H1 k/\Q (.bl (!k)) H1
theorem am7(ha:PE X a ta):PE X (.UnaryOp .Not a pos) (tNotT X.K ta):=by
 intro pins s Y H Q I h;refine UnaryOp_ (A8 (ha pins s Y H _ I h) fun v s1 ⟨x,H1,I1,r1,q1⟩=>?_);exact not_of (A8 (yL pins s1 Y H1 x v (fun k H2=>Q (.bl (!k)) H2) I1 r1 q1) fun c s2 ⟨H2,I2,q2⟩=>⟨.bl (!c),H2,I2,rfl,q2⟩)
end
mutual
inductive Dn (K:PySem.W.Frag) (H:Hp):V->PyData->Prop
 | non:Dn K H .non .none
 | bl (b):Dn K H (.bl b) (.bool b)
 | int (i):Dn K H (.int i) (.int i)
 | str (x):R0 x=true->Dn K H (.str x) (.str x)
 | lst {a xs ds} : D1 K H a xs->DnAll K H xs ds->Dn K H (.ref a) (.list ds)
 | tup {a xs ds} : C8 K H a xs->DnAll K H xs ds->Dn K H (.ref a) (.tuple ds)
inductive DnAll (K:PySem.W.Frag) (H:Hp):List V->List PyData->Prop
 | nil:DnAll K H [] []
 | cons {x xs d ds} : Dn K H x d->DnAll K H xs ds->DnAll K H (x::xs) (d::ds)
end
section
variable {X:Cx} {pins:List (Addr×Obj)} {Y:St} {H:Hp} {s:Shared}
mutual
theorem Dn.reads{K:PySem.W.Frag}{x:V}{d:PyData}(I:Inv X pins Y H s)(hK:X.K=K):Dn K H x d->∀ {u:Value},RelV x u->d.canLay0=true/\∃ as,Reads s.heap u d as
 | .non,u,r=>by cases r;exact ⟨rfl,_,.none⟩
 | .bl b,u,r=>by cases r;exact ⟨rfl,_,.bool b⟩
 | .int i,u,r=>by obtain ⟨t,rfl⟩:=r;exact ⟨rfl,_,.int i t⟩
 | .str x hx,u,r=>by obtain ⟨t,rfl⟩:=r;exact ⟨hx,_,.str x t⟩
 | .lst (a:=a) q hs,u,r=>by
  cases r
  subst hK;obtain ⟨its,rv,⟨o,n,e,c,_,dd⟩,_⟩:=I.list q;obtain ⟨h1,as,h2⟩:=DnAll.reads I rfl hs rv;exact ⟨h1,_,.list e c dd (by simpa using h2)⟩
 | .tup (a:=a) q hs,u,r=>by
  cases r
  subst hK;obtain ⟨its,rv,⟨o,e,c,n,dd⟩,_⟩:=I.tuple q;obtain ⟨h1,as,h2⟩:=DnAll.reads I rfl hs rv;exact ⟨h1,_,.tuple e c dd (by simpa using h2)⟩
theorem DnAll.reads{K:PySem.W.Frag}{xs:List V}{ds:List PyData}(I:Inv X pins Y H s)(hK:X.K=K):DnAll K H xs ds->∀ {us:List Value},Vals xs us->PyData.canLayAll0 ds=true/\∃ as,ReadsAll s.heap us ds as
 | .nil,us,r=>by cases r;exact ⟨rfl,_,.nil⟩
 | .cons h t,us,r=>by
  cases r with
  | cons r1 r2=>
   obtain ⟨c1,a1,q1⟩:=Dn.reads I hK h r1;obtain ⟨c2,a2,q2⟩:=DnAll.reads I hK t r2;exact ⟨by simp [PyData.canLayAll0,c1,c2],_,.cons q1 q2⟩
end
end
mutual
theorem Dn.same{K:PySem.W.Frag}{H H':Hp}(hs:Same H H'){x:V}{d:PyData} : Dn K H x d->Dn K H' x d
 | .non=>.non
 | .bl b=>.bl b
 | .int i=>.int i
 | .str x h=>.str x h
 | .lst q h=>.lst (hs.seq q) (DnAll.same hs h)
 | .tup (a:=a) (xs:=xs) q h=>.tup (by
   rcases q with (q | ⟨o,q⟩) | q
   .exact .inl (.inl (hs _ _ q))
   .exact .inl (.inr ⟨o,hs _ _ q⟩)
   .exact .inr q) (DnAll.same hs h)
theorem DnAll.same{K:PySem.W.Frag}{H H':Hp}(hs:Same H H'){xs:List V}{ds:List PyData} : DnAll K H xs ds->DnAll K H' xs ds
 | .nil=>.nil
 | .cons h t=>.cons (Dn.same hs h) (DnAll.same hs t)
end
theorem rL{K:PySem.W.Frag}{H:Hp} : ∀ {zs:List Str},(∀ z∈zs,R0 z=true)->DnAll K H (zs.map V.str) (zs.map V5)
 | [],_=>.nil
 | z::zs,h=>.cons (.str z (h z G9)) (rL fun y hy=>h y (G5 _ hy))
theorem zT:∀ (xs ys:List Str),i8 (xs.map V5) (ys.map V5)=decide (xs=ys)
 | [],[]=>by simp [i8]
 | [],_::_=>by simp [i8]
 | _::_,[]=>by simp [i8]
 | x::xs,y::ys=>by
  rw [D0,D0,i8,zT xs ys];rw [show U7 (.str x) (.str y)=(x==y) by simp [U7]]
  by_cases h1:x=y
  .subst h1;simp
  .simp [h1]
noncomputable def rAddR (K:PySem.W.Frag) (a b:Addr) (H:Hp) (Q:VK):Prop:=rCat (.ref a) (.ref b) H Q\/rCatT K (.ref a) (.ref b) H Q
theorem rAddR.l{K:PySem.W.Frag}{a b:Addr}{H:Hp}{Q:VK}{xs ys:List V}(h1:H a=some (.lst xs))(h2:H b=some (.lst ys))(h3:xs.length+ys.length<=sizeLine)(h:∀ p,H p=none->Q (.ref p) (A0 H p (.lst (xs++ys)))):rAddR K a b H Q:=.inl ⟨a,b,xs,ys,rfl,rfl,h1,h2,h3,h⟩
theorem rAddR.t{K:PySem.W.Frag}{a b:Addr}{H:Hp}{Q:VK}{xs ys:List V}(h1:C8 K H a xs)(h2:C8 K H b ys)(h0:xs≠[])(h3:xs.length+ys.length<=sizeLine)(he:ys=[]->Q (.ref a) H)(h:ys≠[]->∀ p,H p=none->Q (.ref p) (A0 H p (.tup (xs++ys)))):rAddR K a b H Q:=.inr ⟨a,b,xs,ys,rfl,rfl,h1,h2,h0,h3,he,h⟩
noncomputable def rAddU (K:PySem.W.Frag):V->V->Hp->VK->Prop
 | .int i,.int j,H,Q=>Q (.int (i+j)) H
 | .str i,.str j,H,Q=>i.length+j.length<=sizeLine/\Q (.str (i++j)) H
 | .ref a,.ref b,H,Q=>rAddR K a b H Q
 | _,_,_,_=>False
noncomputable def rMulU:V->V->Hp->VK->Prop
 | .int i,.int j,H,Q=>CMul i j/\Q (.int (i*j)) H
 | .ref a,.int j,H,Q=>rRep (.ref a) (.int j) H Q
 | _,_,_,_=>False
noncomputable def rEqU (K:PySem.W.Frag):V->V->Hp->VK->Prop
 | .int i,.int j,H,Q=>Q (.bl (decide (i=j))) H
 | .str i,.str j,H,Q=>Q (.bl (decide (i=j))) H
 | .bl i,.bl j,H,Q=>Q (.bl (decide (i=j))) H
 | x,y,H,Q=>∃ d e,Dn K H x d/\Dn K H y e/\min d.depth e.depth<=60/\Q (.bl (U7 d e)) H
noncomputable def rNeU (K:PySem.W.Frag):V->V->Hp->VK->Prop
 | .int i,.int j,H,Q=>Q (.bl (!decide (i=j))) H
 | .str i,.str j,H,Q=>Q (.bl (!decide (i=j))) H
 | .bl i,.bl j,H,Q=>Q (.bl (!decide (i=j))) H
 | x,y,H,Q=>∃ d e,Dn K H x d/\Dn K H y e/\min d.depth e.depth<=60/\Q (.bl (!PyData.eqv d e)) H
noncomputable def rLtU:V->V->Hp->VK->Prop
 | .int i,.int j,H,Q=>Q (.bl (decide (i<j))) H
 | .str i,.str j,H,Q=>Q (.bl (decide (i.cps.toList<j.cps.toList))) H
 | _,_,_,_=>False
noncomputable def rLeU:V->V->Hp->VK->Prop
 | .int i,.int j,H,Q=>Q (.bl (decide (i<=j))) H
 | .str i,.str j,H,Q=>Q (.bl (!decide (j.cps.toList<i.cps.toList))) H
 | _,_,_,_=>False
noncomputable def rGtU:V->V->Hp->VK->Prop
 | .int i,.int j,H,Q=>Q (.bl (decide (j<i))) H
 | .str i,.str j,H,Q=>Q (.bl (decide (j.cps.toList<i.cps.toList))) H
 | _,_,_,_=>False
noncomputable def rGeU:V->V->Hp->VK->Prop
 | .int i,.int j,H,Q=>Q (.bl (decide (j<=i))) H
 | .str i,.str j,H,Q=>Q (.bl (!decide (i.cps.toList<j.cps.toList))) H
 | _,_,_,_=>False
noncomputable def rInR (K:PySem.W.Frag) (neg:Bool) (x:V) (p:Addr) (H:Hp) (Q:VK):Prop:=rB K neg x (.ref p) H Q\/∃ o,DGet H p x o/\Q (.bl (neg.xor o.isSome)) H
theorem rInR.l{K:PySem.W.Frag}{neg:Bool}{x:V}{p:Addr}{H:Hp}{Q:VK}{xs:List V}(h1:D1 K H p xs\/C8 K H p xs)(h2:flatV x=true)(h3:xs.all flatV=true)(h:Q (.bl (neg.xor (X7 x xs))) H):rInR K neg x p H Q:=.inl ⟨p,xs,rfl,h1,h2,h3,by cases neg <;> simpa using h⟩
theorem rInR.d{K:PySem.W.Frag}{neg:Bool}{x:V}{p:Addr}{H:Hp}{Q:VK}{o:Option V}(h1:DGet H p x o)(h:Q (.bl (neg.xor o.isSome)) H):rInR K neg x p H Q:=.inr ⟨o,h1,h⟩
noncomputable def rInU (K:PySem.W.Frag) (neg:Bool) (x:V):V->Hp->VK->Prop
 | .str j,H,Q=>∃ i,x=.str i/\Q (.bl (neg.xor (!(Builtin.Str.occurrences j i 0 j.length 1).isEmpty))) H
 | .ref p,H,Q=>rInR K neg x p H Q
 | _,_,_=>False
section
variable {X:Cx} {pins:List (Addr×Obj)} {Y:St} {H:Hp} {s:Shared}
theorem p_add:G0 X (binaryOp .Add) (rAddU X.K):=by
 intro pins s Y H x y v u Q I rx ry h
 cases x <;> cases y <;> try exact h.elim
 .exact aoJ pins s Y H _ _ v u Q I rx ry ⟨_,_,rfl,rfl,h⟩
 .exact ahQ pins s Y H _ _ v u Q I rx ry ⟨_,_,rfl,rfl,h⟩
 .rcases h with h | h
  .exact ao1 pins s Y H _ _ v u Q I rx ry h
  .exact amX pins s Y H _ _ v u Q I rx ry h
theorem p_mul:G0 X (binaryOp .Mult) rMulU:=by
 intro pins s Y H x y v u Q I rx ry h
 cases x <;> cases y <;> try exact h.elim
 .exact aoK pins s Y H _ _ v u Q I rx ry ⟨_,_,rfl,rfl,h⟩
 .exact ao2 pins s Y H _ _ v u Q I rx ry h
theorem ao8:G0 X (binaryOp .FloorDiv) (rI CDiv fun i j=>.int (i / j)):=amL
theorem p_mod:G0 X (binaryOp .Mod) (rI (fun _ j=>0<j) fun i j=>.int (i % j)):=aoL
theorem mP(hu:X.A.units+64<cLine){x y:V}{v u:Value}{Q:VK}(I:Inv X pins Y H s)(rx:RelV x v)(ry:RelV y u)(h:∃ d e,Dn X.K H x d/\Dn X.K H y e/\min d.depth e.depth<=60/\Q (.bl (U7 d e)) H):wpAny (model X.prog X.w) X.A (compareOp .Eq v u) (EP X pins Y Q) X.xe s:=by
 obtain ⟨d,e,h1,h2,hd,q⟩:=h;obtain ⟨c1,as,r1⟩:=h1.reads I rfl rx;obtain ⟨c2,bs,r2⟩:=h2.reads I rfl ry;exact SeqAt.compareEq_reads r1 r2 c1 c2 (by lia) ⟨.bl _,H,I,rfl,q⟩
theorem mQ(hu:X.A.units+64<cLine){x y:V}{v u:Value}{Q:VK}(I:Inv X pins Y H s)(rx:RelV x v)(ry:RelV y u)(h:∃ d e,Dn X.K H x d/\Dn X.K H y e/\min d.depth e.depth<=60/\Q (.bl (!PyData.eqv d e)) H):wpAny (model X.prog X.w) X.A (compareOp .NotEq v u) (EP X pins Y Q) X.xe s:=by
 obtain ⟨d,e,h1,h2,hd,q⟩:=h;obtain ⟨c1,as,r1⟩:=h1.reads I rfl rx;obtain ⟨c2,bs,r2⟩:=h2.reads I rfl ry;exact SeqAt.compareNe_reads r1 r2 c1 c2 (by lia) ⟨.bl _,H,I,rfl,q⟩
theorem p_eq(hu:X.A.units+64<cLine):G0 X (compareOp .Eq) (rEqU X.K):=by
 intro pins s Y H x y v u Q I rx ry h;have sc:∀ {x y:V},yD x y H Q->RelV x v->RelV y u->wpAny (model X.prog X.w) X.A (compareOp .Eq v u) (EP X pins Y Q) X.xe s:=fun {x y} h rx ry=>op_eq pins s Y H x y v u Q I rx ry h
 cases x with
 | int i=>cases y with
  | int j=>exact sc (x:=.int i) (y:=.int j) ⟨rfl,by simpa using (show Q (.bl (decide (i=j))) H from h)⟩ rx ry
  | _=>exact mP hu I rx ry h
 | str i=>cases y with
  | str j=>exact sc (x:=.str i) (y:=.str j) ⟨rfl,by simpa using (show Q (.bl (decide (i=j))) H from h)⟩ rx ry
  | _=>exact mP hu I rx ry h
 | bl i=>cases y with
  | bl j=>exact sc (x:=.bl i) (y:=.bl j) ⟨rfl,by simpa using (show Q (.bl (decide (i=j))) H from h)⟩ rx ry
  | _=>exact mP hu I rx ry h
 | _=>cases y <;> exact mP hu I rx ry h
theorem p_ne(hu:X.A.units+64<cLine):G0 X (compareOp .NotEq) (rNeU X.K):=by
 intro pins s Y H x y v u Q I rx ry h;have sc:∀ {x y:V},yE x y H Q->RelV x v->RelV y u->wpAny (model X.prog X.w) X.A (compareOp .NotEq v u) (EP X pins Y Q) X.xe s:=fun {x y} h rx ry=>op_ne pins s Y H x y v u Q I rx ry h
 cases x with
 | int i=>cases y with
  | int j=>exact sc (x:=.int i) (y:=.int j) ⟨rfl,by simpa using (show Q (.bl (!decide (i=j))) H from h)⟩ rx ry
  | _=>exact mQ hu I rx ry h
 | str i=>cases y with
  | str j=>exact sc (x:=.str i) (y:=.str j) ⟨rfl,by simpa using (show Q (.bl (!decide (i=j))) H from h)⟩ rx ry
  | _=>exact mQ hu I rx ry h
 | bl i=>cases y with
  | bl j=>exact sc (x:=.bl i) (y:=.bl j) ⟨rfl,by simpa using (show Q (.bl (!decide (i=j))) H from h)⟩ rx ry
  | _=>exact mQ hu I rx ry h
 | _=>cases y <;> exact mQ hu I rx ry h
theorem p_lt:G0 X (compareOp .Lt) rLtU:=by
 intro pins s Y H x y v u Q I rx ry h
 cases x <;> cases y <;> try exact h.elim
 .exact op_lt pins s Y H _ _ v u Q I rx ry ⟨_,_,rfl,rfl,h⟩
 .exact aiI pins s Y H _ _ v u Q I rx ry ⟨_,_,rfl,rfl,h⟩
theorem p_le:G0 X (compareOp .LtE) rLeU:=by
 intro pins s Y H x y v u Q I rx ry h
 cases x <;> cases y <;> try exact h.elim
 .exact op_le pins s Y H _ _ v u Q I rx ry ⟨_,_,rfl,rfl,h⟩
 .obtain ⟨t,rfl⟩:=rx;obtain ⟨t',rfl⟩:=ry;exact PySem.P.le_str ⟨.bl _,H,I,by simp [RelV],h⟩
theorem p_gt:G0 X (compareOp .Gt) rGtU:=by
 intro pins s Y H x y v u Q I rx ry h
 cases x <;> cases y <;> try exact h.elim
 .exact op_gt pins s Y H _ _ v u Q I rx ry ⟨_,_,rfl,rfl,h⟩
 .obtain ⟨t,rfl⟩:=rx;obtain ⟨t',rfl⟩:=ry;exact PySem.P.gt_str ⟨.bl _,H,I,rfl,h⟩
theorem p_ge:G0 X (compareOp .GtE) rGeU:=by
 intro pins s Y H x y v u Q I rx ry h
 cases x <;> cases y <;> try exact h.elim
 .exact op_ge pins s Y H _ _ v u Q I rx ry ⟨_,_,rfl,rfl,h⟩
 .obtain ⟨t,rfl⟩:=rx;obtain ⟨t',rfl⟩:=ry;exact PySem.P.ge_str ⟨.bl _,H,I,by simp [RelV],h⟩
theorem p_in(hu:X.A.units+64<cLine):G0 X (compareOp .In) (rInU X.K false):=by
 intro pins s Y H x y v u Q I rx ry h
 cases y with
 | str j=>
  obtain ⟨i,rfl,q⟩:=h;exact aiJ pins s Y H _ _ v u Q I rx ry ⟨i,j,rfl,rfl,by simpa using q⟩
 | ref p=>
  rcases h with h | ⟨o,g,q⟩
  .exact aiS pins s Y H _ _ v u Q I rx ry h
  .obtain rfl:u=Value.ref p:=ry;exact d_in (by lia) I g rx fun s3 I3=>⟨.bl o.isSome,H,I3,rfl,by simpa using q⟩
 | _=>exact h.elim
theorem am8(hu:X.A.units+64<cLine):G0 X (compareOp .NotIn) (rInU X.K true):=by
 intro pins s Y H x y v u Q I rx ry h
 cases y with
 | str j=>
  obtain ⟨i,rfl,q⟩:=h;exact afC pins s Y H _ _ v u Q I rx ry ⟨i,j,rfl,rfl,by simpa using q⟩
 | ref p=>
  rcases h with h | ⟨o,g,q⟩
  .exact afB pins s Y H _ _ v u Q I rx ry h
  .obtain rfl:u=Value.ref p:=ry;exact am1 (by lia) I g rx fun s3 I3=>⟨.bl (!o.isSome),H,I3,rfl,by simpa using q⟩
 | _=>exact h.elim
noncomputable def cutS (x:Str) (lo hi:Option Int):Str:=⟨((x.cps.toList.drop (HT.sIx x.length 0 lo)).take (HT.sIx x.length x.length hi-HT.sIx x.length 0 lo)).toArray⟩
noncomputable def rSlS:V->Option Int->Option Int->Hp->VK->Prop:=fun x lo hi H Q=>∃ z,x=.str z/\z.length<=sizeLine/\Q (.str (cutS z lo hi)) H
end
end L2
variable {C T a b dx f fa it p r sl t0:PySem.Addr}{dvs vs xs ys:List L2.V}{Q:L2.VK}{cd ct oc pm u v vl vu:PySem.Value}{ck i j k m n t' x1:Nat}{items:Array PySem.Value}{el fr ns:List Int}{bmB its us:List PySem.Value}{A:PySem.Around}{s s' zu:PySem.Shared}{x y:L2.V}{pins:List (PySem.Addr×PySem.Obj)}{Y:L2.St}{H H' H0 H1 H2 H3 zt:L2.Hp}{h h' h2:PySem.Heap}{Z fld name q qual z:PySem.Str}{L M N N' S acc bad ks line loose nms ps ts zs:List PySem.Str}{K:PySem.W.Frag}{mg:PySem.Str->Option PySem.Value}{fd:PySem.FuncData}{sp:L2.Sp}{X:L2.Cx}{kvs:List (L2.B5×L2.V)}{prog:PySem.Program}{E:PySem.Value->PySem.Shared->Prop}{ixs met:List Nat}{e elt iter target tg:PySem.Expr}{elts es ifs:List PySem.Expr}{g:L2.TG}{c:L2.TT}{t1 te tl:L2.TE}{fp rs:List PySem.Addr}{apos cpos kpos spos tpos:PySem.Pos}{calm fg neg:Bool}{st:PySem.Stmt}{an od:Option PySem.Addr}{tb:L2.TS}{D:L2.Ends}{lo sh:Int}{o:PySem.Obj}{ta:L2.TA}{ss:Array (Option PySem.Value)}
set_option maxRecDepth 100000
namespace L2
open PySem PySem.Spec PyProof.Rows
section
variable {X:Cx}
theorem ai1(x:Str)(lo hi:Option Int):Txt.slice x lo hi=cutS x lo hi:=by
 have c1:∀ (o:Option Int) (d:Nat),(match o with | none=>(d:Int) | some i=>if (1:Int) > 0 then max 0 (min (if i<0 then i+(x.length:Int) else i) (x.length:Int)) else max (-1) (min (if i<0 then i+(x.length:Int) else i) ((x.length:Int)-1)))=((HT.sIx x.length d o:Nat):Int):=by
  intro o d
  cases o with
  | none=>rfl
  | some i=>
   rw [<- HT.clip_eq i x.length d];simp only [show ((1:Int) > 0)=True by simp,if_true]
   split <;> lia
 have h2:Builtin.Str.strSliceIndices lo hi 1 x.length=Builtin.Str.strSliceIndices (some ((HT.sIx x.length 0 lo:Nat):Int)) (some ((HT.sIx x.length x.length hi:Nat):Int)) 1 x.length:=by
  have e1:=c1 lo 0;have e2:=c1 hi x.length;have e3:=c1 (some ((HT.sIx x.length 0 lo:Nat):Int)) 0;have e4:=c1 (some ((HT.sIx x.length x.length hi:Nat):Int)) x.length;have l1:=HT.sIx_le x.length 0 (K8 _) lo;have l2:=HT.sIx_le x.length x.length (C2 _) hi;rw [HT.sIx_nat,fF l1] at e3;rw [HT.sIx_nat,fF l2] at e4;unfold Builtin.Str.strSliceIndices
  dsimp only at e3 e4 ⊢
  rw [e3,e4];clear e3 e4 l1 l2;refine congr (congr (congrArg sliceRange ?_) ?_) rfl
  .cases lo with
   | none=>exact e1
   | some i=>exact e1
  .cases hi with
   | none=>exact e2
   | some i=>exact e2
 have l1:=HT.sIx_le x.length 0 (K8 _) lo;have l2:=HT.sIx_le x.length x.length (C2 _) hi;unfold Txt.slice cutS;rw [h2];generalize HT.sIx x.length 0 lo=a at *;generalize HT.sIx x.length x.length hi=b at *;have len:x.length=x.cps.toList.length:=by simp [Str.length]
 by_cases cG:a<=b
 .rw [StrLaws.sliced_plain x cG l2,StrLaws.strSliceIndices_plain cG l2]
  split
  .rename_i hc
   have u8:b-a=x.length:=by simpa using hc
   have ha:a=0:=by lia
   subst ha;rw [List.drop_zero,X4 (by lia)]
  .rfl
 .have e:Builtin.Str.strSliceIndices (some (a:Int)) (some (b:Int)) 1 x.length=[]:=by
   have h1:¬ ((a:Int)<0):=by lia
   have h2:¬ ((b:Int)<0):=by lia
   have e1:max (0:Int) (min (a:Int) (x.length:Int))=a:=by lia
   have e2:max (0:Int) (min (b:Int) (x.length:Int))=b:=by lia
   simp only [Builtin.Str.strSliceIndices,sliceRange,h1,h2,if_false,e1,e2,show ((1:Int) > 0)=True from by simp,if_true];rw [if_neg (by lia)];rfl
  rw [e,show b-a=0 by lia,o9]
  split
  .rename_i hc
   have u8:0=x.length:=by simpa using hc
   have:x.cps.toList=[]:=List.eq_nil_of_length_eq_zero (by lia)
   obtain ⟨⟨l⟩⟩:=x;simp at this;subst this;rfl
  .rfl
theorem ao9:fT X rSlS:=by
 intro pins s Y H x v vl vu lo hi sl Q I rx hs pl pu h;obtain ⟨z,rfl,hz,q⟩:=h;obtain ⟨t,rfl⟩:=rx;refine ⟨"str",_,F.slot_str_getitem.lookup,typeIs_str _ _ _,?_⟩;rw [<- ai1] at q;have part:∀ {u:Value} {o:Option Int},IsPart u o->∃ l:Option (Int×Tok),u=partValue l/\l.map (·.1)=o:=fun {u o} p=>by
  cases p with
  | none=>exact ⟨none,rfl,rfl⟩
  | int i t=>exact ⟨some (i,t),rfl,rfl⟩
 obtain ⟨l,rfl,el⟩:=part pl;obtain ⟨u,rfl,eu⟩:=part pu;subst el eu;refine wpAny_getItem_str_slice (l:=l) (u:=u) (st:=none) hs rfl ?_;exact post_val_or_str ⟨F6 (Txt.slice_le z _ _) hz,fun t' k=>⟨.str _,H,I.tok _,⟨t',rfl⟩,q⟩⟩
theorem adt{w:World}{t:Addr}{lo hi:Option Int}{Q:Value->Shared->Prop}(ht:IsTup s.heap t items)(hs:s.heap.IsSliceOf sl vl vu .none)(pl:IsPart vl lo)(pu:IsPart vu hi)(hw:HT.sIx items.size 0 lo=0/\HT.sIx items.size items.size hi=items.size)(h:Q (.ref t) s):wpAny (model prog w) A (getItem (.ref t) (.ref sl)) Q E s:=by
 obtain ⟨os,dU,pC,kN⟩:=id hs;have hTs:s.TypeIs (.ref sl) "slice":=⟨os,dU,pC⟩
 unfold getItem
 try with_reducible refine wpAny_holding ?_
 first | refine wpAny_bind (wpAny_pure ?_) | skip
 refine wpAny_bind (wpAny_sequenceKey ht.typeIs (by decide) ?_);refine wpAny_bind (wpAny_callSpecial?_slot (name:=Str.ofString "__getitem__") ht.typeIs PyProof.Rows.slot_tuple_getitem
  (wpAny_call_entry PyProof.Rows.slot_tuple_getitem ht.typeIs PyProof.Rows.entry_tuple_getitem ?_ (PyProof.Rows.args_tuple_getitem _ _)))
 show wpAny _ _ (Builtin.Tuple.tupleItemsOf (.ref t) >>= _) _ _ s;refine wpAny_bind (PyProof.Rows.tupleItemsOf_ ht ?_);refine wpAny_bind (wpAny_typeOf hTs ?_);rw [if_pos (by decide)];refine wpAny_bind (HT.sliceApplied_gen hs pl pu ?_);have vU:((((HT.sIx items.size 0 lo:Nat):Int)==0&&(1:Int)==1&&(HT.sIx items.size items.size hi-HT.sIx items.size 0 lo)==items.size)=true):=by
  rw [hw.1,hw.2]
  simp
 show wpAny _ _ (if (((HT.sIx items.size 0 lo:Nat):Int)==0&&(1:Int)==1&&(HT.sIx items.size items.size hi-HT.sIx items.size 0 lo)==items.size)=true then _ else _) _ _ s;rw [if_pos vU];refine wpAny_bind ?_;show wpAny _ _ (typeOf (.ref t) >>= fun v=>pure (v == .type "tuple")) _ _ s;refine wpAny_bind (wpAny_typeOf ht.typeIs (wpAny_pure ?_));rw [if_pos (by decide)];refine wpAny_bind (wpAny_rule ?_);exact wpAny_pure ⟨_,rfl,wpAny_pure h⟩
noncomputable def rSlW (K:PySem.W.Frag):V->Option Int->Option Int->Hp->VK->Prop:=fun x lo hi H Q=>∃ a xs,x=.ref a/\C8 K H a xs/\(HT.sIx xs.length 0 lo=0/\HT.sIx xs.length xs.length hi=xs.length)/\Q (.ref a) H
theorem aqa:fT X (rSlW X.K):=by
 intro pins s Y H x v vl vu lo hi sl Q I rx hs pl pu h;obtain ⟨a,xs,rfl,hx,hw,q⟩:=h
 cases rx
 obtain ⟨its,r,ht,hz⟩:=I.tuple hx;have A9:its.toArray.size=xs.length:=by rw [J7];exact r.length.symm
 refine ⟨"tuple",_,PyProof.Rows.slot_tuple_getitem.lookup,ht.typeIs,?_⟩;exact adt ht hs pl pu (by rw [A9];exact hw) ⟨.ref a,H,I,rfl,q⟩
noncomputable def rSlR (K:PySem.W.Frag) (a:Addr) (lo hi:Option Int) (H:Hp) (Q:VK):Prop:=rSlL K (.ref a) lo hi H Q\/rSlT K (.ref a) lo hi H Q\/rSlW K (.ref a) lo hi H Q
theorem rSlR.l{lo hi:Option Int}(h1:D1 K H a xs)(h:∀ p,H p=none->Q (.ref p) (A0 H p (.lst (cutV xs lo hi)))):rSlR K a lo hi H Q:=.inl ⟨a,xs,rfl,h1,h⟩
theorem rSlR.t{lo hi:Option Int}(h1:C8 K H a xs)(h2:¬ (HT.sIx xs.length 0 lo=0/\HT.sIx xs.length xs.length hi=xs.length))(h:∀ p,H p=none->Q (.ref p) (A0 H p (.tup (cutV xs lo hi)))):rSlR K a lo hi H Q:=.inr (.inl ⟨a,xs,rfl,h1,h2,h⟩)
theorem rSlR.w{lo hi:Option Int}(h1:C8 K H a xs)(h2:HT.sIx xs.length 0 lo=0/\HT.sIx xs.length xs.length hi=xs.length)(h:Q (.ref a) H):rSlR K a lo hi H Q:=.inr (.inr ⟨a,xs,rfl,h1,h2,h⟩)
noncomputable def rSlU (K:PySem.W.Frag):V->Option Int->Option Int->Hp->VK->Prop
 | .str z,lo,hi,H,Q=>z.length<=sizeLine/\Q (.str (cutS z lo hi)) H
 | .ref a,lo,hi,H,Q=>rSlR K a lo hi H Q
 | _,_,_,_,_=>False
theorem p_sl:fT X (rSlU X.K):=by
 intro pins s Y H x v vl vu lo hi sl Q I rx hs pl pu h
 cases x with
 | str z=>exact ao9 pins s Y H _ v vl vu lo hi sl Q I rx hs pl pu ⟨z,rfl,h⟩
 | ref a=>
  rcases h with h | h | h
  .exact amZ pins s Y H _ v vl vu lo hi sl Q I rx hs pl pu h
  .exact aoW pins s Y H _ v vl vu lo hi sl Q I rx hs pl pu h
  .exact aqa pins s Y H _ v vl vu lo hi sl Q I rx hs pl pu h
 | _=>exact h.elim
noncomputable def LenR (K:PySem.W.Frag) (H:Hp) (p:Addr) (n:Nat):Prop:=(∃ xs,D1 K H p xs/\n=xs.length)\/(∃ xs,C8 K H p xs/\n=xs.length)\/∃ kvs,Rd H p (.dK kvs)/\n=kvs.length
noncomputable def rLenU (K:PySem.W.Frag):List V->Hp->VK->Prop
 | [.str z],H,Q=>z.length<=sizeLine/\Q (.int z.length) H
 | [.ref p],H,Q=>∃ n:Nat,LenR K H p n/\Q (.int n) H
 | _,_,_=>False
theorem p_len:CallR X (.builtin "len") (rLenU X.K):=by
 intro pins s Y H xs us Q I r h
 match xs,h with
 | [.str z],h=>exact qS pins s Y H _ us Q I r ⟨.str z,z.length,rfl,⟨h.1,rfl⟩,h.2⟩
 | [.ref p],⟨n,l,q⟩=>
  rcases l with ⟨xs,l,rfl⟩ | ⟨xs,l,rfl⟩ | ⟨kvs,l,rfl⟩
  .exact qS pins s Y H _ us Q I r ⟨.ref p,_,rfl,.inl ⟨xs,l,rfl⟩,q⟩
  .exact qS pins s Y H _ us Q I r ⟨.ref p,_,rfl,.inr ⟨xs,l,rfl⟩,q⟩
  .obtain ⟨u,rfl,ru⟩:=vals1 r
   cases ru
   exact d_len I l fun t s' I'=>⟨.int kvs.length,H,I',⟨t,rfl⟩,q⟩
theorem aew(hc:X.calm=true):CallR X (.type "list") (fun xs H Q=>∃ d kvs,xs=[.ref d]/\Rd H d (.dK kvs)/\∀ l,H l=none->Q (.ref l) (A0 H l (.lst (kvs.map fun kv=>kV kv.1)))):=by
 intro pins s Y H xs us Q I r h;obtain ⟨d,kvs,rfl,e,q⟩:=h;obtain ⟨u,rfl,rx⟩:=vals1 r
 cases rx
 obtain ⟨z,hd,vs,rel,dd⟩:=dk_rd I.hok e;obtain ⟨ep,J3⟩:=dd.dictAt;have hl:=rel.length;refine PySem.W.kdl_call (PySem.W.kdl_dict (knd:=N3 X.prog X.w) (kvs:=vs) (ep:=ep) hd) (I.ok.hd hc) J3 (by lia) fun h' tk acc c' kp hD Z2=>?_
 have hv:Vals (kvs.map fun kv=>kV kv.1) acc.toList:=by
  have hk:=rel.keys;have A9:acc.toList.length=kvs.length:=by rw [bJ,Z2.1,hl]
  have key:∀ (ks:List B5) (us:List Value),us.length=ks.length->(∀ (j:Nat) (v:Value),us[j]?=some v->∃ k,ks[j]?=some k/\keyIs k v=true)->Vals (ks.map kV) us:=by
   intro ks
   induction ks with
   | nil=>intro us h1 _;cases us with
    | nil=>exact .nil
    | cons _ _=>simp at h1
   | cons k ks ih=>
    intro us h1 h2
    cases us with
    | nil=>simp at h1
    | cons u us=>
     obtain ⟨k',e1,e2⟩:=h2 0 u rfl;simp at e1;subst e1;refine .cons ?_ (ih us (by simpa using h1) fun j v hj=>by simpa using h2 (j+1) v (by simpa using hj))
     rcases i9 e2 with ⟨i,t,rfl,rfl⟩ | ⟨x,t,rfl,rfl⟩
     .exact ⟨t,rfl⟩
     .exact ⟨t,rfl⟩
  rw [show (kvs.map fun kv=>kV kv.1)=(kvs.map (·.1)).map kV by rw [w8];rfl];refine key _ _ (by rw [A9,A4]) fun j v hj=>?_
  obtain ⟨k,x,hx,vV⟩:=Z2.2 j v (by rw [<- Array.getElem?_toList];exact hj);refine ⟨k,?_,vV⟩;rw [hk,M0,hx];rfl
 refine ⟨.ref s.heap.objs.size,_,I.laid (t':=tk) kp (C2 _) (show ObjOk X.prog X.w _ h' _ (.lst (kvs.map fun kv=>kV kv.1)) from ⟨by rw [A4];exact z,acc.toList,c',hv,by simpa using hD⟩),rfl,q _ (I.hok.fresh (C2 _))⟩
noncomputable def rListR (K:PySem.W.Frag) (calm:Bool) (p:Addr) (H:Hp) (Q:VK):Prop:=(∃ ys,(D1 K H p ys\/C8 K H p ys)/\∀ l,H l=none->Q (.ref l) (A0 H l (.lst ys)))\/(calm=true/\∃ kvs,Rd H p (.dK kvs)/\∀ l,H l=none->Q (.ref l) (A0 H l (.lst (kvs.map fun kv=>kV kv.1))))
theorem rListR.l(h1:D1 K H p ys\/C8 K H p ys)(h:∀ l,H l=none->Q (.ref l) (A0 H l (.lst ys))):rListR K calm p H Q:=.inl ⟨ys,h1,h⟩
theorem rListR.d(h1:Rd H p (.dK kvs))(h:∀ l,H l=none->Q (.ref l) (A0 H l (.lst (kvs.map fun kv=>kV kv.1)))):rListR K true p H Q:=.inr ⟨rfl,kvs,h1,h⟩
noncomputable def rM (K:PySem.W.Frag) (calm:Bool):List V->Hp->VK->Prop
 | [.ref p],H,Q=>rListR K calm p H Q
 | _,_,_=>False
theorem aqb:CallR X (.type "list") (rM X.K X.calm):=by
 intro pins s Y H xs us Q I r h
 match xs,h with
 | [.ref p],h=>
  rcases h with ⟨ys,h1,h2⟩ | ⟨hc,kvs,h1,h2⟩
  .exact afD pins s Y H _ us Q I r ⟨p,ys,rfl,h1,h2⟩
  .exact aew hc pins s Y H _ us Q I r ⟨p,kvs,rfl,h1,h2⟩
noncomputable def rAllB (calm:Bool):List V->Hp->VK->Prop
 | [.ref p],H,Q=>∃ bs:List Bool,calm=true/\H p=some (.lst (bs.map V.bl))/\Q (.bl (bs.all id)) H
 | _,_,_=>False
theorem p_all:CallR X (.builtin "all") (rAllB X.calm):=by
 intro pins s Y H xs us Q I r h
 match xs,h with
 | [.ref p],⟨bs,hc,hp,q⟩=>
  obtain ⟨u,rfl,rx⟩:=vals1 r
  cases rx
  obtain ⟨z,its,n,rv,hl,e⟩:=I.lstM hp;have pl:s.heap.IsList p its.toArray:=⟨_,e,rfl,n,rfl⟩
  refine call_all_walk (wpAny_pyIter_list pl ?_);have G4:p≠s.heap.objs.size:=K4 (Heap.lt_size e);have hk:∀ b o,s.heap.get? b=some o->(s.heap.push { cls:=.type "list_iterator",data:=.fields #[.ref p,.int 0 0] }).get? b=some o:=fun b o q=>Heap.get?_push_of_some _ q
  refine ⟨_,_,_,_,_,_,fun i=>(bs[i]?).getD true,rfl,Walks.list (show X.A.in1.handled=none from I.ok.hd hc) s.heap.objs.size p G4 its.toArray,⟨⟨_,Heap.get?_push_size _ rfl,rfl,rfl⟩,pl.at fun o q=>hk p o q⟩,?_,?_⟩
  .intro i v s' Q' E' hv hq;have u9:its[i]?=some v:=by simpa using hv
   have hb:∃ b,bs[i]?=some b/\v=.bool b:=by
    cases eb:(bs.map V.bl)[i]? with
    | none=>
     have:=rv.none_of eb
     rw [u9] at this
     cases this
    | some y=>
     obtain ⟨u,h1,h2⟩:=rv.get eb;rw [u9] at h1;cases h1;rw [M0] at eb;cases e3:bs[i]? with
     | none=>rw [e3] at eb;cases eb
     | some b=>
      rw [e3] at eb;cases eb;exact ⟨b,rfl,h2⟩
   obtain ⟨b,e1,rfl⟩:=hb;have hq:Q' ((bs[i]?).getD true) s':=hq;rw [e1] at hq;exact wpAny_truthy_bool hq
  .intro h' tk l8;have e1:(M3 its.toArray.size).all (fun i=>(bs[i]?).getD true)=bs.all id:=by
    have W4:its.toArray.size=bs.length:=by simpa using hl.symm
    rw [W4,cX,b0,b0]
    constructor
    .intro h b hb;obtain ⟨i,hi,rfl⟩:=X5.mp hb
     have:=h i (b8.mpr hi)
     simpa [hi] using this
    .intro h i hi;have kS:=b8.mp hi
     simpa [kS] using h bs[i] (List.getElem_mem kS)
   refine ⟨.bl (bs.all id),H,I.kept (t':=tk) fun b o q=>l8 b o ?_ (hk b o q),by rw [e1];rfl,q⟩;intro hb
   have:b=s.heap.objs.size:=by simpa using hb
   rw [this] at q;exact absurd (Heap.lt_size q) (X6 _)
noncomputable def cZ (H:Hp):V->Option String
 | .non=>some "NoneType"
 | .bl _=>some "bool"
 | .int _=>some "int"
 | .str _=>some "str"
 | .ref a=>match H a with
  | some (.lst _)=>some "list"
  | some (.frz _ (.lst _))=>some "list"
  | some (.tup _)=>some "tuple"
  | some (.dK _)=>some "dict"
  | _=>none
 | _=>none
noncomputable def fY (T n:String):Bool:=T==n || (T == "bool" && n == "int")
noncomputable def isTys:List String:=["str", "int", "bool", "list", "tuple", "dict"]
noncomputable def rIsi:List V->Hp->VK->Prop
 | [x,.ty n],H,Q=>∃ T,cZ H x=some T/\isTys.contains n=true/\Q (.bl (fY T n)) H
 | _,_,_=>False
theorem aqc{T:String}(h:cZ H x=some T):TyOf K H x (.type T)/\["NoneType", "bool", "int", "str", "list", "tuple", "dict"].contains T=true:=by
 cases x with
 | non=>cases h;exact ⟨.non,by decide⟩
 | bl b=>cases h;exact ⟨.bl b,by decide⟩
 | int i=>cases h;exact ⟨.int i,by decide⟩
 | str z=>cases h;exact ⟨.str z,by decide⟩
 | ref a=>
  unfold cZ at h
  dsimp only at h
  cases e:H a with
  | none=>rw [e] at h;cases h
  | some o=>
   rw [e] at h
   cases o with
   | lst xs=>cases h;exact ⟨.lst e,by decide⟩
   | tup xs=>cases h;exact ⟨.tup e,by decide⟩
   | dK kvs=>cases h;exact ⟨.dK e,by decide⟩
   | frz ob u=>
    cases u with
    | lst xs=>cases h;exact ⟨.frz e,by decide⟩
    | _=>cases h
   | _=>cases h
 | _=>cases h
theorem am9(K:PySem.W.Frag):∀ T∈["NoneType", "bool", "int", "str", "list", "tuple", "dict"],∀ n∈isTys,D8 K (.type T) (.type n)=some (fY T n):=by
 intro T hT n hn;simp only [D7,O2,or_false,isTys] at hT hn
 rcases hT with rfl | rfl | rfl | rfl | rfl | rfl | rfl <;> rcases hn with rfl | rfl | rfl | rfl | rfl | rfl <;> rfl
theorem akX:CallR X (.builtin "isinstance") rIsi:=by
 intro pins s Y H xs us Q I r h
 match xs,h with
 | [x,.ty n],⟨T,h1,h2,q⟩=>
  obtain ⟨u,c,rfl,ru,rc⟩:=vals2 r;obtain rfl:c=Value.type n:=rc;obtain ⟨h3,h4⟩:=aqc (K:=X.K) h1;exact aiN I ru h3 (am9 X.K T (by simpa using h4) n (by simpa using h2)) fun tk=>⟨.bl _,H,I.tok tk,rfl,q⟩
noncomputable def rOrd:List V->Hp->VK->Prop
 | [.str z],H,Q=>z.length=1/\Q (.int (z.cps.getD 0 0:Nat)) H
 | _,_,_=>False
theorem p_ord:CallR X (.builtin "ord") rOrd:=by
 intro pins s Y H xs us Q I r h
 match xs,h with
 | [.str z],h=>exact akJ pins s Y H _ us Q I r ⟨z,rfl,h⟩
noncomputable def fZ (x:Str):It:=⟨fun i _=>i<x.cps.size,fun i H v H'=>H'=H/\∃ c,x.cps.toList[i]?=some c/\v=.str ⟨#[c]⟩,fun i _=>x.cps.size<=i⟩
theorem akY{P:Program}{w:World}{ty:String}(T4:ty="str_ascii_iterator"\/ty="str_iterator")(it:Addr)(x:Str)(t:Tok):Turn P w K tg (fZ x) [it] it (fun i h=>h.IsStrIter it ty x t i) where
 mem:=by simp
 obj:=fun i h st b hb=>by
  have e:b=it:=by simpa using hb
  subst e;obtain ⟨o,e,c,d⟩:=st;exact ⟨o,e,fun v z=>by rw [d] at z;cases z⟩
 keep:=fun i h h' st k=>let ⟨o,e,r⟩:=st;⟨o,k it (by simp) o e,r⟩
 item:=by
  intro X hP hw hK hc i pins s Y H E I hf st hg;subst hP hw hK;obtain ⟨f0,f1,f2,f3,f4,f5⟩:=hf it (by simp);have hJ:i<x.cps.size:=hg;have go:∀ h',h'.IsStrIter it ty x t (i+1)->Heap.SameBut it s.heap h'->∃ u,some (Value.str ⟨#[x.cps[i]]⟩ s.toks)=some u/\
    wpAny (model X.prog X.w) X.A (letOwnedTupleGo tg (.ref it) u) (fun _ s2=>∃ y H',Inv X pins Y H' s2/\RelV y u/\(fZ x).yld i H y H'/\s2.heap.IsStrIter it ty x t (i+1)/\∀ b∈[it],H' b=none) E { s with heap:=h',toks:=s.toks+1 }:=by
   intro h' st' sb;have I1:Inv X pins Y H { s with heap:=h',toks:=s.toks+1 }:=I.turned (t':=s.toks+1) (fun b o hb e=>(sb.2 b hb).trans e) f0 f1 f3 f4 f5;obtain ⟨o,e,c,d⟩:=id st';refine ⟨_,rfl,go_of (s:={ s with heap:=h',toks:=s.toks+1 }) e c d (by rcases T4 with rfl | rfl <;> decide) ⟨.str ⟨#[x.cps[i]]⟩,H,I1,⟨_,rfl⟩,⟨rfl,x.cps[i],?_,rfl⟩,st',fun b hb=>(hf b hb).1⟩⟩;simp [hJ]
  rcases T4 with rfl | rfl
  .exact wpAny_pyNext_ascii_item st (c:=x.cps[i]) (by simp [hJ]) go
  .exact wpAny_pyNext_wide_item st (c:=x.cps[i]) (by simp [hJ]) go
 done:=by
  intro X hP hw hK hc i pins s Y H E I hf st hg;subst hP hw hK;obtain ⟨f0,f1,f2,f3,f4,f5⟩:=hf it (by simp);have hJ:x.cps.size<=i:=hg;have fin:∀ h',Heap.ExtBut it s.heap h'->(none:Option Value)=none/\Inv X pins Y H { s with heap:=h' }:=fun h' eb=>⟨rfl,I.turned (t':=s.toks) (fun b o hb e=>eb b o hb e) f0 f1 f3 f4 f5⟩
  rcases T4 with rfl | rfl
  .exact wpAny_pyNext_ascii_end (I.ok.hd hc) st (by simp [hJ]) fin
  .exact wpAny_pyNext_wide_end (I.ok.hd hc) st (by simp [hJ]) fin
 self:=fun A i s Q E st h=>by
  rcases T4 with rfl | rfl
  .exact wpAny_pyIter_striter_ascii st h
  .exact wpAny_pyIter_striter_wide st h
noncomputable def iStr (tl:TE):TI:=fun Y H R=>tl Y H fun x H1=>∃ z,x=.str z/\R (fZ z) H1
variable {tg:Expr}
theorem aqd{l:Expr}(hl:PE X l tl):PI X tg l (iStr tl):=by
 intro pins s Y H R I h;refine A8 (hl pins s Y H _ I h) fun v s1 ⟨x,H1,I1,r1,q1⟩=>?_
 obtain ⟨z,rfl,q⟩:=q1;obtain ⟨t,rfl⟩:=r1;have fin:∀ (ty:String) (T4:ty="str_ascii_iterator"\/ty="str_iterator"),qO X pins Y tg R (.ref s1.heap.objs.size) { s1 with heap:=s1.heap.push { cls:=.type ty,data:=.fields #[.str z t,.int 0 0] } }:=fun ty T4=>by
  refine ⟨s1.heap.objs.size,[s1.heap.objs.size],_,_,H1,rfl,I1.kept (t':=s1.toks) fun b o e=>Heap.get?_push_of_some _ e,akY T4 s1.heap.objs.size z t,⟨_,Heap.get?_push_size _ rfl,rfl,rfl⟩,fun b hb=>?_,q⟩;have e:b=s1.heap.objs.size:=by simpa using hb
  subst e;exact I1.fpOk (C2 _) (I1.hok.fresh (C2 _))
 cases ha:z.cps.all (· < 128)
 .exact wpAny_pyIter_wide ha (fin _ (.inr rfl))
 .exact wpAny_pyIter_ascii ha (fin _ (.inl rfl))
end
end L2
set_option maxRecDepth 100000
namespace L2
open PySem PySem.Spec PyProof.Rows
noncomputable def J2:Expr->Bool
 | .Starred _ _=>true
 | _=>false
noncomputable def R3 (es:List Expr):Bool:=es.all fun e=>!J2 e
theorem L8{env:Env}(h:J2 e=false):starEach (e::es) env=(false,eval e env)::starEach es env:=by
 cases e <;> first | rfl | cases h
theorem p9{pos:Pos}{env:Env} : ∀ {es:List Expr},R3 es=true->(backTo pos (starEach es env)).any (·.1)=false
 | [],_=>rfl
 | e::es,h=>by
  have h':(!J2 e&&R3 es)=true:=h;rw [P3] at h';rw [L8 (by simpa using h'.1)];have ih:=p9 (pos:=pos) (env:=env) h'.2;unfold backTo at ih ⊢
  rw [D0,p4,ih];rfl
theorem zU{pos:Pos}{env:Env} : ∀ {es:List Expr},R3 es=true->(backTo pos (starEach es env)).all (fun x=>!x.1)=true
 | [],_=>rfl
 | e::es,h=>by
  have h':(!J2 e&&R3 es)=true:=h;rw [P3] at h';rw [L8 (by simpa using h'.1)];have ih:=zU (pos:=pos) (env:=env) h'.2;unfold backTo at ih ⊢
  rw [D0,List.all_cons,ih];rfl
section
variable {X:Cx} {e:Expr} {es:List Expr} {te:TE} {t:TA} {x:Str} {p pos:Pos} {id T:String} {r:List V->Hp->VK->Prop}
theorem pa_c(ha:PE X e te)(hr:PA X es t)(h:J2 e=false:=by rfl):PA X (e::es) (tCons te t):=amR ha hr (L8 h)
theorem pe_cB(hc:CallR X (.builtin id) r)(hg:Gl X x)(hm:X.mg x=none)(hv:bootBuiltins x=some (.builtin id))(ha:PA X (e::es) t)(h1:J2 e=false:=by rfl)(h2:R3 es=true:=by rfl)(hn:x≠"__name__":=by decide)(K2:(x==("__debug__" : Str))=false:=by decide) :
  PE X (.Call (.Name x p) (e::es) [] pos) (bN r t):=akN hc hg hm hv ha hn K2 (L8 h1) (p9 h2)
theorem pe_cT(hc:CallR X (.type T) r)(hg:Gl X x)(hm:X.mg x=none)(hv:bootBuiltins x=some (.type T))(ha:PA X (e::es) t)(h1:J2 e=false:=by rfl)(h2:R3 es=true:=by rfl)(hn:x≠"__name__":=by decide)(K2:(x==("__debug__" : Str))=false:=by decide) :
  PE X (.Call (.Name x p) (e::es) [] pos) (bN r t):=aiQ hc hg hm hv ha hn K2 (L8 h1) (p9 h2)
variable {o:Expr} {to:TE} {name:Str} {apos cpos:Pos} {rm:V->List V->Hp->VK->Prop}
theorem pe_mB(pa:PlainAttrs T)(slot:Slot T name id)(T4:typeOf (.builtin id)=pure (.type "method_descriptor"))(hm:mJ X id rm)(ho:PE X o to)(ha:PA X (e::es) t)(h1:J2 e=false:=by rfl)(h2:R3 es=true:=by rfl)(h3:decide ((e::es).length<30)=true:=by rfl)(E9:attributeBase o name X.env (eval o X.env)=eval o X.env:=by rfl)(G3:(apos.endLine==cpos.line)=true:=by rfl):PE X (.Call (.Attribute o name apos) (e::es) [] cpos) (mK X.K T rm to t):=
 pe_bm pa slot T4 hm ho ha E9 (by
  rw [zU (show R3 (e::es)=true by show (!J2 e&&R3 es)=true;rw [h1,h2];rfl)];have h3':(e::es).length<30:=of_decide_eq_true h3;simp only [List.isEmpty_nil,if_true,T7,Nat.add_zero,bH];rw [decide_eq_true h3'];rfl) G3 (L8 h1) (p9 h2)
variable {tg a b:Expr} {ta:TA}
theorem pi_r1(hg:Gl X "range")(hm:X.mg "range"=none)(ha:PA X [a] ta)(h1:J2 a=false:=by rfl):PI X tg (.Call (.Name "range" p) [a] [] pos) (iRng1 ta):=aiC hg hm ha (by rw [L8 h1];rfl)
end
noncomputable def FO (P:Program) (w:World) (K:PySem.W.Frag) (mg:Str->Option Value) (base:Heap) (k:Nat) (x:Str) (ps:List Str) (dvs:List V) (sp:Sp):Prop:=
 ∃ f fd,FnOk P w K mg base D9 k f fd ps sp/\mg x=some (.ref f)/\N4 K (.ref f)=true/\∃ ds,Binds K fd ps ds/\Vals dvs ds
structure FunD(K:PySem.W.Frag)(x qual:Str)(st:Stmt)(f:Addr)(fd:FuncData):Prop where
 ex:∃ (oc:Value) (od:Option Addr) (dV kV doc pm:Value) (an:Option Addr) (cdv ct:Value) (osl:Array (Option Value)),
  fd=O4 x qual (Q7 st) (O5 st) (C3 st) dV kV doc pm an cdv ct/\K.lookup f=some ⟨oc,od,.func fd,osl⟩/\R5 K cdv qual=true
section
variable {P:Program} {w:World} {K:PySem.W.Frag} {mg:Str->Option Value} {base:Heap}
theorem FunD.ok{x:Str}(F:FunD K x qual st f fd)(S:FnScope N ps (C3 st))(len:∀ vs H Q E,sp vs H Q E->vs.length=ps.length)(T3:∀ (cdv:Value) (A:Around) (outer:List Env) (s:Shared) (H:Hp) (vs:List V) (Q:VK) (E:XK),Room k (A.deeper (envOfC qual (C3 st) s.heap.objs.size f cdv))->sp vs H Q E->
   ∃ t,U0 (cxOf D9 P w K mg base N qual (C3 st) f cdv A outer s H E).nox (O5 st) t/\t { nx:=fun _ H'=>Q .non H',rt:=Q } (start N vs) H):FnOk P w K mg base D9 (k+1) f fd ps sp:=by
 obtain ⟨oc,od,dV,kV,doc,pm,an,cdv,ct,osl,rfl,lk,U2⟩:=F.ex;refine fn_of lk U2 S len fun A outer s H vs Q E hr U3=>?_
 obtain ⟨t,h,q⟩:=T3 cdv A outer s H vs Q E hr U3;exact ⟨t,h.nox,q⟩
theorem f7{x:Str}{osl:Array (Option Value)}{dV kV doc cdv:Value}(l:K.lookup f=some ⟨oc,od,.func (O4 x qual (Q7 st) (O5 st) (C3 st) dV kV doc pm an cdv ct),osl⟩)(c:R5 K cdv qual=true):FunD K x qual st f (O4 x qual (Q7 st) (O5 st) (C3 st) dV kV doc pm an cdv ct):=⟨oc,od,dV,kV,doc,pm,an,cdv,ct,osl,rfl,l,c⟩
end
section
variable {X:Cx} {k:Nat} {ps:List Str} {sp:Sp} {dvs:List V} {x:Str} {p pos:Pos} {e:Expr} {es:List Expr} {t:TA}
theorem akZ(G:FO X.prog X.w X.K X.mg X.base k x ps dvs sp)(hr:Room k X.A)(ha:PA X (e::es) t)(hg:Gl X x:=by rfl)(h1:J2 e=false:=by rfl)(h2:R3 es=true:=by rfl)(K2:(x==("__debug__" : Str))=false:=by decide):PE X (.Call (.Name x p) (e::es) [] pos) (tCall sp dvs E0 t):=by
 obtain ⟨f,fd,F,hm,hk,ds,hb,hd⟩:=G;exact amS F hr hg hm hk hb hd pass0 ha K2 (L8 h1) (p9 h2)
theorem ak0{i:Int}(h:∃ t,X.mg x=some (.int i t))(hg:Gl X x:=by rfl)(hd:(x==("__debug__" : Str))=false:=by decide):PE X (.Name x p) (tC (.int i)):=by
 obtain ⟨t,h⟩:=h;exact yC hg h ⟨t,rfl⟩ hd
theorem ak1(h:X.mg x=some (.ref a))(hg:Gl X x:=by rfl)(hd:(x==("__debug__" : Str))=false:=by decide):PE X (.Name x p) (tC (.ref a)):=yC hg h rfl hd
end
section
variable {Y:St} {H:Hp} {Q:VK} {B:Bool->Hp->Prop} {ta tb tc te:TE} {t u:TS} {tt uu:TT} {D:Ends} {i:Nat} {v:V} {r r':R2} {K:PySem.W.Frag} {taa:TA} {R:List V->Hp->Prop} {g:TG}
theorem zV:tVar i Y H Q=∃ v,(Y[i]?).join=some v/\Q v H:=by
 unfold tVar;refine propext ⟨fun ⟨v,h,q⟩=>⟨v,by rw [h];rfl,q⟩,fun ⟨v,h,q⟩=>⟨v,?_,q⟩⟩;cases e:Y[i]? with
 | none=>rw [e] at h;cases h
 | some o=>rw [e] at h;exact congrArg some h
theorem ap_c:tC v Y H Q=Q v H:=rfl
theorem ap_op:y0 r ta tb Y H Q=ta Y H fun x H1=>tb Y H1 fun y H2=>r x y H2 Q:=rfl
theorem ap_un{ru:V->Hp->VK->Prop} : qP ru ta Y H Q=ta Y H fun x H1=>ru x H1 Q:=rfl
theorem ap_rU{f:Int->V} : rU f x H Q=∃ i,x=.int i/\Q (f i) H:=rfl
theorem ana:tTest ta Y H B=ta Y H fun x H'=>∃ k,x=.bl k/\B k H':=rfl
theorem ap_tB:tB ta Y H B=ta Y H fun x H'=>∃ k,x=.bl k/\B k H':=rfl
theorem anb:tTru K ta Y H B=ta Y H fun x H'=>∃ k,TruV K x H' k/\B k H':=rfl
theorem anc:tNotT K ta Y H Q=ta Y H fun x H'=>∃ k,TruV K x H' k/\Q (.bl (!k)) H':=rfl
theorem ak2:qR r r' ta tb tc Y H Q=ta Y H fun x H1=>tb Y H1 fun y H2=>r x y H2 fun z H3=>∃ k,z=.bl k/\(if k=true then tc Y H3 fun w' H4=>r' y w' H4 Q else Q (.bl false) H3):=rfl
theorem aqe:tAnd tt uu Y H B=tt Y H fun c H1=>if c=true then uu Y H1 B else B false H1:=rfl
theorem ap_or:qK tt uu Y H B=tt Y H fun c H1=>if c=true then B true H1 else uu Y H1 B:=rfl
theorem aqf:tNot tt Y H B=tt Y H fun c H1=>B (!c) H1:=rfl
theorem ane:tAndV ta tb Y H Q=ta Y H fun x H1=>∃ c,x=.bl c/\if c=true then tb Y H1 Q else Q (.bl false) H1:=rfl
theorem aqg:tOrV ta tb Y H Q=ta Y H fun x H1=>∃ c,x=.bl c/\if c=true then Q (.bl true) H1 else tb Y H1 Q:=rfl
theorem anf:tNotV ta Y H Q=ta Y H fun x H1=>∃ c,x=.bl c/\Q (.bl (!c)) H1:=rfl
theorem ap_if:qL tt ta tb Y H Q=tt Y H fun c H1=>if c=true then ta Y H1 Q else tb Y H1 Q:=rfl
theorem ang:tNext D Y H=D.nx Y H:=rfl
theorem aqh:tSeq t u D Y H=t { D with nx:=u D } Y H:=rfl
theorem ak3:aoD D Y H=D.bk Y H:=rfl
theorem anh:tCont D Y H=D.ct Y H:=rfl
theorem ani:tDrop te D Y H=te Y H fun _ H1=>D.nx Y H1:=rfl
theorem aqi:tRet te D Y H=te Y H D.rt:=rfl
theorem anj:tRetN D Y H=D.rt .non H:=rfl
theorem aqj:tIfS tt t u D Y H=tt Y H fun b H1=>if b=true then t D Y H1 else u D Y H1:=rfl
theorem ak4:qM D Y H=False:=rfl
theorem ank{Z:St->Hp->Prop} : gName i v Y H Z=Z (Y.set i (some v)) H:=rfl
theorem anl{Z:St->Hp->Prop} : gNil vs Y H Z=(vs=[]/\Z Y H):=rfl
theorem ak5{us:f6}{Z:St->Hp->Prop} : gCons g us vs Y H Z=∃ v r,vs=v::r/\g v Y H fun σ' H'=>us r σ' H' Z:=rfl
theorem anm{us:f6}{Z:St->Hp->Prop} : gTup K n us v Y H Z=∃ a xs,v=.ref a/\C8 K H a xs/\xs.length=n/\us xs Y H Z:=rfl
theorem ann{ts:TSet}{Z:St->Hp->Prop} : gSub ta tb ts v Y H Z=ta Y H fun o H1=>tb Y H1 fun i H2=>ts o i v H2 fun H3=>Z Y H3:=rfl
theorem aqk:tAsg te g D Y H=te Y H fun x H1=>g x Y H1 D.nx:=rfl
theorem aql{ti:qN} : tAug i te ti D Y H=∃ x,(Y[i]?).join=some x/\te Y H fun y H1=>ti x y H1 fun z H2=>D.nx (Y.set i (some z)) H2:=zV (Q:=fun x H=>te Y H fun y H1=>ti x y H1 fun z H2=>D.nx (Y.set i (some z)) H2)
theorem aqm{f:Int->Int->Int} : ipI f x y H Q=∃ i j,x=.int i/\y=.int j/\Q (.int (f i j)) H:=rfl
theorem ano:tCons te taa Y H R=te Y H fun x H1=>taa Y H1 fun xs H2=>R (x::xs) H2:=rfl
theorem aqn:tNil Y H R=R [] H:=rfl
theorem anp{E:XK} : tCall sp dvs E taa Y H Q=taa Y H fun vs H1=>sp (vs++dvs) H1 Q E:=rfl
theorem ap_cb{rc:List V->Hp->VK->Prop} : bN rc taa Y H Q=taa Y H fun vs H1=>rc vs H1 Q:=rfl
theorem aqo:tTup taa Y H Q=taa Y H fun xs H1=>xs.length<=sizeLine/\∀ p,H1 p=none->Q (.ref p) (A0 H1 p (.tup xs)):=rfl
theorem aqp:tLst taa Y H Q=taa Y H fun xs H1=>xs.length<=sizeLine/\∀ p,H1 p=none->Q (.ref p) (A0 H1 p (.lst xs)):=rfl
theorem ap_sl{rs:V->Option Int->Option Int->Hp->VK->Prop}{tl th:TO} : qZ rs te tl th Y H Q=te Y H fun x H1=>tl Y H1 fun l H2=>th Y H2 fun u H3=>rs x l u H3 Q:=rfl
theorem ai3{O:Option Int->Hp->Prop} : qX Y H O=O none H:=rfl
theorem anq{O:Option Int->Hp->Prop} : tPart te Y H O=te Y H fun x H1=>∃ i,x=.int i/\O (some i) H1:=rfl
theorem ap_bm{T:String}{rm:V->List V->Hp->VK->Prop} : mK K T rm te taa Y H Q=te Y H fun x H1=>j2 K T x H1/\taa Y H1 fun xs H2=>rm x xs H2 Q:=rfl
theorem aqq{T:String}{rm:V->List V->Hp->VK->Prop} : tBM0 K T rm te Y H Q=te Y H fun x H1=>j2 K T x H1/\rm x [] H1 Q:=rfl
theorem aqr:tYes Y H B=B true H:=rfl
theorem anr:rG Y H Q=∀ p,H p=none->Q (.ref p) (A0 H p (.dK [])):=rfl
theorem ans:tDGet ta tb Y H Q=ta Y H fun x H1=>tb Y H1 fun y H2=>∃ a v,x=.ref a/\DGet H2 a y (some v)/\Q v H2:=rfl
theorem ant:sDPut ta tb tc D Y H=tc Y H fun v H1=>ta Y H1 fun x H2=>tb Y H2 fun y H3=>∃ a H4,x=.ref a/\DPut H3 a y v H4/\D.nx Y H4:=rfl
theorem anu{rd:V->V->Hp->VK->Prop} : sDAug ta tb tc rd D Y H=ta Y H fun x H1=>tb Y H1 fun y H2=>∃ a v,x=.ref a/\DGet H2 a y (some v)/\tc Y H2 fun y2 H3=>rd v y2 H3 fun z H4=>∃ H5,DPut H4 a y z H5/\D.nx Y H5:=rfl
theorem anv : bL (fun i j=>V.int (i-j)) x y H Q=∃ i j,x=.int i/\y=.int j/\Q (.int (i-j)) H:=rfl
theorem ak6 : rI CDiv (fun i j=>V.int (i / j)) x y H Q=∃ i j,x=.int i/\y=.int j/\(0<j/\j<1073741824)/\Q (.int (i / j)) H:=rfl
theorem anw : rI (fun _ j=>0<j) (fun i j=>V.int (i % j)) x y H Q=∃ i j,x=.int i/\y=.int j/\0<j/\Q (.int (i % j)) H:=rfl
theorem anx : j2 K "str" (.str z) H=True:=by simp [j2]
noncomputable def ForIt (J:It) (g:TG) (tb:TS) (D:Ends) (Y:St) (H1:Hp):Prop:=∃ W:Nat->Nat->St->Hp->Prop,(∃ m,W 0 m Y H1)/\∀ i m Y H,W i m Y H->
 (J.stop i H/\D.nx Y H)\/(J.go i H/\∃ N:St->Hp->Prop,(∀ σ' H',N σ' H'->∃ m',m'<m/\W (i+1) m' σ' H')/\∀ x H',J.yld i H x H'->g x Y H' fun σ2 H2=>tb { D with nx:=N,ct:=N,bk:=D.nx } σ2 H2)
theorem aqs{wi:TI}{tbs:TS} : tFor wi g tbs D Y H=wi Y H fun J H1=>ForIt J g tbs D Y H1:=rfl
theorem ak7{Z:It->Hp->Prop} : iList K te Y H Z=te Y H fun x H1=>∃ a,x=.ref a/\(∃ xs,D1 K H1 a xs)/\Z (x9 K a) H1:=rfl
theorem anz{Z:It->Hp->Prop} : iTup K te Y H Z=te Y H fun x H1=>∃ a,x=.ref a/\(∃ xs,C8 K H1 a xs)/\Z (bK K a) H1:=rfl
theorem anA{Z:It->Hp->Prop} : iStr te Y H Z=te Y H fun x H1=>∃ z,x=.str z/\Z (fZ z) H1:=rfl
theorem ak8{Z:It->Hp->Prop} : iRng1 taa Y H Z=taa Y H fun vs H1=>∃ j:Int,vs=[.int j]/\-(2 ^ 62)<=j/\j<2 ^ 62/\Z (j0 0 j.toNat) H1:=rfl
theorem ak9{Z:It->Hp->Prop} : iRng2 taa Y H Z=taa Y H fun vs H1=>∃ i j:Int,vs=[.int i,.int j]/\(-(2 ^ 62)<=i/\i<2 ^ 62/\-(2 ^ 62)<=j/\j<2 ^ 62)/\Z (j0 i (j-i).toNat) H1:=rfl
noncomputable def gA (J:It) (k:Nat) (ixs:List Nat) (g:TG) (c:TT) (te:TE) (Y:St) (Q:VK) (H1:Hp):Prop:=∀ D,H1 D=none->
 ∃ (n:Nat) (W:Nat->List V->St->Hp->Prop),W 0 [] (compStart k ixs Y) (A0 H1 D (.lst []))/\∀ i ys σ2 H2,W i ys σ2 H2->H2 D=some (.lst ys)->
  (J.stop i H2/\Q (.ref D) H2)\/
  (i<n/\J.go i H2/\∀ x H',J.yld i H2 x H'->g x σ2 H' fun σ3 H3=>c σ3 H3 fun b H4=>
   if b=true then te σ3 H4 fun y H5=>H5 D=some (.lst ys)/\ys.length<sizeLine/\W (i+1) (ys++[y]) σ3 (A0 H5 D (.lst (ys++[y])))
   else H4 D=some (.lst ys)/\W (i+1) ys σ3 H4)
theorem anB{wi:TI} : tComp wi k ixs g tt te Y H Q=wi Y H fun J H1=>gA J k ixs g tt te Y Q H1:=rfl
end
theorem anC{b k:Bool} : TruV K (.bl b) H k=(k=b):=rfl
theorem ala{i:Int}{k:Bool} : TruV K (.int i) H k=(k=(i != 0)):=rfl
theorem alb{k:Bool} : TruV K (.str z) H k=(z.length<=sizeLine/\k=((z.length:Int) != 0)):=rfl
theorem alc{k:Bool} : TruV K .non H k=(k=false):=rfl
theorem ald : start N vs=vs.map some++O3 (N.length-vs.length) none:=rfl
theorem afL : compStart k ixs Y=O3 k none++ixs.map fun i=>(Y[i]?).join:=rfl
theorem anD{i:Int} : fU K (.str z) (.int i) H Q=∃ c,z.length<=sizeLine/\L7 z.cps.toList i=some c/\Q (.str ⟨#[c]⟩) H:=by
 simp only [fU,rIxL,rIxT,rIxS];refine propext ⟨fun h=>?_,fun ⟨c,h⟩=>.inr (.inr ⟨z,i,c,rfl,rfl,h⟩)⟩
 rcases h with ⟨p,xs,j,v,e,_⟩ | ⟨p,xs,j,v,e,_⟩ | ⟨z',i',c,e1,e2,h⟩
 .cases e
 .cases e
 .cases e1;cases e2;exact ⟨c,h⟩
theorem anE{i:Int} : fU K (.ref p) (.int i) H Q=∃ xs v,(D1 K H p xs\/C8 K H p xs)/\L7 xs i=some v/\Q v H:=by
 simp only [fU,rIxL,rIxT,rIxS];refine propext ⟨fun h=>?_,fun ⟨xs,v,h,r⟩=>?_⟩
 .rcases h with ⟨p',xs,j,v,e1,e2,h1,h2⟩ | ⟨p',xs,j,v,e1,e2,h1,h2⟩ | ⟨z',i',c,e1,e2,h⟩
  .cases e1;cases e2;exact ⟨xs,v,.inl h1,h2⟩
  .cases e1;cases e2;exact ⟨xs,v,.inr h1,h2⟩
  .cases e1
 .rcases h with h | h
  .exact .inl ⟨p,xs,i,v,rfl,rfl,h,r⟩
  .exact .inr (.inl ⟨p,xs,i,v,rfl,rfl,h,r⟩)
theorem aqt{α:Type}{xs:List α}{i:Int}(h0:0<=i)(h1:i<xs.length):∃ v,L7 xs i=some v/\v∈xs:=by
 have C1:i.toNat<xs.length:=by lia
 refine ⟨xs[i.toNat],?_,List.getElem_mem C1⟩;unfold L7 j1;rw [if_pos h0,if_pos h1];simp [C1]
theorem X9:bootBuiltins "len"=some (.builtin "len"):=by decide +kernel
theorem gB:bootBuiltins "isinstance"=some (.builtin "isinstance"):=by decide +kernel
theorem rN:bootBuiltins "all"=some (.builtin "all"):=by decide +kernel
theorem zW:bootBuiltins "any"=some (.builtin "any"):=by decide +kernel
theorem aqu:bootBuiltins "ord"=some (.builtin "ord"):=by decide +kernel
theorem aqv:bootBuiltins "min"=some (.builtin "min"):=by decide +kernel
theorem gC:bootBuiltins "list"=some (.type "list"):=by decide +kernel
theorem rO:bootBuiltins "tuple"=some (.type "tuple"):=by decide +kernel
theorem anF:bootBuiltins "dict"=some (.type "dict"):=by decide +kernel
theorem zX:bootBuiltins "str"=some (.type "str"):=by decide +kernel
section
variable {K:PySem.W.Frag} {H:Hp} {Q:VK} {i j:Int} {x y:Str} {u v:V} {b c:Bool} {p q:Addr} {lo hi:Option Int} {cm:Bool}
theorem ad_ii:rAddU K (.int i) (.int j) H Q=Q (.int (i+j)) H:=rfl
theorem ad_ss:rAddU K (.str x) (.str y) H Q=(x.length+y.length<=sizeLine/\Q (.str (x++y)) H):=rfl
theorem ad_rr:rAddU K (.ref p) (.ref q) H Q=rAddR K p q H Q:=rfl
theorem mu_ii:rMulU (.int i) (.int j) H Q=(CMul i j/\Q (.int (i*j)) H):=rfl
theorem mu_ri:rMulU (.ref p) (.int j) H Q=rRep (.ref p) (.int j) H Q:=rfl
theorem eq_ii:rEqU K (.int i) (.int j) H Q=Q (.bl (decide (i=j))) H:=rfl
theorem eq_ss:rEqU K (.str x) (.str y) H Q=Q (.bl (decide (x=y))) H:=rfl
theorem eq_bb:rEqU K (.bl b) (.bl c) H Q=Q (.bl (decide (b=c))) H:=rfl
theorem eq_rx:rEqU K (.ref p) v H Q=∃ d e,Dn K H (.ref p) d/\Dn K H v e/\min d.depth e.depth<=60/\Q (.bl (U7 d e)) H:=by cases v <;> rfl
theorem eq_xr:rEqU K v (.ref p) H Q=∃ d e,Dn K H v d/\Dn K H (.ref p) e/\min d.depth e.depth<=60/\Q (.bl (U7 d e)) H:=by cases v <;> rfl
theorem ne_ii:rNeU K (.int i) (.int j) H Q=Q (.bl (!decide (i=j))) H:=rfl
theorem ne_ss:rNeU K (.str x) (.str y) H Q=Q (.bl (!decide (x=y))) H:=rfl
theorem ne_bb:rNeU K (.bl b) (.bl c) H Q=Q (.bl (!decide (b=c))) H:=rfl
theorem ne_rx:rNeU K (.ref p) v H Q=∃ d e,Dn K H (.ref p) d/\Dn K H v e/\min d.depth e.depth<=60/\Q (.bl (!PyData.eqv d e)) H:=by cases v <;> rfl
theorem ne_xr:rNeU K v (.ref p) H Q=∃ d e,Dn K H v d/\Dn K H (.ref p) e/\min d.depth e.depth<=60/\Q (.bl (!PyData.eqv d e)) H:=by cases v <;> rfl
theorem lt_ii:rLtU (.int i) (.int j) H Q=Q (.bl (decide (i<j))) H:=rfl
theorem lt_ss:rLtU (.str x) (.str y) H Q=Q (.bl (decide (x.cps.toList<y.cps.toList))) H:=rfl
theorem le_ii:rLeU (.int i) (.int j) H Q=Q (.bl (decide (i<=j))) H:=rfl
theorem le_ss:rLeU (.str x) (.str y) H Q=Q (.bl (!decide (y.cps.toList<x.cps.toList))) H:=rfl
theorem gt_ii:rGtU (.int i) (.int j) H Q=Q (.bl (decide (j<i))) H:=rfl
theorem gt_ss:rGtU (.str x) (.str y) H Q=Q (.bl (decide (y.cps.toList<x.cps.toList))) H:=rfl
theorem ge_ii:rGeU (.int i) (.int j) H Q=Q (.bl (decide (j<=i))) H:=rfl
theorem ge_ss:rGeU (.str x) (.str y) H Q=Q (.bl (!decide (x.cps.toList<y.cps.toList))) H:=rfl
theorem in_xs:rInU K b u (.str x) H Q=∃ i,u=.str i/\Q (.bl (b.xor (!(Builtin.Str.occurrences x i 0 x.length 1).isEmpty))) H:=rfl
theorem in_xr:rInU K b u (.ref p) H Q=rInR K b u p H Q:=rfl
theorem sl_s:rSlU K (.str x) lo hi H Q=(x.length<=sizeLine/\Q (.str (cutS x lo hi)) H):=rfl
theorem sl_r:rSlU K (.ref p) lo hi H Q=rSlR K p lo hi H Q:=rfl
theorem len_s:rLenU K [.str x] H Q=(x.length<=sizeLine/\Q (.int x.length) H):=rfl
theorem len_r:rLenU K [.ref p] H Q=∃ n:Nat,LenR K H p n/\Q (.int n) H:=rfl
theorem aqw:rM K cm [.ref p] H Q=rListR K cm p H Q:=rfl
theorem all_r:rAllB cm [.ref p] H Q=∃ bs:List Bool,cm=true/\H p=some (.lst (bs.map V.bl))/\Q (.bl (bs.all id)) H:=rfl
theorem isi_t{n:String} : rIsi [u,.ty n] H Q=∃ T,cZ H u=some T/\isTys.contains n=true/\Q (.bl (fY T n)) H:=rfl
theorem ord_s:rOrd [.str x] H Q=(x.length=1/\Q (.int (x.cps.getD 0 0:Nat)) H):=rfl
end
theorem forL(Pv:Nat->St->Hp->Prop)(h0:Pv 0 Y H)(hl:∀ i Y H,i<=xs.length->Pv i Y H->D1 K H a xs)(hs:∀ i x Y H,xs[i]?=some x->Pv i Y H->g x Y H fun σ2 H2=>tb { D with nx:=Pv (i+1),ct:=Pv (i+1),bk:=D.nx } σ2 H2)(hd:∀ Y H,Pv xs.length Y H->D.nx Y H):ForIt (x9 K a) g tb D Y H:=akG Pv h0 hl hs hd
theorem forT(Pv:Nat->St->Hp->Prop)(h0:Pv 0 Y H)(hl:∀ i Y H,i<=xs.length->Pv i Y H->C8 K H a xs)(hs:∀ i x Y H,xs[i]?=some x->Pv i Y H->g x Y H fun σ2 H2=>tb { D with nx:=Pv (i+1),ct:=Pv (i+1),bk:=D.nx } σ2 H2)(hd:∀ Y H,Pv xs.length Y H->D.nx Y H):ForIt (bK K a) g tb D Y H:=amK Pv h0 hl hs hd
theorem forR(Pv:Nat->St->Hp->Prop)(h0:Pv 0 Y H)(hs:∀ i Y H,i<n->Pv i Y H->g (.int (lo+i)) Y H fun σ2 H2=>tb { D with nx:=Pv (i+1),ct:=Pv (i+1),bk:=D.nx } σ2 H2)(hd:∀ Y H,Pv n Y H->D.nx Y H):ForIt (j0 lo n) g tb D Y H:=aiE Pv h0 hs hd
noncomputable def CW (n:Nat) (fr:St) (Pv:Nat->List V->Hp->Prop) (i:Nat) (ys:List V) (σ2:St) (H2:Hp):Prop:=i<=n/\ys.length<=i/\(∃ v,σ2=v::fr)/\Pv i ys H2
theorem CW.put{fr:St}{Pv:Nat->List V->Hp->Prop}{o:Option V}(hi:i<n)(hy:ys.length<=i)(p:Pv (i+1) (ys++[y]) H):CW n fr Pv (i+1) (ys++[y]) (o::fr) H:=
 ⟨hi,by rw [E3,o0];lia,⟨_,rfl⟩,p⟩
theorem jB{fr:St}{Pv:Nat->List V->Hp->Prop}{o:Option V}(hi:i<n)(hy:ys.length<=i)(p:Pv (i+1) ys H):CW n fr Pv (i+1) ys (o::fr) H:=⟨hi,Nat.le_succ_of_le hy,⟨_,rfl⟩,p⟩
theorem compL(fr:St)(P0:compStart 1 ixs Y=none::fr)(Pv:Addr->Nat->List V->Hp->Prop)(h0:∀ D,H1 D=none->Pv D 0 [] (A0 H1 D (.lst [])))(hl:∀ D i ys H,H1 D=none->i<=xs.length->Pv D i ys H->D1 K H a xs)(hs:∀ D i x ys H,H1 D=none->i<xs.length->xs[i]?=some x->Pv D i ys H->H D=some (.lst ys)->ys.length<=i->c (some x::fr) H fun b H4=>
   if b=true then te (some x::fr) H4 fun y H5=>H5 D=some (.lst ys)/\ys.length<sizeLine/\CW xs.length fr (Pv D) (i+1) (ys++[y]) (some x::fr) (A0 H5 D (.lst (ys++[y])))
   else H4 D=some (.lst ys)/\CW xs.length fr (Pv D) (i+1) ys (some x::fr) H4)(hd:∀ D ys H,H1 D=none->Pv D xs.length ys H->H D=some (.lst ys)->ys.length<=xs.length->Q (.ref D) H):gA (x9 K a) 1 ixs (gName 0) c te Y Q H1:=by
 intro D hD;refine ⟨xs.length,CW xs.length fr (Pv D),⟨K8 _,K8 _,⟨none,P0⟩,h0 D hD⟩,?_⟩;rintro i ys σ2 H2 ⟨hi,hy,⟨v,rfl⟩,p⟩ hDy;have q:=hl D i ys H2 hD hi p
 by_cases C1:i<xs.length
 .refine .inr ⟨C1,⟨xs,xs[i],q,by simp [C1]⟩,fun x H' y=>?_⟩;obtain ⟨e,y⟩:=y;subst e;exact hs D i x ys _ hD C1 (y xs q) p hDy hy
 .have e:i=xs.length:=by lia
  subst e;exact .inl ⟨⟨xs,q,C2 _⟩,hd D ys H2 hD p hDy hy⟩
theorem compT(fr:St)(P0:compStart 1 ixs Y=none::fr)(Pv:Addr->Nat->List V->Hp->Prop)(h0:∀ D,H1 D=none->Pv D 0 [] (A0 H1 D (.lst [])))(hl:∀ D i ys H,H1 D=none->i<=xs.length->Pv D i ys H->C8 K H a xs)(hs:∀ D i x ys H,H1 D=none->i<xs.length->xs[i]?=some x->Pv D i ys H->H D=some (.lst ys)->ys.length<=i->c (some x::fr) H fun b H4=>
   if b=true then te (some x::fr) H4 fun y H5=>H5 D=some (.lst ys)/\ys.length<sizeLine/\CW xs.length fr (Pv D) (i+1) (ys++[y]) (some x::fr) (A0 H5 D (.lst (ys++[y])))
   else H4 D=some (.lst ys)/\CW xs.length fr (Pv D) (i+1) ys (some x::fr) H4)(hd:∀ D ys H,H1 D=none->Pv D xs.length ys H->H D=some (.lst ys)->ys.length<=xs.length->Q (.ref D) H):gA (bK K a) 1 ixs (gName 0) c te Y Q H1:=by
 intro D hD;refine ⟨xs.length,CW xs.length fr (Pv D),⟨K8 _,K8 _,⟨none,P0⟩,h0 D hD⟩,?_⟩;rintro i ys σ2 H2 ⟨hi,hy,⟨v,rfl⟩,p⟩ hDy;have q:=hl D i ys H2 hD hi p
 by_cases C1:i<xs.length
 .refine .inr ⟨C1,⟨xs,xs[i],q,by simp [C1]⟩,fun x H' y=>?_⟩;obtain ⟨e,y⟩:=y;subst e;exact hs D i x ys _ hD C1 (y xs q) p hDy hy
 .have e:i=xs.length:=by lia
  subst e;exact .inl ⟨⟨xs,q,C2 _⟩,hd D ys H2 hD p hDy hy⟩
theorem compS(fr:St)(P0:compStart 1 ixs Y=none::fr)(Pv:Addr->Nat->List V->Hp->Prop)(h0:∀ D,H1 D=none->Pv D 0 [] (A0 H1 D (.lst [])))(hs:∀ D i x ys H,H1 D=none->i<z.cps.size->z.cps.toList[i]?=some x->Pv D i ys H->H D=some (.lst ys)->ys.length<=i->c (some (.str ⟨#[x]⟩)::fr) H fun b H4=>
   if b=true then te (some (.str ⟨#[x]⟩)::fr) H4 fun y H5=>H5 D=some (.lst ys)/\ys.length<sizeLine/\CW z.cps.size fr (Pv D) (i+1) (ys++[y]) (some (.str ⟨#[x]⟩)::fr) (A0 H5 D (.lst (ys++[y])))
   else H4 D=some (.lst ys)/\CW z.cps.size fr (Pv D) (i+1) ys (some (.str ⟨#[x]⟩)::fr) H4)(hd:∀ D ys H,H1 D=none->Pv D z.cps.size ys H->H D=some (.lst ys)->ys.length<=z.cps.size->Q (.ref D) H):gA (fZ z) 1 ixs (gName 0) c te Y Q H1:=by
 intro D hD;refine ⟨z.cps.size,CW z.cps.size fr (Pv D),⟨K8 _,K8 _,⟨none,P0⟩,h0 D hD⟩,?_⟩;rintro i ys σ2 H2 ⟨hi,hy,⟨v,rfl⟩,p⟩ hDy
 by_cases C1:i<z.cps.size
 .refine .inr ⟨C1,C1,fun x H' y=>?_⟩;obtain ⟨e,c,hc,rfl⟩:=y;subst e;exact hs D i c ys _ hD C1 hc p hDy hy
 .have e:i=z.cps.size:=by lia
  subst e;exact .inl ⟨C2 _,hd D ys H2 hD p hDy hy⟩
theorem C4{q:Addr}{o u:HO}(h:H p=some o)(n:H q=none):A0 H q u p=some o:=by rw [A3 (M6 h n)];exact h
theorem Same.new{q:Addr}{u:HO}(n:H q=none):Same H (A0 H q u):=fun _ _ h=>C4 h n
theorem Same.put{q:Addr}{u:HO}(s:Same H0 H)(n:H0 q=none):Same H0 (A0 H q u):=fun b o h=>by rw [A3 (M6 h n)];exact s b o h
end L2
set_option maxRecDepth 100000
namespace L2
open PySem PySem.Spec PyProof.Rows
theorem cxK{CX:V6}{P:Program}{w:World}{base:Heap}{sc:Scope}{o:List Env}{E:XK} : (cxOf CX P w K mg base N q sc f cd A o s H E).K=K:=rfl
theorem cxKn : X.nox.K=X.K:=rfl
theorem cxKb{sc:Scope} : (L4 X sc N' C zu zt fp pins).K=X.K:=rfl
theorem cxC{CX:V6}{P:Program}{w:World}{base:Heap}{sc:Scope}{o:List Env}{E:XK} : (cxOf CX P w K mg base N q sc f cd A o s H E).calm=true:=rfl
theorem cxCn : X.nox.calm=X.calm:=rfl
theorem cxCb{sc:Scope} : (L4 X sc N' C zu zt fp pins).calm=X.calm:=rfl
theorem iteD{c A B:Prop}[Decidable c](h1:c->A)(h2:¬ c->B):if decide c=true then A else B:=by
 by_cases h:c
 .rw [decide_eq_true h,if_pos rfl];exact h1 h
 .rw [decide_eq_false h,if_neg K9];exact h2 h
theorem iteN{c A B:Prop}[Decidable c](h1:¬ c->A)(h2:c->B):if (!decide c)=true then A else B:=by
 by_cases h:c
 .rw [decide_eq_true h];exact iteF (h2 h)
 .rw [decide_eq_false h];exact iteT (h1 h)
theorem R6(h:H p=some (.lst xs)):j2 K "list" (.ref p) H:=.inl ⟨rfl,_,D1.of h⟩
theorem appOk{l:Addr}(h:H l=some (.lst xs))(hz:xs.length<sizeLine)(q:Q .non (A0 H l (.lst (xs++[y])))):cY (.ref l) [y] H Q:=⟨l,xs,y,rfl,rfl,h,hz,q⟩
theorem J5(h:n<=1000000):n<sizeLine:=Nat.lt_of_le_of_lt h (by decide)
theorem N1(h:n<=1000000):n<=sizeLine:=Nat.le_of_lt (J5 h)
noncomputable def signB (c:Nat):Bool:=decide (33<=c)&&decide (c<=126)&&decide (c≠37)
noncomputable def O6 (z:Str):Bool:=decide (1<=z.length)&&decide (z.length<=2)&&z.cps.toList.all signB
theorem jC(h:O6 z=true):R0 z=true/\1<=z.length/\z.length<=2:=by
 unfold O6 at h;simp only [P3,decide_eq_true_eq] at h;refine ⟨?_,h.1.1,h.1.2⟩;unfold R0;rw [qH];intro c hc
 have:=b0.mp h.2 c (iT.mpr hc)
 unfold signB at this;simp only [P3,decide_eq_true_eq] at this;simp only [decide_eq_true_eq];lia
theorem ai5{c:Nat}(h:signB c=true):O6 ⟨#[c]⟩=true:=by
 unfold O6;simp [Str.length,h]
noncomputable def SG:List Nat:=[33,34,35,36]++(M3 89).map (· + 38)
structure IsRows(H:Hp)(a:Addr)(rs:List Addr)(zss:List (List Str)):Prop where
 top:H a=some (.lst (rs.map V.ref))
 row:Paired (fun r (zs:List Str)=>H r=some (.lst (zs.map V.str))) rs zss
theorem IsRows.same{zss:List (List Str)}(R:IsRows H a rs zss)(s:Same H H'):IsRows H' a rs zss:=⟨s _ _ R.top,R1 R.row fun _ _ h=>s _ _ h⟩
theorem Paired.at{α β:Type}{F:α->β->Prop} : ∀ {zx:List α} {l₂:List β} {i:Nat} {a:α},Paired F zx l₂->zx[i]?=some a->∃ b,l₂[i]?=some b/\F a b
 | _,_,_,_,.nil,h=>by simp at h
 | _,_,0,_,.cons h t,e=>by simp at e;subst e;exact ⟨_,rfl,h⟩
 | _,_,i+1,_,.cons h t,e=>by
  obtain ⟨b,h1,h2⟩:=Paired.at (i:=i) t (by simpa using e);exact ⟨b,by simpa using h1,h2⟩
theorem zY:∀ zs:List Str,e9 (zs.map V5)=0
 | []=>rfl
 | z::zs=>by rw [D0,e9,zY zs,bI];rfl
theorem ale(xs ys:List Str):U7 (.list (xs.map .str)) (.list (ys.map .str))=decide (xs=ys):=by rw [U7,zT]
noncomputable def dd (acc:List Str) (z:Str):List Str:=if z∈acc then acc else acc++[z]
noncomputable def J0 (acc zs:List Str):List Str:=zs.foldl dd acc
noncomputable def toldL (zss:List (List Str)):List Str:=zss.foldl J0 []
theorem dA(zs:List Str):∀ acc:List Str,(J0 acc zs).length<=acc.length+zs.length:=by
 induction zs with
 | nil=>intro acc;exact C2 _
 | cons z zs ih=>
  intro acc;have h1:=ih (dd acc z);have h2:(dd acc z).length<=acc.length+1:=by
   unfold dd
   split
   .lia
   .simp
  show (J0 (dd acc z) zs).length<=_;rw [E8];lia
theorem zZ(h:zs[j]?=some z):J0 acc (zs.take (j+1))=dd (J0 acc (zs.take j)) z:=by
 rw [R4,h];simp [J0,o5]
theorem ai6{zss:List (List Str)}(h:zss[i]?=some zs):toldL (zss.take (i+1))=J0 (toldL (zss.take i)) zs:=by
 rw [R4,h];simp [toldL,o5]
theorem mR(zss:List (List Str)):∀ acc,zss.foldl J0 acc=J0 acc zss.flatten:=by
 induction zss with
 | nil=>intro acc;rfl
 | cons zs zss ih=>
  intro acc;rw [List.foldl_cons,ih,bB];unfold J0;rw [o5]
theorem jD(zss:List (List Str)):(toldL zss).length<=zss.flatten.length:=by
 unfold toldL;rw [mR]
 have:=dA zss.flatten []
 simpa using this
noncomputable def kvOf (zs:List Str):List (B5×V):=zs.map fun z=>(Sum.inr z,V.bl true)
theorem rP(z:Str):∀ acc:List Str,((kvOf acc).any fun kv=>decide (kv.1=(Sum.inr z:B5)))=decide (z∈acc)
 | []=>by simp [kvOf]
 | y::acc=>by
  have ih:=rP z acc;unfold kvOf at ih ⊢
  rw [D0,p4,ih]
  by_cases e:y=z
  .subst e
   simp
  .have e1:decide ((Sum.inr y:B5)=Sum.inr z)=false:=decide_eq_false fun q=>e (Sum.inr.inj q)
   have e2:decide (z∈y::acc)=decide (z∈acc):=by
    by_cases h:z∈acc
    .rw [decide_eq_true h,decide_eq_true (G5 _ h)]
    .rw [decide_eq_false h,decide_eq_false];intro q
     rcases D7.mp q with q | q
     .exact e q.symm
     .exact h q
   rw [e2];simp only [e1,Bool.false_or]
theorem afM(acc:List Str)(z:Str):putK (kvOf acc) (Sum.inr z:B5) (.bl true)=kvOf (dd acc z):=by
 unfold putK dd;rw [rP]
 by_cases h:z∈acc
 .rw [decide_eq_true h,if_pos rfl,if_pos h];unfold kvOf;rw [w8];refine iL fun y _=>?_
  show (if (Sum.inr y:B5)=Sum.inr z then ((Sum.inr y:B5),V.bl true) else (Sum.inr y,V.bl true))=_
  split <;> rfl
 .rw [decide_eq_false h,if_neg K9,if_neg h];unfold kvOf;rw [E5];rfl
theorem ai7(acc:List Str):((kvOf acc).map fun kv=>kV kv.1)=acc.map V.str:=by
 unfold kvOf;rw [w8];rfl
theorem mS(z:Str):∀ acc:List Str,X7 (.str z) (acc.map V.str)=decide (z∈acc)
 | []=>by simp [X7]
 | y::acc=>by
  have ih:=mS z acc;unfold X7 at ih ⊢
  rw [D0,p4,ih];show ((y==z) || decide (z∈acc))=_
  by_cases e:y=z
  .subst e
   simp
  .have e1:(y==z)=false:=by simpa using e
   rw [e1,Bool.false_or]
   by_cases h:z∈acc
   .rw [decide_eq_true h,decide_eq_true (G5 _ h)]
   .rw [decide_eq_false h,decide_eq_false];intro q
    rcases D7.mp q with q | q
    .exact e q.symm
    .exact h q
theorem rQ:∀ acc:List Str,(acc.map V.str).all flatV=true
 | []=>rfl
 | _::acc=>by rw [D0,List.all_cons,rQ acc];rfl
theorem J1{α β:Type}{f:α->β}{l:List α}{y:β}(h:(l.map f)[i]?=some y):∃ x,l[i]?=some x/\y=f x:=by
 rw [M0] at h;cases e:l[i]? with
 | none=>rw [e] at h;cases h
 | some x=>rw [e] at h;exact ⟨x,rfl,(Option.some.inj h).symm⟩
noncomputable def SS:Str:=Str.ofString "!\"#$&'()*+,-./0123456789:;<=>?@ABCDEFGHIJKLMNOPQRSTUVWXYZ[\\]^_`"++Str.ofString "abcdefghijklmnopqrstuvwxyz{|}~"
theorem drawn{i:Int}(hx:∀ x∈xs,∃ n,x=V.int n)(h0:0<=i)(h1:i<xs.length):∃ n,L7 xs i=some (V.int n):=by
 obtain ⟨v,h2,h3⟩:=aqt h0 h1;obtain ⟨n,rfl⟩:=hx v h3;exact ⟨n,h2⟩
theorem uai{α β:Type}{F G:α->β->Prop} : ∀ {zx:List α} {l₂:List β},Paired F zx l₂->(∀ a∈zx,∀ b,F a b->G a b)->Paired G zx l₂
 | _,_,.nil,_=>.nil
 | _,_,.cons h t,k=>.cons (k _ G9 _ h) (uai t fun a ha b hb=>k a (G5 _ ha) b hb)
structure RowsAt(H0 H:Hp)(a:Addr)(rs:List Addr)(zss:List (List Str)):Prop where
 rows:IsRows H a rs zss
 nd:(a::rs).Nodup
 new:∀ r∈a::rs,H0 r=none
 same:Same H0 H
theorem RowsAt.live{zss:List (List Str)}(R:RowsAt H0 H a rs zss)(h:r∈a::rs):∃ o,H r=some o:=by
 rcases D7.mp h with h | h
 .subst h;exact ⟨_,R.rows.top⟩
 .obtain ⟨i,hi,rfl⟩:=X5.mp h;obtain ⟨zs,_,h2⟩:=Paired.at R.rows.row (i:=i) (a:=rs[i]) (by simp [hi]);exact ⟨_,h2⟩
theorem ai8(x:Str)(lo hi:Option Int):(cutS x lo hi).cps.toList=(x.cps.toList.drop (HT.sIx x.length 0 lo)).take (HT.sIx x.length x.length hi-HT.sIx x.length 0 lo):=by
 unfold cutS
 simp
end L2
set_option maxRecDepth 100000
namespace L2
open PySem PySem.Spec PyProof.Rows
structure QE(X:Cx)(e:Expr)(t:TE):Prop where
 out:PE X e t
structure QT(X:Cx)(e:Expr)(t:TT):Prop where
 out:PT X e t
structure QW(X:Cx)(e:Expr)(t:TT):Prop where
 out:PW X e t
structure QA(X:Cx)(es:List Expr)(t:TA):Prop where
 out:PA X es t
structure QS(X:Cx)(st:Stmt)(t:TS):Prop where
 out:PS X st t
structure QSs(X:Cx)(st:List Stmt)(t:TS):Prop where
 out:U0 X st t
structure QG(X:Cx)(tg:Expr)(t:TG):Prop where
 out:PG X tg t
structure QGs(X:Cx)(tg:List Expr)(t:f6):Prop where
 out:iV X tg t
structure QI(X:Cx)(tg iter:Expr)(wi:TI):Prop where
 out:PI X tg iter wi
structure QO(X:Cx)(e:Option Expr)(t:TO):Prop where
 out:PO X e t
structure QIfs(X:Cx)(ifs:List Expr)(t:TT):Prop where
 out:PIfs X ifs t
structure QOp(X:Cx)(f:Value->Value->Sem Value)(r:R2):Prop where
 out:G0 X f r
structure QUn(X:Cx)(f:Value->Sem Value)(r:V->Hp->VK->Prop):Prop where
 out:mH X f r
structure QCall(X:Cx)(f:Value)(r:List V->Hp->VK->Prop):Prop where
 out:CallR X f r
structure QMt(X:Cx)(id:String)(r:V->List V->Hp->VK->Prop):Prop where
 out:mJ X id r
structure QIn(X:Cx)(op:Operator)(t:V->V->Hp->VK->Prop):Prop where
 out:InOp X op t
section
variable {X:Cx} {a b c e o i value:Expr} {es:List Expr} {ta tb tc te to ti tv:TE} {tA tB':TT} {t u:TS} {tl:TA} {pos p pos' tpos:Pos} {rest:List Expr} {r r':R2} {x:Str}
theorem A6{i j} : QE X (.Constant (.int i) j pos) (tC (.int i)):=⟨yB⟩
theorem qe_bl{b j} : QE X (.Constant (.bool b) j pos) (tC (.bl b)):=⟨pe_bl⟩
theorem dB{j} : QE X (.Constant .none j pos) (tC .non):=⟨aow⟩
theorem D4{x j} : QE X (.Constant (.str x) j pos) (tC (.str x)):=⟨aox⟩
theorem qe_v(hN:X.N[n]?=some x)(hv:mF X.env.scope x)(hd:(x==("__debug__" : Str))=false)(U2:(x==("__classdict__" : Str))=false):QE X (.Name x pos) (tVar n):=⟨yA hN hv hd U2⟩
theorem qv(n:Nat)(hN:X.N[n]?=some x:=by rfl)(hv:mF X.env.scope x:=by first | exact Or.inl rfl | exact Or.inr (Or.inl rfl) | exact Or.inr (Or.inr rfl))(hd:(x==("__debug__" : Str))=false:=by decide)(U2:(x==("__classdict__" : Str))=false:=by decide):QE X (.Name x pos) (tVar n):=⟨yA hN hv hd U2⟩
theorem mT{i:Int}(h:∃ t,X.mg x=some (.int i t))(hg:Gl X x:=by rfl)(hd:(x==("__debug__" : Str))=false:=by decide):QE X (.Name x p) (tC (.int i)):=⟨ak0 h hg hd⟩
theorem O7{a:Addr}(h:X.mg x=some (.ref a))(hg:Gl X x:=by rfl)(hd:(x==("__debug__" : Str))=false:=by decide):QE X (.Name x p) (tC (.ref a)):=⟨ak1 h hg hd⟩
theorem qe_ty{n:String}(hm:X.mg x=none)(hv:bootBuiltins x=some (.type n))(hg:Gl X x:=by rfl)(hn:x≠"__name__":=by decide)(hd:(x==("__debug__" : Str))=false:=by decide):QE X (.Name x p) (tC (.ty n)):=⟨amC hg hm hv rfl hn hd⟩
theorem qe_op{op:Operator}(ho:QOp X (binaryOp op) r)(ha:QE X a ta)(hb:QE X b tb):QE X (.BinOp a op b pos) (y0 r ta tb):=⟨pe_op ho.out ha.out hb.out⟩
theorem qe_un{op:UnaryOp}{r:V->Hp->VK->Prop}(ho:QUn X (unaryOp op) r)(ha:QE X a ta):QE X (.UnaryOp op a pos) (qP r ta):=⟨pe_un ho.out ha.out⟩
theorem anG(ha:QE X a ta)(hK:X.K=K:=by rfl):QE X (.UnaryOp .Not a pos) (tNotT K ta):=by subst hK;exact ⟨am7 ha.out⟩
theorem dC{op}(ha:QE X a ta):QE X (.BoolOp op [a] pos) ta:=⟨aoB ha.out⟩
theorem y7(ha:QE X a ta)(hb:QE X (.BoolOp .And (b::rest) pos) tb):QE X (.BoolOp .And (a::b::rest) pos) (tAndV ta tb):=⟨aoC ha.out hb.out⟩
theorem j4{op:CmpOp}(ho:QOp X (compareOp op) r)(ha:QE X a ta)(hb:QE X b tb)(hm:behindInMarks op b=false:=by first | exact yJ _ | rfl):QE X (.Compare a [op] [b] pos) (y0 r ta tb):=⟨amN ho.out ha.out hb.out hm⟩
theorem jE{op op':CmpOp}(ho:QOp X (compareOp op) r)(k7:QOp X (compareOp op') r')(ha:QE X a ta)(hb:QE X b tb)(hc:QE X c tc)(hm:lastMarks [op,op'] [b,c]=false:=by with_unfolding_all rfl):QE X (.Compare a [op,op'] [b,c] pos) (qR r r' ta tb tc):=⟨akH ho.out k7.out ha.out hb.out hc.out hm⟩
theorem rR(hc:QT X c tA)(ha:QE X a ta)(hb:QE X b tb):QE X (.IfExp c a b pos) (qL tA ta tb):=⟨akA hc.out ha.out hb.out⟩
theorem A2:QA X [] tNil:=⟨aoS⟩
theorem qa_c(ha:QE X e te)(hr:QA X es tl)(h:J2 e=false:=by rfl):QA X (e::es) (tCons te tl):=⟨pa_c ha.out hr.out h⟩
theorem V7(h:QA X es tl):QE X (.List es pos) (tLst tl):=⟨aoU h.out⟩
theorem P9{x1}(h:QA X es tl):QE X (.Tuple es x1 pos) (tTup tl):=⟨aoT h.out⟩
theorem y8:QE X (.Dict [] [] pos) rG:=⟨akT⟩
theorem V8:QO X none qX:=⟨amV⟩
theorem Q0(h:QE X e te):QO X (some e) (tPart te):=⟨amW h.out⟩
theorem R7{lo hi:Option Expr}{tlo thi:TO}{p2:Pos}(he:QE X e te)(hl:QO X lo tlo)(hu:QO X hi thi)(hK:X.K=K:=by rfl):QE X (.Subscript e (.Slice lo hi none p2) pos) (qZ (rSlU K) te tlo thi):=by subst hK;exact ⟨akP p_sl he.out hl.out hu.out⟩
theorem Y0(hu:X.A.units+1<cLine)(ho:QE X o to)(hi:QE X i ti)(hs:NoSl i:=by exact fun _ _=>rfl):QE X (.Subscript o i pos) (tDGet to ti):=⟨am2 hu ho.out hi.out hs⟩
theorem qe_ix(ha:QE X a ta)(hb:QE X b tb)(hs:zB b:=by exact fun _ _=>rfl)(hK:X.K=K:=by rfl):QE X (.Subscript a b pos) (y0 (fU K) ta tb):=by subst hK;exact ⟨pe_ix aoY ha.out hb.out hs⟩
theorem qe_cB{id:String}{rc:List V->Hp->VK->Prop}(hc:QCall X (.builtin id) rc)(hm:X.mg x=none)(hv:bootBuiltins x=some (.builtin id))(ha:QA X (e::es) tl)(hg:Gl X x:=by rfl)(h1:J2 e=false:=by rfl)(h2:R3 es=true:=by rfl)(hn:x≠"__name__":=by decide)(K2:(x==("__debug__" : Str))=false:=by decide) :
  QE X (.Call (.Name x p) (e::es) [] pos) (bN rc tl):=⟨pe_cB hc.out hg hm hv ha.out h1 h2 hn K2⟩
theorem qe_cT{T:String}{rc:List V->Hp->VK->Prop}(hc:QCall X (.type T) rc)(hm:X.mg x=none)(hv:bootBuiltins x=some (.type T))(ha:QA X (e::es) tl)(hg:Gl X x:=by rfl)(h1:J2 e=false:=by rfl)(h2:R3 es=true:=by rfl)(hn:x≠"__name__":=by decide)(K2:(x==("__debug__" : Str))=false:=by decide) :
  QE X (.Call (.Name x p) (e::es) [] pos) (bN rc tl):=⟨pe_cT hc.out hg hm hv ha.out h1 h2 hn K2⟩
theorem qe_mB{T id:String}{rm:V->List V->Hp->VK->Prop}(pa:PlainAttrs T)(slot:Slot T name id)(T4:typeOf (.builtin id)=pure (.type "method_descriptor"))(hm:QMt X id rm)(ho:QE X o to)(ha:QA X (e::es) tl)(h1:J2 e=false:=by rfl)(h2:R3 es=true:=by rfl)(h3:decide ((e::es).length<30)=true:=by rfl)(E9:attributeBase o name X.env (eval o X.env)=eval o X.env:=by rfl)(G3:(apos.endLine==cpos.line)=true:=by rfl)(hK:X.K=K:=by rfl):QE X (.Call (.Attribute o name apos) (e::es) [] cpos) (mK K T rm to tl):=by subst hK;exact ⟨pe_mB pa slot T4 hm.out ho.out ha.out h1 h2 h3 E9 G3⟩
theorem qe_m0{T id:String}{rm:V->List V->Hp->VK->Prop}(pa:PlainAttrs T)(slot:Slot T name id)(T4:typeOf (.builtin id)=pure (.type "method_descriptor"))(hm:QMt X id rm)(ho:QE X o to)(E9:attributeBase o name X.env (eval o X.env)=eval o X.env:=by rfl)(G3:(apos.endLine==cpos.line)=true:=by rfl)(hK:X.K=K:=by rfl):QE X (.Call (.Attribute o name apos) [] [] cpos) (tBM0 K T rm to):=by subst hK;exact ⟨ao0 pa slot T4 hm.out ho.out E9 G3⟩
theorem F9(G:FO X.prog X.w X.K X.mg X.base k x ps dvs sp)(hr:Room k X.A)(ha:QA X (e::es) tl)(hg:Gl X x:=by rfl)(h1:J2 e=false:=by rfl)(h2:R3 es=true:=by rfl)(K2:(x==("__debug__" : Str))=false:=by decide) :
  QE X (.Call (.Name x p) (e::es) [] pos) (tCall sp dvs E0 tl):=⟨akZ G hr ha.out hg h1 h2 K2⟩
theorem E4{op:CmpOp}(ho:QOp X (compareOp op) r)(ha:QE X a ta)(hb:QE X b tb)(hm:behindInMarks op b=false:=by first | exact yJ _ | rfl):QT X (.Compare a [op] [b] pos) (tTest (y0 r ta tb)):=⟨amO ho.out ha.out hb.out hm⟩
theorem jF(ha:QT X a tA):QT X (.UnaryOp .Not a pos) (tNot tA):=⟨aoA ha.out⟩
theorem rS(ha:QT X a tA):QW X (.BoolOp .And [a] pos) tA:=⟨amD ha.out⟩
theorem amf(ha:QT X a tA):QW X (.BoolOp .Or [a] pos) tA:=⟨aoy ha.out⟩
theorem rT(ha:QT X a tA)(hb:QW X (.BoolOp .And (b::rest) pos) tB'):QW X (.BoolOp .And (a::b::rest) pos) (tAnd tA tB'):=⟨aoz ha.out hb.out⟩
theorem qw_or(ha:QT X a tA)(hb:QW X (.BoolOp .Or (b::rest) pos) tB'):QW X (.BoolOp .Or (a::b::rest) pos) (qK tA tB'):=⟨pw_or ha.out hb.out⟩
theorem QW.pt(h:QW X a tA):QT X a tA:=⟨h.out.pt⟩
theorem f8(ha:QE X a ta)(he:∀ whole,isTrue a X.env whole=(do let v <- whole;standAt a.pos;holding [v] (truthy v)):=by intro _;rfl)(hK:X.K=K:=by rfl):QT X a (tTru K ta):=by subst hK;exact ⟨ao7 ha.out he⟩
variable {st:Stmt} {sts:List Stmt}
theorem G7:QSs X [] tNext:=⟨amE⟩
theorem A7(h:QS X st t):QSs X [st] t:=⟨amF h.out⟩
theorem A5(h:QS X st t)(h2:QSs X sts u):QSs X (st::sts) (tSeq t u):=⟨akB h.out h2.out⟩
theorem D6(he:QE X e te):QS X (.Return (some e) pos) (tRet te):=⟨aoE he.out⟩
theorem dD:QS X st qM:=⟨akC⟩
theorem C9(hN:X.N.Nodup)(hi:X.N[n]?=some x)(hx:p6 X.env.scope x)(he:QE X e te)(hs:swapsWith e (some (.Name x pos')) pos.line X.env=pure false:=by rfl)(hf:X.fn x=true:=by rfl):QS X (.Assign [.Name x pos'] e pos) (tAsg te (gName n)):=⟨aoG hN hi hx he.out hs (.inl hf)⟩
theorem j5{f:Str}(ho:QE X o to)(hv:QE X value tv)(hs:swapsWith value (some (.Attribute o f pos')) pos.line X.env=pure false:=by rfl)(hK:X.K=K:=by rfl):QS X (.Assign [.Attribute o f pos'] value pos) (sFld K to tv f):=by subst hK;exact ⟨aoP ho.out hv.out hs⟩
theorem f9{f:Str}(ho:QE X o to)(hb:attributeBase o f X.env (eval o X.env)=eval o X.env:=by rfl)(hK:X.K=K:=by rfl):QE X (.Attribute o f pos) (tFld K to f):=by subst hK;exact ⟨aoO ho.out hb⟩
theorem g0(hu:X.A.units+1<cLine)(ho:QE X o to)(hi:QE X i ti)(hv:QE X value tv)(hs:swapsWith value (some (.Subscript o i pos')) pos.line X.env=pure false:=by rfl):QS X (.Assign [.Subscript o i pos'] value pos) (sDPut to ti tv):=⟨am3 hu ho.out hi.out hv.out hs⟩
theorem aja{op:Operator}{rd:V->V->Hp->VK->Prop}(hu:X.A.units+1<cLine)(ho:QE X o to)(hi:QE X i ti)(hv:QE X value tv)(dS:QIn X op rd)(ha:∀ ov iv new,augStore i ov iv new=(do holding [new,ov,iv] (setItem ov iv new);release [new,ov,iv] [];pure .next):=by exact fun _ _ _=>rfl) :
  QS X (.AugAssign (.Subscript o i tpos) op value pos) (sDAug to ti tv rd):=⟨am4 hu ho.out hi.out hv.out dS.out ha⟩
theorem Q1(he:QE X e te)(hs:swapsWith e none pos.line X.env=pure false:=by rfl):QS X (.Expr e pos) (tDrop te):=⟨amG he.out hs⟩
theorem qs_if{sa sb:List Stmt}(hc:QT X c tA)(ha:QSs X sa t)(hb:QSs X sb u):QS X (.If c sa sb pos) (tIfS tA t u):=⟨ps_if hc.out ha.out hb.out⟩
theorem rV{body:List Stmt}(hp:PassesOwn (model X.prog X.w) X.A X.env X.xe)(hc:QT X c tA)(hb:QSs X body t):QS X (.While c body [] pos) (mG tA t):=⟨akE hp hc.out hb.out⟩
theorem N5{body:List Stmt}{wi:TI}(hp:PassesOwn (model X.prog X.w) X.A X.env X.xe)(hi:QI X tg iter wi)(hg:QG X tg g)(hb:QSs X body t)(hc:X.calm=true:=by rfl)(hs:∀ x,foldedSetIterable iter X.env x=pure x:=by intro _;rfl):QS X (.For tg iter body [] pos) (tFor wi g t):=⟨aoI hp hc hi.out hg.out hb.out hs⟩
theorem E6(hN:X.N.Nodup)(hi:X.N[n]?=some x)(hx:p6 X.env.scope x)(hf:X.fn x=true\/X.env.scope.names.lookup x=some .local:=by first | exact .inl rfl | exact .inr rfl | assumption):QG X (.Name x pos) (gName n):=⟨amH hN hi hx hf⟩
theorem jG:QGs X [] gNil:=⟨amI⟩
theorem q5{gs:f6}(h1:QG X e g)(h2:QGs X es gs)(hs:(assignEach (e::es) X.env).map (·.2)=assign e X.env::(assignEach es X.env).map (·.2):=by rfl):QGs X (e::es) (gCons g gs):=⟨akD h1.out h2.out hs⟩
theorem jH{gs:f6}(h:QGs X es gs)(hc:X.calm=true:=by rfl)(hn:(assignEach es X.env).length=n:=by rfl)(g9:(assignEach es X.env).findIdx? (·.1)=none:=by rfl)(hK:X.K=K:=by rfl):QG X (.Tuple es k pos) (gTup K n gs):=by subst hK;exact ⟨aoF hc h.out hn g9⟩
variable {tg:Expr}
theorem O8(h:QE X e te)(hK:X.K=K:=by rfl):QI X tg e (iList K te):=by subst hK;exact ⟨amJ h.out⟩
theorem dE(h:QE X e te)(hK:X.K=K:=by rfl):QI X tg e (iTup K te):=by subst hK;exact ⟨aoH h.out⟩
theorem rW(h:QE X e te):QI X tg e (iStr te):=⟨aqd h.out⟩
theorem qi_r1(hm:X.mg "range"=none)(ha:QA X [a] tl)(hg:Gl X "range":=by rfl)(h1:J2 a=false:=by rfl):QI X tg (.Call (.Name "range" p) [a] [] pos) (iRng1 tl):=⟨pi_r1 hg hm ha.out h1⟩
theorem y9:QIfs X [] tYes:=⟨akV⟩
theorem bP(h:QT X c tA):QIfs X [c] tA:=⟨akW h.out⟩
variable {sc:Scope} {N':List Str} {k:Nat} {ixs:List Nat} {ifs:List Expr} {wi:TI} {g:TG} {elt:Expr}
theorem V9(C:CompOk X.N X.env.scope.names sc N' k ixs)(hi:QI X tg e wi)(hg:∀ C zu zt fp pins,QG (L4 X sc N' C zu zt fp pins) tg g)(hc:∀ C zu zt fp pins,QIfs (L4 X sc N' C zu zt fp pins) ifs tA)(he:∀ C zu zt fp pins,QE (L4 X sc N' C zu zt fp pins) elt te)(K6:X.calm=true:=by rfl)(hs:∀ x,foldedSetIterable e X.env x=pure x:=by intro _;rfl):QE X (.ListComp elt [⟨tg,e,ifs,0⟩] sc pos) (tComp wi k ixs g tA te):=
 ⟨am6 C K6 hi.out (fun _ _ _ _ _=>(hg _ _ _ _ _).out) (fun _ _ _ _ _=>(hc _ _ _ _ _).out) (fun _ _ _ _ _=>(he _ _ _ _ _).out) hs⟩
theorem rX(hN:X.N.Nodup)(hiN:X.N[n]?=some x)(hx:p6 X.env.scope x)(C:CompOk X.N X.env.scope.names sc N' k ixs)(hi:QI X tg e wi)(hg:∀ C zu zt fp pins,QG (L4 X sc N' C zu zt fp pins) tg g)(hc:∀ C zu zt fp pins,QIfs (L4 X sc N' C zu zt fp pins) ifs tA)(he:∀ C zu zt fp pins,QE (L4 X sc N' C zu zt fp pins) elt te)(eA:swapsWith (.ListComp elt [⟨tg,e,ifs,0⟩] sc pos) (some (.Name x pos')) spos.line X.env=pure true:=by rfl)(K6:X.calm=true:=by rfl)(hf:X.fn x=true:=by rfl)(hs:∀ x,foldedSetIterable e X.env x=pure x:=by intro _;rfl) :
  QS X (.Assign [.Name x pos'] (.ListComp elt [⟨tg,e,ifs,0⟩] sc pos) spos) (tAsg (tComp wi k ixs g tA te) (gName n)):=
 ⟨ahV hN hiN hx C K6 hi.out (fun _ _ _ _ _=>(hg _ _ _ _ _).out) (fun _ _ _ _ _=>(hc _ _ _ _ _).out) (fun _ _ _ _ _=>(he _ _ _ _ _).out) eA (.inl hf) hs⟩
theorem q_add(hK:X.K=K:=by rfl):QOp X (binaryOp .Add) (rAddU K):=by subst hK;exact ⟨p_add⟩
theorem q_mul:QOp X (binaryOp .Mult) rMulU:=⟨p_mul⟩
theorem Y1:QOp X (binaryOp .FloorDiv) (rI CDiv fun i j=>.int (i / j)):=⟨ao8⟩
theorem q_mod:QOp X (binaryOp .Mod) (rI (fun _ j=>0<j) fun i j=>.int (i % j)):=⟨p_mod⟩
theorem q_eq(hu:X.A.units+64<cLine)(hK:X.K=K:=by rfl):QOp X (compareOp .Eq) (rEqU K):=by subst hK;exact ⟨p_eq hu⟩
theorem q_ne(hu:X.A.units+64<cLine)(hK:X.K=K:=by rfl):QOp X (compareOp .NotEq) (rNeU K):=by subst hK;exact ⟨p_ne hu⟩
theorem q_lt:QOp X (compareOp .Lt) rLtU:=⟨p_lt⟩
theorem q_le:QOp X (compareOp .LtE) rLeU:=⟨p_le⟩
theorem q_gt:QOp X (compareOp .Gt) rGtU:=⟨p_gt⟩
theorem q_ge:QOp X (compareOp .GtE) rGeU:=⟨p_ge⟩
theorem q_in(hu:X.A.units+64<cLine)(hK:X.K=K:=by rfl):QOp X (compareOp .In) (rInU K false):=by subst hK;exact ⟨p_in hu⟩
theorem mU(hu:X.A.units+64<cLine)(hK:X.K=K:=by rfl):QOp X (compareOp .NotIn) (rInU K true):=by subst hK;exact ⟨am8 hu⟩
theorem q_isN:QOp X (compareOp .Is) (fun x y H Q=>y=.non/\Q (.bl (decide (x=.non))) H):=⟨aoN⟩
theorem amg:QOp X (compareOp .IsNot) (fun x y H Q=>y=.non/\Q (.bl (!decide (x=.non))) H):=⟨amM⟩
theorem q_neg:QUn X (unaryOp .USub) (rU fun i=>.int (-i)):=⟨aoM⟩
theorem q_len(hK:X.K=K:=by rfl):QCall X (.builtin "len") (rLenU K):=by subst hK;exact ⟨p_len⟩
theorem q_isi:QCall X (.builtin "isinstance") rIsi:=⟨akX⟩
theorem q_all(Q4:X.calm=calm:=by rfl):QCall X (.builtin "all") (rAllB calm):=by subst Q4;exact ⟨p_all⟩
theorem q_ord:QCall X (.builtin "ord") rOrd:=⟨p_ord⟩
theorem jI(hK:X.K=K:=by rfl)(Q4:X.calm=calm:=by rfl):QCall X (.type "list") (rM K calm):=by subst hK;subst Q4;exact ⟨aqb⟩
theorem g1:QMt X "list.append" cY:=⟨fun pins s Y H x xs v us Q I rx rv h=>zG pins s Y H x xs v us Q I rx rv h⟩
theorem amh:QIn X .Add rAdd:=⟨aoQ⟩
theorem aqx:QIn X .Sub rSub:=⟨aoR⟩
end
end L2
set_option maxRecDepth 100000
namespace L2
open PySem PySem.Spec PyProof.Rows
noncomputable def ModD (P:Program) (w:World) (K:PySem.W.Frag) (a:Addr) (kvs:List (B5×V)):Prop:=(a==sysModules)=false/\∀ h:Heap,K.In h->∃ vs,KV kvs vs/\h.DictOf (N3 P w) a vs
noncomputable abbrev ModE (w:World):List DictEntry->List (B5×V)->Prop:=Paired fun e kv=>keyIs kv.1 e.key=true/\e.hash=keyH w kv.1/\RelV kv.2 e.val
theorem ModE.pairs{P:Program}{w:World} : ∀ {es:List DictEntry} {kvs:List (B5×V)},ModE w es kvs->∃ vs:List (B5×Value),KV kvs vs/\Pairs (N3 P w) es vs/\(∀ e∈es,∃ k,(N3 P w).is k e.key=true/\e.hash=(N3 P w).hash k)/\vs.map (·.1)=kvs.map (·.1)
 | _,_,.nil=>⟨[],.nil,.nil,fun e h=>(nomatch h),rfl⟩
 | e::es,kv::kvs,.cons ⟨h1,h2,h3⟩ t=>by
  obtain ⟨vs,a1,a2,a3,a4⟩:=ModE.pairs (P:=P) t;refine ⟨(kv.1,e.val)::vs,.cons ⟨rfl,h3⟩ a1,.cons h1 rfl a2,fun e' he=>?_,by rw [D0,D0,a4]⟩
  rcases D7.mp he with z | z
  .rw [z];exact ⟨kv.1,h1,h2⟩
  .exact a3 e' z
theorem rY{P:Program}{w:World}{es:Array DictEntry}{ep:Nat}(l:K.lookup a=some { cls:=.type "dict",dict:=none,data:=.dict es ep,slots:=#[] })(hs:(a==sysModules)=false)(he:ModE w es.toList kvs)(hn:(kvs.map (·.1)).Nodup):ModD P w K a kvs:=by
 refine ⟨hs,fun h X=>?_⟩;obtain ⟨vs,a1,a2,a3,a4⟩:=he.pairs (P:=P);exact ⟨vs,a1,_,es,ep,X a _ l,⟨rfl,rfl,rfl⟩,rfl,fun e h=>a3 e (iT.mpr h),a2,by rw [a4];exact hn⟩
noncomputable def rInM (neg:Bool) (a:Addr) (kvs:List (B5×V)):R2:=fun x y H Q=>y=.ref a/\∃ k,x=kV k/\Q (.bl (neg.xor (valV kvs k).isSome)) H
noncomputable def ami (a:Addr) (kvs:List (B5×V)) (to ti:TE):TE:=fun Y H Q=>to Y H fun x H1=>ti Y H1 fun y H2=>x=.ref a/\∃ k v,y=kV k/\valV kvs k=some v/\Q v H2
section
variable {X:Cx} {a:Addr} {kvs:List (B5×V)} {o i:Expr} {to ti:TE} {pos:Pos}
theorem q_inM(M:ModD X.prog X.w X.K a kvs):QOp X (compareOp .In) (rInM false a kvs):=⟨by
 intro pins s Y H x y v u Q I rx ry h;obtain ⟨rfl,k,rfl,q⟩:=h;obtain rfl:u=Value.ref a:=ry;obtain ⟨hd,M⟩:=M;obtain ⟨vs,rel,dd⟩:=M s.heap I.kIn;refine wpAny_in_of (kV_is rx) hd dd.mapOf ?_;rw [<- (rel.val k).isSome_eq];exact ⟨.bl _,H,I.tok _,rfl,by simpa using q⟩⟩
theorem ahe(M:ModD X.prog X.w X.K a kvs):QOp X (compareOp .NotIn) (rInM true a kvs):=⟨by
 intro pins s Y H x y v u Q I rx ry h;obtain ⟨rfl,k,rfl,q⟩:=h;obtain rfl:u=Value.ref a:=ry;obtain ⟨hd,M⟩:=M;obtain ⟨vs,rel,dd⟩:=M s.heap I.kIn;refine wpAny_notIn_of (kV_is rx) hd dd.mapOf ?_;rw [<- (rel.val k).isSome_eq];exact ⟨.bl _,H,I.tok _,rfl,by simpa using q⟩⟩
theorem jJ(M:ModD X.prog X.w X.K a kvs)(ho:QE X o to)(hi:QE X i ti)(hs:NoSl i:=by exact fun _ _=>rfl):QE X (.Subscript o i pos) (ami a kvs to ti):=⟨by
 intro pins s Y H Q I h;refine zL PySem.F.slot_dict_getitem.lookup hs (A8 (ho.out pins s Y H _ I h) fun u s1 ⟨x,H1,I1,rx,q1⟩=>A8 (hi.out pins s1 Y H1 _ I1 q1) fun iv s2 ⟨y,H2,I2,ry,ex,k,v,ey,l,q2⟩=>?_);subst ex ey;obtain rfl:u=Value.ref a:=rx;obtain ⟨hd,M⟩:=M;obtain ⟨vs,rel,dd⟩:=M s2.heap I2.kIn;obtain ⟨w',hw,rw'⟩:=iX (v:=v) (o:=valueAt vs k) (by rw [<- l];exact rel.val k);exact ⟨dd.typeIs,wpAny_getItem_of (kV_is ry) dd.mapOf hw ⟨v,H2,I2.tok _,rw',q2⟩⟩⟩
end
theorem kV_str{k:B5} : (V.str z=kV k)=(k=Sum.inr z):=by
 cases k with
 | inl i=>exact propext ⟨fun h=>(by cases h),fun h=>(by cases h)⟩
 | inr x=>exact propext ⟨fun h=>(by cases h;rfl),fun h=>(by cases h;rfl)⟩
theorem aqy : rInM neg a kvs (.str z) (.ref b) H Q=(V.ref b=V.ref a/\Q (.bl (neg.xor (valV kvs (Sum.inr z)).isSome)) H):=by
 unfold rInM;simp only [kV_str,exists_eq_left]
theorem alf{to ti:TE} : ami a kvs to ti Y H Q=to Y H fun x H1=>ti Y H1 fun y H2=>x=.ref a/\∃ k v,y=kV k/\valV kvs k=some v/\Q v H2:=rfl
noncomputable def ajc (c:TT) (tb:TS) (D:Ends) (Y:St) (H:Hp):Prop:=mG c tb D Y H
theorem alg : mG c tb D Y H=ajc c tb D Y H:=rfl
theorem rZ(Pv:Nat->St->Hp->Prop)(m:Nat)(h0:Pv m Y H)(hs:∀ m Y H,Pv m Y H->c Y H fun b H1=>if b=true then ∃ N:St->Hp->Prop,(∀ σ' H',N σ' H'->∃ m',m'<m/\Pv m' σ' H')/\tb { D with nx:=N,ct:=N,bk:=D.nx } Y H1 else D.nx Y H1):ajc c tb D Y H:=⟨Pv,⟨m,h0⟩,hs⟩
noncomputable def rTupR (K:PySem.W.Frag) (p:Addr) (H:Hp) (Q:VK):Prop:=∃ ys,(D1 K H p ys/\∀ l,H l=none->Q (.ref l) (A0 H l (.tup ys)))\/(C8 K H p ys/\Q (.ref p) H)
theorem rTupR.l(h1:D1 K H p ys)(h:∀ l,H l=none->Q (.ref l) (A0 H l (.tup ys))):rTupR K p H Q:=⟨ys,.inl ⟨h1,h⟩⟩
noncomputable def rTupU (K:PySem.W.Frag):List V->Hp->VK->Prop
 | [.ref p],H,Q=>rTupR K p H Q
 | _,_,_=>False
theorem tup_r : rTupU K [.ref p] H Q=rTupR K p H Q:=rfl
theorem sA(hK:X.K=K:=by rfl):QCall X (.type "tuple") (rTupU K):=by
 subst hK;refine ⟨fun pins s Y H xs us Q I r h=>?_⟩
 match xs,h with
 | [.ref p],⟨ys,h⟩=>exact ae5 pins s Y H _ us Q I r ⟨p,ys,rfl,h⟩
noncomputable def rMin:List V->Hp->VK->Prop:=fun xs H Q=>∃ i j,xs=[.int i,.int j]/\Q (.int (if j<i then j else i)) H
noncomputable def rMax:List V->Hp->VK->Prop:=fun xs H Q=>∃ i j,xs=[.int i,.int j]/\Q (.int (if j > i then j else i)) H
theorem aqz{i j:Int} : rMin [.int i,.int j] H Q=Q (.int (if j<i then j else i)) H:=propext ⟨fun ⟨_,_,e,q⟩=>(by cases e;exact q),fun q=>⟨_,_,rfl,q⟩⟩
theorem aqA{i j:Int} : rMax [.int i,.int j] H Q=Q (.int (if j > i then j else i)) H:=propext ⟨fun ⟨_,_,e,q⟩=>(by cases e;exact q),fun q=>⟨_,_,rfl,q⟩⟩
noncomputable def rCalm (calm:Bool) (r:List V->Hp->VK->Prop):List V->Hp->VK->Prop:=fun xs H Q=>calm=true/\r xs H Q
theorem anH{r:List V->Hp->VK->Prop} : rCalm true r xs H Q=r xs H Q:=propext ⟨fun h=>h.2,fun h=>⟨rfl,h⟩⟩
end L2
set_option maxRecDepth 100000
namespace L2
open PySem PySem.Spec PyProof.Rows
open PySem.Builtin PySem.Builtin.Str PySem.StrLaws
noncomputable def tSeqM (t u:TS):TS:=fun D Y H=>∃ M:St->Hp->Prop,t { D with nx:=M } Y H/\∀ σ' H',M σ' H'->u D σ' H'
theorem gD{rest:List Stmt}{t u:TS}(h1:QS X st t)(h2:QSs X rest u):QSs X (st::rest) (tSeqM t u):=⟨by
 intro pins s Y H D I h;obtain ⟨M,h,hm⟩:=h;refine wpAny_execs_cons (A8 (h1.out pins s Y H { D with nx:=M } I h) fun f s1 q=>?_)
 cases f with
 | next=>
  obtain ⟨σ',H',I',q⟩:=q;exact h2.out pins s1 σ' H' D I' (hm _ _ q)
 | ret v=>exact q
 | brk=>exact q
 | cont=>exact q⟩
theorem mid{t u:TS}(M:St->Hp->Prop)(h:t { D with nx:=M } Y H)(h2:∀ σ' H',M σ' H'->u D σ' H'):tSeqM t u D Y H:=⟨M,h,h2⟩
theorem sB(h:H p=some (.lst xs)):TruV K (.ref p) H (!xs.isEmpty):=.inl ⟨xs,.of h,rfl⟩
theorem z0(xs:List V)(k:Nat):cutV xs (some (k:Int)) none=xs.drop k:=by
 unfold cutV;have e1:HT.sIx xs.length 0 (some (k:Int))=min k xs.length:=by unfold HT.sIx;simp;lia
 have e2:HT.sIx xs.length xs.length none=xs.length:=rfl;rw [e1,e2,X4 (by rw [o7];exact C2 _)]
 by_cases h:k<=xs.length
 .rw [fF h]
 .rw [Nat.min_eq_right (by lia),lY (C2 _),lY (by lia)]
theorem aje(xs:List V)(k:Nat):cutV xs none (some (k:Int))=xs.take k:=by
 unfold cutV;have e1:HT.sIx xs.length xs.length (some (k:Int))=min k xs.length:=by unfold HT.sIx;simp;lia
 have e2:HT.sIx xs.length 0 none=0:=rfl;rw [e1,e2,List.drop_zero,Nat.sub_zero]
 by_cases h:k<=xs.length
 .rw [fF h]
 .rw [Nat.min_eq_right (by lia),X4 (C2 _),X4 (by lia)]
theorem mV(x:V)(xs:List V):cutV (x::xs) (some 1) none=xs:=z0 (x::xs) 1
theorem M4{α:Type}(x:α)(xs:List α):L7 (x::xs) 0=some x:=by
 have e:j1 (x::xs).length 0=some 0:=by unfold j1;rw [if_pos (Int.le_refl 0),if_pos (by rw [E8];lia)];rfl
 unfold L7;rw [e];rfl
theorem anI{trs:List (TE×TE)} : tDisp trs Y H Q=∀ p,H p=none->fW trs Y (A0 H p (.dK [])) fun ps H2=>H2 p=some (.dK [])/\∃ kvs:List (B5×V),ps=kvs.map (fun kv=>(kV kv.1,kv.2))/\kvs.length<=15/\Q (.ref p) (A0 H2 p (.dK (X8 [] kvs))):=rfl
theorem anJ{Q:List (V×V)->Hp->Prop} : fW [] Y H Q=Q [] H:=rfl
theorem alh{tk tv:TE}{r:List (TE×TE)}{Q:List (V×V)->Hp->Prop} : fW ((tk,tv)::r) Y H Q=tk Y H fun x H1=>tv Y H1 fun y H2=>fW r Y H2 fun ps H3=>Q ((x,y)::ps) H3:=rfl
theorem ali{td ty tx:TE} : ao4 td ty tx Y H Q=td Y H fun x H1=>∃ a,x=.ref a/\y4 H1 a/\ty Y H1 fun y H2=>tx Y H2 fun z H3=>∃ o,DGet H3 a y o/\Q (o.getD z) H3:=rfl
theorem mW:∀ {zs:List Str} {us:List Value},Vals (zs.map V.str) us->StrsAre us zs
 | [],_,.nil=>.nil
 | z::zs,_::_,.cons ⟨t,h⟩ r=>by subst h;exact .cons _ _ (mW r)
theorem acu:∀ l:List (Str×Tok),Vals ((l.map (·.1)).map V.str) (strValues l)
 | []=>.nil
 | (z,t)::r=>.cons ⟨t,rfl⟩ (acu r)
noncomputable def rJoin (K:PySem.W.Frag):V->List V->Hp->VK->Prop:=fun x vs H Q=>∃ (z:Str) (b:Addr) (zs:List Str),x=.str z/\vs=[.ref b]/\(D1 K H b (zs.map V.str)\/C8 K H b (zs.map V.str))/\z.length<=16/\(zs.map (·.length)).sum+zs.length<=1048576/\Q (.str (Str.join z zs)) H
theorem aqB(hK:X.K=K:=by rfl):QMt X "str.join" (rJoin K):=⟨by
 subst hK;intro pins s Y H x vs v us Q I rx rv h;obtain ⟨z,b,zs,rfl,rfl,hb,h1,h2,q⟩:=h;obtain ⟨t,rfl⟩:=rx;obtain ⟨u,rfl,ru⟩:=vals1 rv
 cases ru
 have e:Txt.join z zs=Str.join z zs:=glued_eq_join z zs
 rcases hb with hb | hb
 .obtain ⟨its,r',pl,hz⟩:=I.list hb;exact join_listW pl.isList (by simpa using mW r') h1 h2 fun t' k=>⟨.str (Str.join z zs),H,I.tok k,⟨t',by rw [e]⟩,q⟩
 .obtain ⟨its,r',pl,hz⟩:=I.tuple hb;exact join_tupleW pl (by simpa using mW r') h1 h2 fun t' k=>⟨.str (Str.join z zs),H,I.tok k,⟨t',by rw [e]⟩,q⟩⟩
theorem ahW{w:World}{x y:Str}{t u:Tok}{Q:Value->Shared->Prop}(hy:(y.length==0)=false)(hsz:x.length<=sizeLine)(vW:(Txt.split x y).length<=sizeLine)(hq:∀ (l:List (Str×Tok)) (k:Nat),l.map (·.1)=Txt.split x y->Q (.ref s.heap.objs.size) { s with heap:=s.heap.push { cls:=.type "list",data:=.seq (strValues l).toArray },toks:=k }) :
  wpAny (model prog w) A (call (.builtin "str.split") [.str x t,.str y u]) Q E s:=by
 cases h1:(decide (x.length<y.length) || decide (strKind x<strKind y))
 .cases hf:(occurrences x y 0 x.length (x.length+1)).isEmpty
  .have e:Txt.split x y=partsBetween x (occurrences x y 0 x.length (x.length+1)) y.length:=(if_neg (ne_true_of_eq_false h1)).trans (if_neg (ne_true_of_eq_false hf));refine call_meets F.slot_str_split (typeIs_str _ _ _) F.entry_str_split (F.args_str_split_2 _ _) (meets_str_split_sep x y t u h1 hy hf hsz (by rw [<- e];exact vW)) ?_;show wants Q E _ { s with toks:=_,heap:=s.heap.push { cls:=.type "list",data:=.seq (strsFrom s.toks (partsBetween x (occurrences x y 0 x.length (x.length+1)) y.length)).toArray } };rw [strsFrom_eq];exact hq (numbered s.toks _) _ ((numbered_texts _ _).trans e.symm)
  .exact call_meets F.slot_str_split (typeIs_str _ _ _) F.entry_str_split (F.args_str_split_2 _ _) (meets_str_split_not_found x y t u h1 hy hf)
    (hq [(x,t)] s.toks ((if_neg (ne_true_of_eq_false h1)).trans (if_pos hf)).symm)
 .exact call_meets F.slot_str_split (typeIs_str _ _ _) F.entry_str_split (F.args_str_split_2 _ _) (meets_str_split_cannot_occur x y t u h1)
   (hq [(x,t)] s.toks (if_pos h1).symm)
noncomputable def aqC:V->List V->Hp->VK->Prop:=fun x vs H Q=>∃ (z y:Str),x=.str z/\vs=[.str y]/\(y.length==0)=false/\z.length<=sizeLine/\(Txt.split z y).length<=sizeLine/\∀ p,H p=none->Q (.ref p) (A0 H p (.lst ((Txt.split z y).map V.str)))
theorem sC : QMt X "str.split" aqC:=⟨by
 intro pins s Y H x vs v us Q I rx rv h;obtain ⟨z,y,rfl,rfl,h0,h1,h2,q⟩:=h;obtain ⟨t,rfl⟩:=rx;obtain ⟨u,rfl,ru⟩:=vals1 rv;obtain ⟨t2,rfl⟩:=ru;refine ahW h0 h1 h2 fun l k e=>⟨.ref _,_,I.lnew (ys:=(Txt.split z y).map V.str) (t':=k) (by rw [<- e];exact acu l) (by rw [A4];exact h2),rfl,q _ I.fresh⟩⟩
theorem sD{s sub:Str}{hi limit:Nat}(h1:sub.length=1):∀ (n a:Nat) (st:Array Nat×Nat),st.snd<=a->st.fst.size+n<=limit->
  (forIn (x3 a n) st (occBody s sub hi limit)).run.fst.toList=st.fst.toList++(x3 a n).filter (fun i=>decide (i+1<=hi)&&subAt s sub i)
 | 0,a,st,_,_=>by simp
 | n+1,a,st,h2,h3=>by
  rw [List.range'_succ,List.forIn_cons];unfold occBody
  by_cases hc:a+1<=hi/\subAt s sub a=true
  .rw [if_pos ⟨⟨⟨by lia,h2⟩,by lia⟩,hc.2⟩]
   have:=sD (s:=s) (hi:=hi) (limit:=limit) h1 n (a+1) (st.fst.push a,a+sub.length) (by simp only;lia) (by rw [Array.size_push];lia)
   refine this.trans ?_;rw [eZ (by rw [decide_eq_true hc.1,hc.2];rfl),Array.toList_push,i5];rfl
  .rw [if_neg (fun h=>hc ⟨by lia,h.2⟩)]
   have:=sD (s:=s) (hi:=hi) (limit:=limit) h1 n (a+1) (st.fst,st.snd) (by simp only;lia) (by simp only;lia)
   refine this.trans ?_;rw [iJ];intro h;simp at h;exact hc h
theorem sE{x:Str}{c:Nat} : subAt x ⟨#[c]⟩ i=(x.cps.toList[i]? == some c):=by
 rw [subAt_eq];show ((x.cps.toList.drop i).take 1==[c])=_;rw [cX,take1_drop,beq_iff_eq]
noncomputable def joinN (c:Nat):List Str->List Nat
 | []=>[]
 | [z]=>z.cps.toList
 | z::r=>z.cps.toList++c::joinN c r
theorem jK(c:Nat):∀ zs:List Str,(Str.join ⟨#[c]⟩ zs).cps.toList=joinN c zs
 | []=>rfl
 | [z]=>rfl
 | z::y::r=>by
  show (z++⟨#[c]⟩++Str.join ⟨#[c]⟩ (y::r)).cps.toList=z.cps.toList++c::joinN c (y::r);rw [<- jK c (y::r)];simp only [Str.cps_append,Array.toList_append]
  simp
theorem aeO{x:Str}{c:Nat} : ∀ (zs:List Str) (pre:List Nat),zs≠[]->(∀ z∈zs,c∉z.cps.toList)->x.cps.toList=pre++joinN c zs->
  partsFrom x 1 pre.length ((x3 pre.length (x.length+1-pre.length)).filter (fun i=>decide (i+1<=x.length)&&subAt x ⟨#[c]⟩ i))=zs
 | [],_,h,_,_=>absurd rfl h
 | [z],pre,_,h,e=>by
  have hx:x.length=pre.length+z.length:=by
   have:=congrArg List.length e
   simpa [joinN,Str.length] using this
  have e0:(x3 pre.length (x.length+1-pre.length)).filter (fun i=>decide (i+1<=x.length)&&subAt x ⟨#[c]⟩ i)=[]:=by
   rw [fA];intro i hi hc;simp only [List.mem_range'_1] at hi;rw [sE,e,X2 (by lia)] at hc;simp only [P3,beq_iff_eq] at hc;exact h z (K7.mpr rfl) (G2 hc.2)
  rw [e0];show [strSub x pre.length x.length]=[z]
  congr 1
  apply Str.ext'
  apply Array.toList_inj.mp
  rw [strSub_toList,e,List.drop_left];exact X4 (by show z.cps.toList.length<=_;simp [Str.length] at hx ⊢;lia)
 | z::y::r,pre,_,h,e=>by
  have e':x.cps.toList=pre++(z.cps.toList++c::joinN c (y::r)):=e;have hx:x.length=pre.length+z.length+1+(joinN c (y::r)).length:=by
   have:=congrArg List.length e'
   simp [Str.length] at this ⊢
   lia
  have hz:z.cps.toList.length=z.length:=by simp [Str.length]
  have ih:=aeO (x:=x) (c:=c) (y::r) (pre++z.cps.toList++[c]) (by simp) (fun w hw=>h w (G5 _ hw)) (by rw [e'];simp);have hl:(pre++z.cps.toList++[c]).length=pre.length+z.length+1:=by simp [Str.length];lia
  rw [hl] at ih;have e1:x3 pre.length (x.length+1-pre.length)=x3 pre.length z.length++(pre.length+z.length)::x3 (pre.length+z.length+1) (x.length+1-(pre.length+z.length+1)):=by
   rw [<- List.range'_succ,List.range'_append_1]
   congr 1
   lia
  have e0:(x3 pre.length z.length).filter (fun i=>decide (i+1<=x.length)&&subAt x ⟨#[c]⟩ i)=[]:=by
   rw [fA];intro i hi hc;simp only [List.mem_range'_1] at hi;rw [sE,e',X2 (by lia),Z9 (by lia)] at hc;simp only [P3,beq_iff_eq] at hc;exact h z G9 (G2 hc.2)
  rw [e1,o1,e0,fE,eZ]
  .show strSub x pre.length (pre.length+z.length)::partsFrom x 1 (pre.length+z.length+1) _=_;rw [ih]
   congr 1
   apply Str.ext'
   apply Array.toList_inj.mp
   rw [strSub_toList,e',List.drop_left,<- hz];rw [show pre.length+z.cps.toList.length-pre.length=z.cps.toList.length by lia,List.take_left]
  .rw [sE,e',X2 (by lia),X2 (by lia)];rw [show pre.length+z.length-pre.length-z.cps.toList.length=0 by lia,decide_eq_true (by lia)]
   simp
theorem sF{c:Nat}(hc:c<256)(h0:zs≠[])(h:∀ z∈zs,c∉z.cps.toList):Txt.split (Str.join ⟨#[c]⟩ zs) ⟨#[c]⟩=zs:=by
 have h1:occurrences (Str.join ⟨#[c]⟩ zs) ⟨#[c]⟩ 0 (Str.join ⟨#[c]⟩ zs).length ((Str.join ⟨#[c]⟩ zs).length+1)=(x3 0 ((Str.join ⟨#[c]⟩ zs).length+1-0)).filter (fun i=>decide (i+1<=(Str.join ⟨#[c]⟩ zs).length)&&subAt (Str.join ⟨#[c]⟩ zs) ⟨#[c]⟩ i):=by
  rw [occ_eq,sD rfl _ _ _ (C2 0) (by show 0+_<=_;lia)];rfl
 have h2:=aeO (x:=Str.join ⟨#[c]⟩ zs) (c:=c) zs [] h0 h (by rw [jK];rfl);rw [T7,<- h1] at h2;have h3:partsBetween (Str.join ⟨#[c]⟩ zs) (occurrences (Str.join ⟨#[c]⟩ zs) ⟨#[c]⟩ 0 (Str.join ⟨#[c]⟩ zs).length ((Str.join ⟨#[c]⟩ zs).length+1)) 1=zs:=by rw [partsBetween_eq];exact h2
 have key:∀ x:Str,(occurrences x ⟨#[c]⟩ 0 x.length (x.length+1)).isEmpty=true->partsBetween x (occurrences x ⟨#[c]⟩ 0 x.length (x.length+1)) 1=[x]:=fun x hx=>by
  rw [List.isEmpty_iff.mp hx];show [strSub x 0 x.length]=[x];rw [sub_whole]
 unfold Txt.split
 split
 .rename_i hk
  have pG:(Str.join ⟨#[c]⟩ zs).length=0:=by
   have e1:PySem.Builtin.Str.strKind (⟨#[c]⟩:Str)=1:=by unfold PySem.Builtin.Str.strKind;simp [hc]
   have e2:1<=PySem.Builtin.Str.strKind (Str.join ⟨#[c]⟩ zs):=by unfold PySem.Builtin.Str.strKind;split <;> (try split) <;> lia
   rw [e1] at hk;simp at hk
   have:(⟨#[c]⟩:Str).length=1:=rfl
   lia
  have hn:occurrences (Str.join ⟨#[c]⟩ zs) ⟨#[c]⟩ 0 (Str.join ⟨#[c]⟩ zs).length ((Str.join ⟨#[c]⟩ zs).length+1)=[]:=by
   rw [h1,pG,fA];intro i _ h;simp at h
  rw [<- key _ (by rw [hn];rfl)];exact h3
 .split
  .rename_i h5
   rw [<- key _ h5];exact h3
  .exact h3
end L2
set_option maxRecDepth 100000
namespace L2
open PySem PySem.Spec PyProof.Rows
theorem acz:entryFor table "dict.update.loop"=some Builtin.«dict.update.loop»:=entryFor_of_tree (by kernel_rfl)
theorem mX:plainId "dict.update.loop"=true:=by decide +kernel
section
variable {prog:Program} {w:World} {A:Around} {R:Result->Shared->Prop} {I:Addr} {fp wr:List Addr} {G:Array GenState->Array GenState->Prop} {n:Nat} {P:Nat->Value->Prop} {St:Nat->Shared->Prop}
variable {K:Type} [DecidableEq K] {knd:KeyKind prog w K}
noncomputable def j6 (ks:Nat->K) (vl:Nat->Value):Nat->List (K×Value)
 | 0=>[]
 | i+1=>stored (j6 ks vl i) (ks i) (vl i)
theorem aea(ks:Nat->K)(vl:Nat->Value):∀ i,(j6 ks vl i).length<=i
 | 0=>C2 _
 | i+1=>by
  have h1:=aea ks vl i;have h2:(stored (j6 ks vl i) (ks i) (vl i)).length<=(j6 ks vl i).length+1:=by
   unfold stored
   split
   .rw [A4];lia
   .rw [E3];exact C2 _
  show (stored (j6 ks vl i) (ks i) (vl i)).length<=i+1;lia
theorem ajf(W:WalksS prog w A.in1 I fp wr G n P St)(d:Addr)(v0:d∉fp)(tp:Nat->Addr)(ky vl:Nat->Value)(ks:Nat->K)(hP:∀ i v,P i v->v=.ref (tp i))(hk:∀ i,i<n->knd.is (ks i) (ky i)=true)(ht:∀ i,i<n->tp i≠d/\tp i∉wr)(hn:n<=sizeLine) :
  ∀ (k i:Nat) (s:Shared) (j:Int) (t:Tok),n-i=k->i<=n->St i s->(∀ i,i<n->IsTup s.heap (tp i) #[ky i,vl i])->s.heap.DictOf knd d (j6 ks vl i)->
   (∀ s',Moved (d::wr) G s s'->s'.heap.DictOf knd d (j6 ks vl n)->R (.ok (.ret .none)) s')->
   codeAny (model prog w) A (.builtin "dict.update.loop" ⟨[.ref d,.ref I,.int j t,.none],[]⟩) R s:=by
 have hdw:d∉wr:=fun h=>v0 (W.sub _ h)
 have kT:∀ b∈wr,b∈d::wr:=fun b hb=>G5 _ hb
 intro k
 induction k with
 | zero=>
  intro i s j t vV hi g9 hT hD hR;have L5:i=n:=by lia
  subst L5;refine codeAny_builtin acz ?_;rw [Around.under_plainId mX _];show wpAny _ A.in1 (pyNext (.ref I) >>= _) _ _ s;refine wpAny_bind (W.done s _ _ g9 fun s' hm=>?_);have e0:Builtin.Dict.addKeywords d []=pure ():=rfl;show wpAny _ A.in1 (Builtin.Dict.addKeywords d [] >>= fun _=>ret Value.none) _ _ s';rw [e0];refine wpAny_bind (wpAny_pure (wpAny_pure (hR s' (hm.mono kT) ?_)));obtain ⟨o,es,ep,ho,rest⟩:=hD;exact ⟨o,es,ep,hm.heap d _ hdw ho,rest⟩
 | succ k ih=>
  intro i s j t vV hi g9 hT hD hR;have C1:i<n:=by lia
  refine codeAny_builtin acz ?_;rw [Around.under_plainId mX _];show wpAny _ A.in1 (pyNext (.ref I) >>= _) _ _ s;refine wpAny_bind (W.item i s _ _ C1 g9 fun v s' hv vX hm=>?_);obtain rfl:=hP i v hv;have hD':s'.heap.DictOf knd d (j6 ks vl i):=by
   obtain ⟨o,es,ep,ho,rest⟩:=hD;exact ⟨o,es,ep,hm.heap d _ hdw ho,rest⟩
  have hT':∀ i,i<n->IsTup s'.heap (tp i) #[ky i,vl i]:=fun i hi=>by
   obtain ⟨o,ho,rest⟩:=hT i hi;exact ⟨o,hm.heap _ _ (ht i hi).2 ho,rest⟩
  have hTi:=hT' i C1;obtain ⟨o,ho,vL,n0,hU⟩:=id hTi;refine wpAny_bind (wpAny_holding (wpAny_bind (wpAny_tryCatch ?_)));unfold Builtin.Dict.pairItems;refine wpAny_bind (wpAny_typeOf hTi.typeIs ?_);rw [if_pos (by decide)];refine wpAny_bind (wpAny_seqItems ho hU ?_);refine wpAny_pure ?_;show wpAny _ _ (holding [ky i,vl i] (dictSet d (ky i) (vl i))) _ _ s';have hl:=aea ks vl i;refine wpAny_holding (wpAny_dictSet_pairs (hk i C1) hD' (fun h' hD2 vY=>?_) (by lia));refine wpAny_pure ⟨plainId_quiet mX _,ih (i+1) _ (j+1) 0 (by lia) C1 (W.frame _ s' _ _ vX (Nat.le_succ _) fun b hb o e=>?_) (fun i hi=>?_) hD2 fun s'' hm'' hD''=>?_⟩
  .rw [vY.2 b (fun h:b=d=>v0 (by rw [<- h];exact hb))];exact e
  .obtain ⟨o,ho,rest⟩:=hT' i hi;exact ⟨o,(vY.2 _ (ht i hi).1).trans ho,rest⟩
  .refine hR s'' (Moved.trans W.gtrans ((hm.mono kT).then_heap (Nat.le_succ _) fun b o hb e=>?_) hm'') hD'';rw [vY.2 b (fun h:b=d=>hb (by rw [h];exact G9))];exact e
end
theorem ahX:typeLookup (.type "list") "__getattribute__"=pure (some (.builtin "list.__getattribute__")):=by rw [typeLookup_type,builtinLookup_eq_fast];kernel_rfl
theorem afQ:typeLookup (.type "list") "keys"=pure none:=by rw [typeLookup_type,builtinLookup_eq_fast];kernel_rfl
theorem afR:typeLookup (.type "list") "__getattr__"=pure none:=by rw [typeLookup_type,builtinLookup_eq_fast];kernel_rfl
theorem afS{w:World}{l:Addr}{xs:Array Value}{Q:Option Value->Shared->Prop}(hx:s.heap.get? l=some o)(hc:o.cls=.type "list")(kU:o.data=.seq xs k)(hd:o.dict=none)(hA:A.handled=none)(h:∀ h' tk,(∀ b o,s.heap.get? b=some o->h'.get? b=some o)->Q none { s with heap:=h',toks:=tk }):wpAny (model prog w) A (getAttr? (.ref l) "keys") Q E s:=by
 obtain ⟨c,dct,dat,sl⟩:=o;simp only at hc kU hd;subst hc kU hd;obtain ⟨hp,g,d,tk,os⟩:=s;have hT:∀ tk',(⟨hp,g,d,tk',os⟩:Shared).TypeIs (.ref l) "list":=fun _=>⟨_,hx,rfl⟩
 have f4:=F.slot_list_getattribute.bind (.ref l);unfold getAttr? getAttrBy? getAttrBy;refine wpAny_bind (wpAny_mkText (wpAny_bind (wpAny_attempt (wpAny_holding (wpAny_bind (wpAny_typeOf (hT _) ?_))))));rw [ahX];refine wpAny_bind (wpAny_pure ?_);show wpAny _ _ (getAttrByItsOwn _ _ _ _ _ _) _ _ _;unfold getAttrByItsOwn;refine wpAny_bind (wpAny_pure ?_);refine wpAny_bind (wpAny_attempt (wpAny_holding ?_));show wpAny _ _ (boundAndCalled _ _ _) _ _ _;unfold boundAndCalled;rw [f4];refine wpAny_bind (wpAny_pure ?_);refine call_meets F.slot_list_getattribute (hT _) am_entry_list_getattribute (F.args_list_getattribute_2 _ _) (meets_getattribute_miss_list l xs k sl "keys" _ afQ (by decide +kernel) (by decide +kernel)) ⟨hx,hA,fun h' tk' e new=>?_⟩;obtain ⟨t',u',he⟩:=new.there;have hTe:∀ tk',(⟨h',g,d,tk',os⟩:Shared).TypeIs (.ref e) "AttributeError":=fun _=>⟨_,he,rfl⟩
 show wpAny _ _ (getattributeRaised _ _ _ _ _ _ _) _ _ _;unfold getattributeRaised;refine wpAny_bind (wpAny_isInstance (hTe _) sub_AttributeError ?_);rw [if_pos rfl];show wpAny _ _ (hookBehind _ _ >>= _) _ _ _;unfold hookBehind;rw [if_neg (by decide),afR];refine wpAny_bind (wpAny_pure ?_);unfold hookOrError attributeErrorLeaves;show wpAny _ _ (if (!false)=true then _ else _) _ _ _;rw [if_pos (by decide)];refine wpAny_bind (wpAny_throw ?_);show wpAny _ _ (isInstance _ _ >>= _) _ _ _;refine wpAny_bind (wpAny_isInstance (hTe _) sub_AttributeError ?_);rw [if_pos rfl];exact wpAny_pure (h h' tk' new.keeps)
section
variable {prog:Program} {w:World} {A:Around} {E:Value->Shared->Prop} {s:Shared} {K:Type} [DecidableEq K] {knd:KeyKind prog w K}
theorem aeb{l:Addr}{Q:Value->Shared->Prop}(hl:PlainL s.heap l items)(hA:A.handled=none)(tp:Nat->Addr)(ky vl:Nat->Value)(ks:Nat->K)(hP:∀ (i:Nat) (v:Value),items[i]?=some v->v=Value.ref (tp i))(hk:∀ i,i<items.size->knd.is (ks i) (ky i)=true)(hT:∀ i,i<items.size->IsTup s.heap (tp i) #[ky i,vl i])(hn:items.size<=sizeLine)(h:∀ h' tk,(∀ b o,s.heap.get? b=some o->h'.get? b=some o)->h'.DictOf knd s.heap.objs.size (j6 ks vl items.size)->Q (.ref s.heap.objs.size) { s with heap:=h',toks:=tk }) :
  wpAny (model prog w) A (call (.type "dict") [.ref l]) Q E s:=by
 refine callType_codes (Q₁:=fun obj zw=>obj=.ref s.heap.objs.size/\zw={ s with heap:=s.heap.push { cls:=.type "dict",data:=.dict #[] } }) F.kt_called_dict (F.kt_typeCall_dict_1 _) F.entry_dict_init (kt_code_dict_new _ ⟨rfl,rfl⟩) ?_;rintro obj zw ⟨rfl,rfl⟩;have O9:(s.heap.push { cls:=.type "dict",data:=.dict #[] }).DictOf knd s.heap.objs.size []:=Heap.DictOf.new s.heap;obtain ⟨ol,nl,hol,vZ,hld,cH⟩:=hl;have eB:(s.heap.push { cls:=.type "dict",data:=.dict #[] }).get? l=some ol:=Heap.get?_push_of_some _ hol;have C1:l<s.heap.objs.size:=Heap.lt_size hol;refine ⟨O9.typeIs,F.args_dict_init_2 _ _,?_⟩;unfold Builtin.«dict.__init__»;refine wpAny_bind ?_;unfold Builtin.Dict.selfAndRest;refine wpAny_bind (wpAny_notOrdered_dict O9.typeIs ?_);show wpAny _ _ (pure (s.heap.objs.size,[Value.ref l])) _ _ _;refine wpAny_pure ?_;show wpAny _ _ (Builtin.Dict.updateFrom "dict.__init__" s.heap.objs.size (.ref l) [] .none) _ _ _;unfold Builtin.Dict.updateFrom;refine wpAny_bind (wpAny_typeOf (T:="list") ⟨_,eB,vZ⟩ ?_);rw [if_pos (by decide)];refine wpAny_bind (afS eB vZ cH hld (by simp [hA]) fun h2 tk2 keep2=>?_);rw [if_pos (show (none:Option Value).isNone=true from rfl)];refine wpAny_bind (wpAny_rule ?_);have W4:h2.IsList l items:=⟨ol,keep2 _ _ eB,vZ,nl,cH⟩
 refine wpAny_bind (wpAny_pyIter_list W4 ?_);obtain ⟨od,es,ep,hU,restd⟩:=O9;have aN:s.heap.objs.size<h2.objs.size:=Heap.lt_size (keep2 _ _ hU);have G4:l≠h2.objs.size:=K4 (Nat.lt_trans C1 aN);have hh:A.in1.in1.handled=none:=by simp [hA]
 have v0:s.heap.objs.size∉[h2.objs.size,l]:=by
  simp only [D7,O2,or_false,not_or];exact ⟨K4 aN,x4 C1⟩
 have cI:∀ i,i<items.size->tp i<s.heap.objs.size:=fun i hi=>by
  obtain ⟨o,ho,_⟩:=hT i hi;exact Heap.lt_size ho
 refine wpAny_pure ⟨plainId_quiet mX _,ajf ((Walks.list hh _ l G4 items).toS) s.heap.objs.size v0 tp ky vl ks hP hk (fun i hi=>⟨K4 (cI i hi),?_⟩) hn (items.size-0) 0 _ 0 0 (by lia) (K8 _) ⟨⟨_,Heap.get?_push_size _ rfl,rfl,rfl⟩,W4.push _⟩ (fun i hi=>?_) ?_ fun s' hm hD'=>?_⟩
 .simp only [D7,O2,or_false];exact K4 (Nat.lt_trans (cI i hi) aN)
 .obtain ⟨o,ho,rest⟩:=hT i hi;exact ⟨o,Heap.get?_push_of_some _ (keep2 _ _ (Heap.get?_push_of_some _ ho)),rest⟩
 .exact ⟨od,es,ep,Heap.get?_push_of_some _ (keep2 _ _ hU),restd⟩
 .obtain ⟨h',g',d',tk',os'⟩:=s';have eg:g'=s.gens:=hm.gens;have ed:d'=s.drawn:=hm.drawn;have eo:os'=s.os:=hm.os;subst eg ed eo;refine ⟨rfl,h h' tk' (fun b o hb=>hm.heap b o ?_ (Heap.get?_push_of_some _ (keep2 _ _ (Heap.get?_push_of_some _ hb)))) hD'⟩;have kW:b<s.heap.objs.size:=Heap.lt_size hb;simp only [D7,O2,or_false,not_or];exact ⟨K4 kW,K4 (Nat.lt_trans kW aN)⟩
end
noncomputable def aqD (K:PySem.W.Frag) (calm:Bool):List V->Hp->VK->Prop:=fun xs H Q=>calm=true/\∃ (p:Addr) (ts:List Addr) (kxs:List (B5×V)),xs=[.ref p]/\D1 K H p (ts.map V.ref)/\Paired (fun t kx=>C8 K H t [kV kx.1,kx.2]) ts kxs/\∀ d,H d=none->Q (.ref d) (A0 H d (.dK (X8 [] kxs)))
theorem ahf(I:Inv X pins Y H s):∀ {ts:List Addr} {kxs:List (B5×V)},Paired (fun t kx=>C8 X.K H t [kV kx.1,kx.2]) ts kxs->
  ∃ ws:List (Value×Value),Paired (fun t w=>IsTup s.heap t #[w.1,w.2]) ts ws/\Paired (fun (kx:B5×V) (w:Value×Value)=>keyIs kx.1 w.1=true/\RelV kx.2 w.2) kxs ws
 | _,_,.nil=>⟨[],.nil,.nil⟩
 | _,_,.cons h t=>by
  obtain ⟨ws,h1,h2⟩:=ahf I t;obtain ⟨its,r,ht,_⟩:=I.tuple h;obtain ⟨u1,u2,rfl,r1,r2⟩:=vals2 r;exact ⟨(u1,u2)::ws,.cons ht h1,.cons ⟨kV_is (P:=X.prog) (w:=X.w) r1,r2⟩ h2⟩
theorem ajg:∀ {ts:List Addr} {us:List Value},Vals (ts.map V.ref) us->us=ts.map Value.ref
 | [],_,.nil=>rfl
 | t::ts,_::_,.cons h r=>by
  rw [D0,<- ajg r];cases h;rfl
theorem anK(hK:X.K=K:=by rfl)(hc:X.calm=calm:=by rfl):QCall X (.type "dict") (aqD K calm):=⟨by
 subst hK;intro pins s Y H xs us Q I r h;obtain ⟨Q4,p,ts,kxs,rfl,hp,hP,q⟩:=h;obtain ⟨u,rfl,rx⟩:=vals1 r
 cases rx
 obtain ⟨its,r',pl,hz⟩:=I.list hp;have aO:=ajg r';obtain ⟨ws,h1,h2⟩:=ahf I hP;have wA:ts.length=ws.length:=Paired.length h1;have W4:kxs.length=ws.length:=Paired.length h2;rw [A4] at hz;have hsz:its.toArray.size=ts.length:=by rw [J7,aO,A4]
 have aP:∀ i,i<=ts.length->KV (X8 [] (kxs.take i)) (j6 (fun i=>(kxs.getD i (Sum.inl 0,.non)).1) (fun i=>(ws.getD i (.none,.none)).2) i):=by
  intro i
  induction i with
  | zero=>intro _;exact .nil
  | succ i ih=>
   intro hi;have wB:i<kxs.length:=by lia
   obtain ⟨w',hw,hr⟩:=Paired.at h2 (G8 wB);have e1:X8 [] (kxs.take (i+1))=putK (X8 [] (kxs.take i)) kxs[i].1 kxs[i].2:=by
    unfold X8;rw [R4,G8 wB,fL,o5];rfl
   rw [e1];show KV _ (stored _ (kxs.getD i (Sum.inl 0,.non)).1 (ws.getD i (.none,.none)).2);have e2:(kxs.getD i (Sum.inl 0,.non))=kxs[i]:=by rw [X3,G8 wB];rfl
   have e3:(ws.getD i (.none,.none))=w':=by rw [X3,hw];rfl
   rw [e2,e3];exact (ih (by lia)).put _ hr.2
 refine aeb (knd:=N3 X.prog X.w) pl (I.ok.hd (hc.trans Q4)) (fun i=>ts.getD i 0) (fun i=>(ws.getD i (.none,.none)).1) (fun i=>(ws.getD i (.none,.none)).2) (fun i=>(kxs.getD i (Sum.inl 0,.non)).1) (fun i v hv=>?_) (fun i hi=>?_) (fun i hi=>?_) (by lia) fun h' tk keep hD=>?_
 .rw [<- Array.getElem?_toList,aO,M0] at hv;rw [X3];cases e:ts[i]? with
  | none=>rw [e] at hv;cases hv
  | some t=>rw [e] at hv;cases hv;rfl
 .obtain ⟨w',hw,hr⟩:=Paired.at h2 (G8 (show i<kxs.length by lia));have e2:(kxs.getD i (Sum.inl 0,.non))=kxs[i]'(by lia):=by rw [X3,G8 (show i<kxs.length by lia)];rfl
  have e3:(ws.getD i (.none,.none))=w':=by rw [X3,hw];rfl
  rw [e2,e3];exact hr.1
 .have kS:i<ts.length:=by lia
  obtain ⟨w',hw,hr⟩:=Paired.at h1 (G8 kS);have e3:(ws.getD i (.none,.none))=w':=by rw [X3,hw];rfl
  have e4:ts.getD i 0=ts[i]:=by rw [X3,G8 kS];rfl
  rw [e3,e4];exact hr
 .have hD2:KV (X8 [] kxs) (j6 (fun i=>(kxs.getD i (Sum.inl 0,.non)).1) (fun i=>(ws.getD i (.none,.none)).2) its.toArray.size):=by
   have:=aP ts.length (C2 _)
   rw [X4 (by lia)] at this;rw [hsz];exact this
  have A9:=zM kxs [];rw [T7] at A9;exact ⟨.ref s.heap.objs.size,_,I.laid (t':=tk) keep (C2 _) (rF (by lia) (beq_eq_false_iff_ne.mpr (Ne.symm (K4 I.big))) hD2 hD),rfl,q _ (I.hok.fresh (C2 _))⟩⟩
end L2
set_option maxRecDepth 100000
namespace L2
open PySem PySem.Spec PyProof.Rows
section
variable {X:Cx} {pins:List (Addr×Obj)} {Y:St} {H:Hp} {s:Shared} {h':Heap}
theorem Inv.turnNew{ch:List Addr}{o:HO}(I:Inv X pins Y H s)(hf:∀ b∈ch,FpOk X pins H b)(k:∀ b u,b∉ch->s.heap.get? b=some u->h'.get? b=some u)(hT:s.heap.objs.size<=T)(new:ObjOk X.prog X.w (A0 H T o) h' T o):Inv X pins Y (A0 H T o) { s with heap:=h',toks:=t' }:=by
 have hn:H T=none:=I.hok.fresh hT;have nch:∀ b u,H b=some u->b∉ch:=fun b u e z=>by rw [(hf b z).1] at e;cases e
 have neT:∀ b u,s.heap.get? b=some u->b≠T:=fun b u e=>K4 (Q6 (Heap.lt_size e) hT)
 refine I.step (g':=s.gens) (d':=s.drawn) (ch:=ch) (fun b hb=>?_) (fun b u _ _ hc e _=>k b u hc e) (fun b u _ _ hc e _=>⟨u.slots,k b u hc e⟩) (fun b u _ e n=>by rw [A3 (neT b u e)];exact n)
  (fun b u hc e=>⟨u,k b u hc e⟩) (fun b xs e=>C4 e hn) (fun b ob u e=>C4 e hn) (fun b ps e=>⟨#[],by rw [C4 e hn];simp⟩) (fun m hm=>?_) (fun b u e=>?_) I.bare
 .obtain ⟨f0,f1,f2,f3,f4,f5⟩:=hf b hb;exact ⟨f3,f1,f4,f5⟩
 .obtain ⟨ob,es,ep,ho,r⟩:=hm;exact ⟨ob,es,ep,k _ ob (fun z=>(hf _ z).2.1 rfl) ho,r⟩
 .by_cases hb:b=T
  .subst hb;rw [A1] at e;cases e;exact new
  .rw [A3 hb] at e;refine (I.hok b u e).stay (fun c v hc q=>k c v ?_ q) (fun c q=>C4 q hn) fun c xs q=>C4 q hn
   rcases hc with z | z
   .rw [z];exact nch b u e
   .exact nch c _ z
end
theorem g2{a b:Nat}(h:a<b\/b<a):(show Addr from a)≠(show Addr from b):=fun e=>by
 have e:a=b:=e;lia
noncomputable def mY (l1 l2 : Addr) : It :=
  ⟨fun i H => ∃ xs ys x y, H l1 = some (.lst xs) /\ H l2 = some (.lst ys) /\ xs[i]? = some x /\ ys[i]? = some y,
   fun i H v H' => ∃ t xs ys x y, H l1 = some (.lst xs) /\ H l2 = some (.lst ys) /\ xs[i]? = some x /\ ys[i]? = some y /\ H t = none /\ v = .ref t /\ H' = A0 H t (.tup [x, y]),
   fun i H => ∃ xs ys, H l1 = some (.lst xs) /\ H l2 = some (.lst ys) /\ (xs.length <= i \/ ys.length <= i)⟩
theorem alj{P:Program}{w:World}{pos:Pos}(z TI TO i1 i2 l1 l2:Addr)(a1:TI≠z)(a2:TO≠z)(a3:i1≠z)(a4:i2≠z)(a5:TI≠TO)(a6:TI≠i1)(a7:TI≠i2)(a8:TO≠i1)(a9:TO≠i2)(a10:i1≠i2) :
  Turn P w K (.Tuple elts x1 pos) (mY l1 l2) [z,TO,i1,i2,TI] z (fun i h=>IsZip h z TI TO .none/\IsPair h TI (.ref i1) (.ref i2)/\(∃ a b,IsPair h TO a b)/\h.IsListIter i1 l1 i/\h.IsListIter i2 l2 i) where
 mem:=by simp
 obj:=fun i h ⟨hz,hTI,⟨a,b,hTO⟩,h1,h2⟩ c hc=>by
  have e:c=z\/c=TO\/c=i1\/c=i2\/c=TI:=by simpa using hc
  rcases e with rfl | rfl | rfl | rfl | rfl
  .exact ⟨_,hz,fun v q=>by cases q⟩
  .exact ⟨_,hTO,fun v q=>by cases q⟩
  .obtain ⟨o,e,c,d⟩:=h1;exact ⟨o,e,fun v z=>by rw [d] at z;cases z⟩
  .obtain ⟨o,e,c,d⟩:=h2;exact ⟨o,e,fun v z=>by rw [d] at z;cases z⟩
  .exact ⟨_,hTI,fun v q=>by cases q⟩
 keep:=fun i h h' ⟨hz,hTI,⟨a,b,hTO⟩,h1,h2⟩ k=>⟨k z (by simp) _ hz,k TI (by simp) _ hTI,⟨a,b,k TO (by simp) _ hTO⟩,h1.at fun o e=>k i1 (by simp) o e,h2.at fun o e=>k i2 (by simp) o e⟩
 item:=by
  intro X hP hw hK hc i pins s Y H E I hf ⟨hz,hTI,⟨a,b,hTO⟩,h1,h2⟩ hg;subst hP hw hK;obtain ⟨xs,ys,x,y,e1,e2,hx,hy⟩:=hg;obtain ⟨its1,U4,p1,_⟩:=I.list (D1.of (K:=X.K) e1);obtain ⟨its2,hV,p2,_⟩:=I.list (D1.of (K:=X.K) e2);obtain ⟨u1,C6,r1⟩:=U4.get hx;obtain ⟨u2,hu2,r2⟩:=hV.get hy;have nl:∀ c∈[z,TO,i1,i2,TI],l1≠c/\l2≠c:=fun c hc=>⟨fun q=>(by rw [q,(hf c hc).1] at e1;cases e1),fun q=>(by rw [q,(hf c hc).1] at e2;cases e2)⟩
  have D:ZipApart z TI TO i1 i2 l1 l2:=⟨a1,a2,a3,a4,a5,a6,a7,a8,a9,a10,(nl z (by simp)).1,(nl TO (by simp)).1,(nl i1 (by simp)).1,(nl i2 (by simp)).1,(nl z (by simp)).2,(nl TO (by simp)).2,(nl i1 (by simp)).2,(nl i2 (by simp)).2⟩
  refine wpAny_pyNext_zip_item D hz hTI hTO h1 h2 p1.isList p2.isList (x:=u1) (y:=u2) (by simpa using C6) (by simpa using hu2) fun h' b1 b2 b3 b4 b5 b6 b7=>⟨_,rfl,wpAny_letOwnedTupleGo_zip b1 fun h2' c1 c2=>?_⟩
  have pH:z<s.heap.objs.size:=Heap.lt_size hz;have up:∀ c o,c≠z->h'.get? c=some o->h2'.get? c=some o:=fun c o hc e=>(c2.2 c hc).trans e
  have nT:∀ c∈[z,TO,i1,i2,TI],c≠s.heap.objs.size:=fun c hc=>by
   have e:c=z\/c=TO\/c=i1\/c=i2\/c=TI:=by simpa using hc
   refine K4 ?_
   rcases e with rfl | rfl | rfl | rfl | rfl
   .exact Heap.lt_size hz
   .exact Heap.lt_size hTO
   .obtain ⟨o,e,_⟩:=h1;exact Heap.lt_size e
   .obtain ⟨o,e,_⟩:=h2;exact Heap.lt_size e
   .exact Heap.lt_size hTI
  have hT:=up _ _ (x4 pH) b5;refine ⟨.ref s.heap.objs.size,A0 H s.heap.objs.size (.tup [x,y]),I.turnNew (t':=s.toks) (ch:=[z,TO,i1,i2,TI]) hf (fun c u hc e=>?_) (C2 _) ⟨by show 2<=sizeLine;decide,[u1,u2],.cons r1 (.cons r2 .nil),?_⟩,rfl,⟨_,xs,ys,x,y,e1,e2,hx,hy,I.fresh,rfl,rfl⟩,
   ⟨c1,up _ _ a1 (b7 _ _ a1 a5 a6 a7 hTI),⟨_,_,up _ _ a2 b2⟩,b3.at fun o e=>up _ o a3 e,b4.at fun o e=>up _ o a4 e⟩,fun c hc=>by rw [A3 (nT c hc)];exact (hf c hc).1⟩
  .have q:c≠z/\c≠TO/\c≠i1/\c≠i2:=by
    refine ⟨fun q=>hc (by simp [q]),fun q=>hc (by simp [q]),fun q=>hc (by simp [q]),fun q=>hc (by simp [q])⟩
   exact up c u q.1 (b7 c u q.1 q.2.1 q.2.2.1 q.2.2.2 e)
  .exact ⟨_,hT,rfl,_,rfl⟩
 done:=by
  intro X hP hw hK hc i pins s Y H E I hf ⟨hz,hTI,⟨a,b,hTO⟩,h1,h2⟩ hg;subst hP hw hK;obtain ⟨xs,ys,e1,e2,eC⟩:=hg;obtain ⟨its1,U4,p1,_⟩:=I.list (D1.of (K:=X.K) e1);obtain ⟨its2,hV,p2,_⟩:=I.list (D1.of (K:=X.K) e2);have q1:=U4.length;have q2:=hV.length;have nl:∀ c∈[z,TO,i1,i2,TI],l1≠c/\l2≠c:=fun c hc=>⟨fun q=>(by rw [q,(hf c hc).1] at e1;cases e1),fun q=>(by rw [q,(hf c hc).1] at e2;cases e2)⟩
  have D:ZipApart z TI TO i1 i2 l1 l2:=⟨a1,a2,a3,a4,a5,a6,a7,a8,a9,a10,(nl z (by simp)).1,(nl TO (by simp)).1,(nl i1 (by simp)).1,(nl i2 (by simp)).1,(nl z (by simp)).2,(nl TO (by simp)).2,(nl i1 (by simp)).2,(nl i2 (by simp)).2⟩
  refine wpAny_pyNext_zip_end (I.ok.hd hc) D hz hTI hTO h1 h2 p1.isList p2.isList (by rcases eC with q | q <;> simp <;> lia) fun h' k=>⟨rfl,?_⟩
  refine I.step (h':=h') (t':=s.toks) (g':=s.gens) (d':=s.drawn) (ch:=[z,TO,i1,i2,TI]) (fun b hb=>?_) (fun b u _ _ hc e _=>?_) (fun b u _ _ hc e _=>⟨u.slots,?_⟩) (fun b u _ e n=>n)
   (fun b u hc e=>⟨u,?_⟩) (fun b xs e=>e) (fun b ob u e=>e) (fun b ps e=>⟨#[],by rw [e];simp⟩) (fun m hm=>?_) (fun b u e=>?_) I.bare
  .obtain ⟨f0,f1,f2,f3,f4,f5⟩:=hf b hb;exact ⟨f3,f1,f4,f5⟩
  .exact k b u (fun q=>hc (by simp [q])) (fun q=>hc (by simp [q])) (fun q=>hc (by simp [q])) (fun q=>hc (by simp [q])) e
  .exact k b u (fun q=>hc (by simp [q])) (fun q=>hc (by simp [q])) (fun q=>hc (by simp [q])) (fun q=>hc (by simp [q])) e
  .exact k b u (fun q=>hc (by simp [q])) (fun q=>hc (by simp [q])) (fun q=>hc (by simp [q])) (fun q=>hc (by simp [q])) e
  .obtain ⟨ob,es,ep,ho,r⟩:=hm;have nL:∀ c∈[z,TO,i1,i2,TI],X.env.locals≠c:=fun c hc q=>(hf c hc).2.1 q.symm
   exact ⟨ob,es,ep,k _ ob (nL z (by simp)) (nL TO (by simp)) (nL i1 (by simp)) (nL i2 (by simp)) ho,r⟩
  .have nch:∀ b u,H b=some u->∀ c∈[z,TO,i1,i2,TI],b≠c:=fun b u e c hc q=>by rw [q,(hf c hc).1] at e;cases e
   refine (I.hok b u e).stay (fun c v hc q=>?_) (fun c q=>q) fun c xs q=>q
   have:∀ d∈[z,TO,i1,i2,TI],c≠d:=by
    rcases hc with z | z
    .rw [z];exact nch b u e
    .exact nch c _ z
   exact k c v (this z (by simp)) (this TO (by simp)) (this i1 (by simp)) (this i2 (by simp)) q
 self:=fun _ _ _ _ _ st h=>wpAny_pyIter_zip st.1 h
section
variable {X:Cx}
noncomputable def iZip (ta:TA):TI:=fun Y H R=>ta Y H fun vs H1=>∃ (l1 l2:Addr) (xs ys:List V),vs=[.ref l1,.ref l2]/\H1 l1=some (.lst xs)/\H1 l2=some (.lst ys)/\R (mY l1 l2) H1
theorem aqE{a b:Expr}{p pos:Pos}(hg:Gl X "zip")(hm:X.mg "zip"=none)(ha:PA X [a,b] ta)(h1:J2 a=false:=by rfl)(h2:J2 b=false:=by rfl) :
  PI X (.Tuple elts x1 tpos) (.Call (.Name "zip" p) [a,b] [] pos) (iZip ta):=by
 intro pins s Y H R I h;refine Call_ (x8 I hg hm boot_zip (PyProof.Rows.callWith_type1 (A8 (ha pos pins s Y H _ I h) fun us s1 ⟨vs,H1,I1,r1,q1⟩=>?_) (L8 h1) (by rw [L8 h2];rfl)));obtain ⟨l1,l2,xs,ys,rfl,e1,e2,q⟩:=q1;obtain ⟨u1,u2,rfl,eD,wC⟩:=vals2 r1
 cases eD
 cases wC
 obtain ⟨its1,U4,p1,_⟩:=I1.list (D1.of (K:=X.K) e1);obtain ⟨its2,hV,p2,_⟩:=I1.list (D1.of (K:=X.K) e2);refine call_zip_2 p1.isList p2.isList fun h' z1 z2 z3 z4 z5 z6 z7=>wpAny_pyIter_zip z1 ?_
 refine ⟨s1.heap.objs.size+4,[s1.heap.objs.size+4,s1.heap.objs.size+3,s1.heap.objs.size,s1.heap.objs.size+1,s1.heap.objs.size+2],_,_,H1,rfl,I1.kept (t':=s1.toks) z7,
  alj _ (s1.heap.objs.size+2) (s1.heap.objs.size+3) s1.heap.objs.size (s1.heap.objs.size+1) l1 l2 (g2 (by lia)) (g2 (by lia)) (g2 (by lia)) (g2 (by lia)) (g2 (by lia)) (g2 (by lia)) (g2 (by lia)) (g2 (by lia)) (g2 (by lia)) (g2 (by lia)),⟨z1,z2,⟨_,_,z3⟩,z4,z5⟩,fun b hb=>?_,q⟩
 have M5:s1.heap.objs.size<=b:=by
  have e:b=s1.heap.objs.size+4\/b=s1.heap.objs.size+3\/b=s1.heap.objs.size\/b=s1.heap.objs.size+1\/b=s1.heap.objs.size+2:=by simpa using hb
  rcases e with rfl | rfl | rfl | rfl | rfl
  .exact bE _ _
  .exact bE _ _
  .exact C2 _
  .exact bE _ _
  .exact bE _ _
 exact I1.fpOk M5 (I1.hok.fresh M5)
theorem aqF{a b:Expr}{p pos:Pos}(hm:X.mg "zip"=none)(ha:QA X [a,b] ta)(hg:Gl X "zip":=by rfl)(h1:J2 a=false:=by rfl)(h2:J2 b=false:=by rfl) :
  QI X (.Tuple elts x1 tpos) (.Call (.Name "zip" p) [a,b] [] pos) (iZip ta):=⟨aqE hg hm ha.out h1 h2⟩
end
theorem anL{R:It->Hp->Prop} : iZip ta Y H R=ta Y H fun vs H1=>∃ (l1 l2:Addr) (xs ys:List V),vs=[.ref l1,.ref l2]/\H1 l1=some (.lst xs)/\H1 l2=some (.lst ys)/\R (mY l1 l2) H1:=rfl
theorem forZ{l1 l2:Addr}(Pv:Nat->St->Hp->Prop)(h0:Pv 0 Y H)(hl:∀ i Y H,Pv i Y H->H l1=some (.lst xs)/\H l2=some (.lst ys))(hs:∀ i x y t Y H,xs[i]?=some x->ys[i]?=some y->Pv i Y H->H t=none->g (.ref t) Y (A0 H t (.tup [x,y])) fun σ2 H2=>tb { D with nx:=Pv (i+1),ct:=Pv (i+1),bk:=D.nx } σ2 H2)(hd:∀ Y H,Pv (min xs.length ys.length) Y H->D.nx Y H):ForIt (mY l1 l2) g tb D Y H:=by
 refine ⟨fun i m Y H=>m=min xs.length ys.length-i/\i<=min xs.length ys.length/\Pv i Y H,⟨min xs.length ys.length,by simp,K8 _,h0⟩,?_⟩;rintro i m Y H ⟨rfl,hi,p⟩;obtain ⟨e1,e2⟩:=hl i Y H p
 by_cases C1:i<min xs.length ys.length
 .refine .inr ⟨⟨xs,ys,xs[i]'(by lia),ys[i]'(by lia),e1,e2,by simp,by simp⟩,Pv (i+1),fun σ' H' p'=>⟨_,by lia,rfl,C1,p'⟩,fun v H' y=>?_⟩;obtain ⟨t,xs',ys',x,y',f1,f2,hx,hy,ht,rfl,rfl⟩:=y;rw [e1] at f1;cases f1;rw [e2] at f2;cases f2;exact hs i x y' t Y H hx hy p ht
 .have e:i=min xs.length ys.length:=by lia
  subst e;exact .inl ⟨⟨xs,ys,e1,e2,by lia⟩,hd Y H p⟩
noncomputable def Itr3 (lo st:Int) (n:Nat):It:=⟨fun i _=>i<n,fun i H x H'=>H'=H/\x=.int (lo+i*st),fun i _=>n<=i⟩
theorem aeP:∀ {vs:List Value} {zs:List Str},StrsAre vs zs->∀ {j:Nat} {z:Str},zs[j]?=some z->∃ t,vs[j]?=some (.str z t)
 | _,_,.nil,_,_,h=>by simp at h
 | _,_,.cons _ _ _,0,_,h=>by simp at h;subst h;exact ⟨_,rfl⟩
 | _,_,.cons _ _ r,j+1,z,h=>by
  obtain ⟨t,q⟩:=aeP r (j:=j) (z:=z) (by simpa using h);exact ⟨t,by simpa using q⟩
theorem afT{α β:Type}(f:α->β):∀ (l:List α) (i:Nat),(l.eraseIdx i).map f=(l.map f).eraseIdx i
 | [],_=>rfl
 | _::_,0=>rfl
 | x::l,i+1=>by
  show f x::(l.eraseIdx i).map f=f x::(l.map f).eraseIdx i;rw [afT f l i]
noncomputable def sG (td ty tx:TE):TE:=fun Y H Q=>td Y H fun x H1=>∃ a,x=.ref a/\y4 H1 a/\ty Y H1 fun y H2=>tx Y H2 fun z H3=>∃ kvs k,H3 a=some (.dK kvs)/\kvs.length<sizeLine/\y=kV k/\
 (∀ v,valV kvs k=some v->Q v H3)/\(valV kvs k=none->Q z (A0 H3 a (.dK (putK kvs k z))))
section
variable {X:Cx} {o e f:Expr} {apos cpos:Pos} {td ty tx:TE} {pins:List (Addr×Obj)} {Y:St} {H:Hp} {s:Shared} {a:Addr} {A:Around} {E:Value->Shared->Prop}
theorem aqG{k:B5}{z:V}{r:Value}{Q:Value->Shared->Prop}(I:Inv X pins Y H s)(e:H a=some (.dK kvs))(hl:kvs.length<sizeLine)(ry:RelV (kV k) u)(rz:RelV z r)(h1:∀ v w' s',valV kvs k=some v->Inv X pins Y H s'->RelV v w'->Q w' s')(h2:∀ s',valV kvs k=none->Inv X pins Y (A0 H a (.dK (putK kvs k z))) s'->Q r s') :
  wpAny (model X.prog X.w) A (call (.builtin "dict.setdefault") [.ref a,u,r]) Q E s:=by
 obtain ⟨hz,hd,vs,rel,dd⟩:=dk_of I.hok e;have A9:=rel.length;refine call_meetsIn PySem.F.slot_dict_setdefault dd.typeIs PySem.F.entry_dict_setdefault (PySem.F.args_dict_setdefault_3 _ _ _) (kt_meets_setdefault (N3 X.prog X.w) a (kV_is ry) hd r) ⟨vs,dd,by lia,fun v hv=>?_,fun hn h' hm hs=>?_⟩
 .have:=rel.val k
  rw [hv] at this;cases eE:valV kvs k with
  | none=>rw [eE] at this;exact this.elim
  | some x=>rw [eE] at this;exact h1 x v _ eE (I.tok _) this
 .have:=rel.val k
  rw [hn] at this;cases eE:valV kvs k with
  | some x=>rw [eE] at this;exact this.elim
  | none=>
   have Q8:(putK kvs k z).length<=sizeLine:=by rw [akR z eE,E3,o0];lia
   obtain ⟨ob,_,_,ho,_⟩:=id hm;exact h2 _ eE (rE (t':=s.toks+1) I (by rw [e];exact trivial) hs ⟨ob,ho⟩ (rF Q8 hd (rel.put k rz) hm))
theorem alk(ho:PE X o td)(he:PE X e ty)(hf:PE X f tx)(m:M2 X o "setdefault" apos e f cpos):PE X (.Call (.Attribute o "setdefault" apos) [e,f] [] cpos) (sG td ty tx):=by
 intro pins s Y H Q I h;refine wpAny_Call_method m.base m.few m.line PySem.F.plainAttrs_dict PySem.F.slot_dict_setdefault PySem.F.type_dict_setdefault (A8 (ho pins s Y H _ I h) fun u s1 ⟨x,H1,I1,rx,a,ex,d,q1⟩=>?_);subst ex;obtain rfl:u=Value.ref a:=rx;obtain ⟨t1,t2,_⟩:=zN I1 d;refine ⟨t1,t2,?_⟩;rw [m.trees];refine Calls.callWith_builtin rfl (Calls.evalArgs_plain (Calls.spliced_cons (A8 (he pins s1 Y H1 _ I1 q1) fun iv s2 ⟨y,H2,I2,ry,q2⟩=>
  Calls.spliced_cons (A8 (hf pins s2 Y H2 _ I2 q2) fun fv s3 ⟨z,H3,I3,rz,kvs,k,e3,hl,ey,q3,q4⟩=>Calls.spliced_nil ?_))))
 subst ey;exact aqG I3 e3 hl ry rz (fun v w' s4 hv I4 rw'=>⟨v,H3,I4,rw',q3 v hv⟩) fun s4 hn I4=>⟨z,_,I4,rz,q4 hn⟩
theorem alm(ho:QE X o td)(he:QE X e ty)(hf:QE X f tx)(h1:J2 e=false:=by rfl)(h2:J2 f=false:=by rfl)(E9:attributeBase o "setdefault" X.env (eval o X.env)=eval o X.env:=by rfl)(G3:(apos.endLine==cpos.line)=true:=by rfl):QE X (.Call (.Attribute o "setdefault" apos) [e,f] [] cpos) (sG td ty tx):=
 ⟨alk ho.out he.out hf.out ⟨E9,by rw [L8 h1,L8 h2];rfl,G3,by rw [L8 h1,L8 h2];rfl⟩⟩
theorem aln:sG td ty tx Y H Q=td Y H fun x H1=>∃ a,x=.ref a/\y4 H1 a/\ty Y H1 fun y H2=>tx Y H2 fun z H3=>∃ kvs k,H3 a=some (.dK kvs)/\kvs.length<sizeLine/\y=kV k/\
 (∀ v,valV kvs k=some v->Q v H3)/\(valV kvs k=none->Q z (A0 H3 a (.dK (putK kvs k z)))):=rfl
end
section
variable {X:Cx} {tg:Expr}
noncomputable def rsz (i j k:Int):Nat:=(if i<j then (j-i-1) / k+1 else 0).toNat
noncomputable def iRng3 (ta:TA):TI:=fun Y H R=>ta Y H fun vs H1=>∃ i j k:Int,vs=[.int i,.int j,.int k]/\(-(2 ^ 60)<=i/\i<2 ^ 60/\-(2 ^ 60)<=j/\j<2 ^ 60/\0<k/\k<1000000)/\R (Itr3 i k (rsz i j k)) H1
end
theorem alo{R:It->Hp->Prop} : iRng3 ta Y H R=ta Y H fun vs H1=>∃ i j k:Int,vs=[.int i,.int j,.int k]/\(-(2 ^ 60)<=i/\i<2 ^ 60/\-(2 ^ 60)<=j/\j<2 ^ 60/\0<k/\k<1000000)/\R (Itr3 i k (rsz i j k)) H1:=rfl
section
variable {X:Cx} {pins:List (Addr×Obj)} {Y:St} {H:Hp} {s:Shared} {a:Addr}
theorem Inv.swap{u u':HO}(I:Inv X pins Y H s)(e:H a=some u)(n1:∀ xs,u≠.tup xs)(n2:∀ x,u≠.own x)(n3:∀ ps,u≠.tbl ps)(n4:∀ o v,X.H₀ a≠some (.frz o v))(new:ObjOk X.prog X.w H s.heap a u'):Inv X pins Y (A0 H a u') s:=by
 have ne:∀ b,H b=none->b≠a:=fun b h q=>by rw [q,e] at h;cases h
 have own:∀ c x,H c=some (.own x)->A0 H a u' c=some (.own x):=fun c x q=>by
  rw [A3 (fun z=>by rw [z,e] at q;exact n2 x (Option.some.inj q))];exact q
 have tup:∀ c xs,H c=some (.tup xs)->A0 H a u' c=some (.tup xs):=fun c x q=>by
  rw [A3 (fun z=>by rw [z,e] at q;exact n1 x (Option.some.inj q))];exact q
 refine ⟨I.ok,I.os,I.bare,⟨I.base.keep,I.base.slot,fun b o h1 h2 h3=>?_,I.base.there,fun b xs h=>tup b xs (I.base.tups b xs h),fun b o v h=>?_,fun b ps h=>?_⟩,I.loc,I.cell,?_,fun x c h=>?_,fun p hp=>?_,fun b v h=>?_,I.len⟩
 .have:=I.base.free b o h1 h2 h3
  rw [A3 (ne b this)];exact this
 .rw [A3 (fun z=>n4 o v (by rw [<- z];exact h))];exact I.base.frzs b o v h
 .obtain ⟨m,q⟩:=I.base.tbls b ps h;exact ⟨m,by rw [A3 (fun z=>by rw [z,e] at q;exact n3 _ (Option.some.inj q))];exact q⟩
 .rw [A3 (ne _ I.free)];exact I.free
 .rw [A3 (ne _ (I.freeC x c h))];exact I.freeC x c h
 .obtain ⟨h1,h2,h3⟩:=I.pin p hp;exact ⟨h1,by rw [A3 (ne _ h2)];exact h2,h3⟩
 .by_cases hb:b=a
  .subst hb;rw [A1] at h;cases h;exact new.stay (fun _ _ _ q=>q) (fun c q=>own c _ q) fun c xs q=>tup c xs q
  .rw [A3 hb] at h;exact (I.hok b v h).stay (fun _ _ _ q=>q) (fun c q=>own c _ q) fun c xs q=>tup c xs q
end
noncomputable def jL (a:Addr) (o:Obj) (kvs:List (B5×V)):It:=
 ⟨fun i H=>H a=some (.frz o (.dK kvs))/\i<kvs.length,fun i H x H'=>H'=H/\∃ k v,kvs[i]?=some (k,v)/\x=kV k,fun i H=>H a=some (.frz o (.dK kvs))/\kvs.length<=i⟩
theorem aji{P:Program}{w:World}(a it:Addr)(o:Obj)(kvs:List (B5×V))(vs:List (B5×Value))(ep:Nat)(J3:∀ h:Heap,h.get? a=some o->h.DictAt (N3 P w) a vs ep)(rel:KV kvs vs):Turn P w K tg (jL a o kvs) [it] it (fun i h=>h.IsKeyIter it a i vs.length ep) where
 mem:=by simp
 obj:=fun i h st b hb=>by
  have e:b=it:=by simpa using hb
  subst e;obtain ⟨o,e,c,d⟩:=st;exact ⟨o,e,fun v z=>by rw [d] at z;cases z⟩
 keep:=fun i h h' st k=>st.at fun o e=>k it (by simp) o e
 item:=by
  intro X hP hw hK hc i pins s Y H E I hf st hg;subst hP hw hK;obtain ⟨f0,f1,f2,f3,f4,f5⟩:=hf it (by simp);obtain ⟨aQ,kX⟩:=hg;have hd:=J3 s.heap (I.hok a _ aQ).1;have hvl:i<vs.length:=by rw [<- rel.length];exact kX
  refine wpAny_pyNext_dict_item st hd (k:=vs[i].1) (v:=vs[i].2) (by rw [G8 hvl]) fun key h' Y8 kY pI=>?_
  have I1:Inv X pins Y H { s with heap:=h' }:=I.turned (t':=s.toks) (fun b o hb e=>(pI.2 b hb).trans e) f0 f1 f3 f4 f5;obtain ⟨oi,e,c,d⟩:=id kY;have hk:kvs[i].1=vs[i].1:=by
   have:=congrArg (·[i]?) rel.keys
   simpa [kX,hvl] using this
  have rk:RelV (kV kvs[i].1) key:=by
   rw [hk];have Y8:keyIs vs[i].1 key=true:=Y8;generalize vs[i].1=kk at Y8
   rcases i9 Y8 with ⟨j,t,rfl,rfl⟩ | ⟨x,t,rfl,rfl⟩
   .exact ⟨t,rfl⟩
   .exact ⟨t,rfl⟩
  exact ⟨key,rfl,go_of (s:={ s with heap:=h' }) e c d (by decide) ⟨kV kvs[i].1,H,I1,rk,⟨rfl,kvs[i].1,kvs[i].2,by rw [G8 kX],rfl⟩,kY,fun b hb=>(hf b hb).1⟩⟩
 done:=by
  intro X hP hw hK hc i pins s Y H E I hf st hg;subst hP hw hK;obtain ⟨f0,f1,f2,f3,f4,f5⟩:=hf it (by simp);obtain ⟨aQ,kX⟩:=hg;have hd:=J3 s.heap (I.hok a _ aQ).1;exact wpAny_pyNext_dict_end (I.ok.hd hc) st hd (by rw [List.getElem?_eq_none_iff,<- rel.length];exact kX) fun h' eb=>⟨rfl,I.turned (t':=s.toks) (fun b o hb e=>eb b o hb e) f0 f1 f3 f4 f5⟩
 self:=fun _ _ _ _ _ st h=>wpAny_pyIter_keyiter st h
noncomputable def Ends.thaw (D:Ends) (a:Addr) (kvs:List (B5×V)):Ends where
 nx:=fun Y H=>(∃ o,H a=some (.frz o (.dK kvs)))/\D.nx Y (A0 H a (.dK kvs))
 rt:=fun v H=>(∃ o,H a=some (.frz o (.dK kvs)))/\D.rt v (A0 H a (.dK kvs))
noncomputable def tForD (tl:TE) (g:TG) (tb:TS):TS:=fun D Y H=>tl Y H fun x H1=>∃ a kvs,x=.ref a/\H1 a=some (.dK kvs)/\∀ o,ForIt (jL a o kvs) g tb (D.thaw a kvs) Y (A0 H1 a (.frz o (.dK kvs)))
theorem anM{l:Expr}{body:List Stmt}{pos:Pos}(hp:PassesOwn (model X.prog X.w) X.A X.env X.xe)(hc:X.calm=true)(hl:PE X l tl)(hg:PG X tg g)(hb:U0 X body tb)(hs:∀ x,foldedSetIterable l X.env x=pure x):PS X (.For tg l body [] pos) (tForD tl g tb):=by
 intro pins s Y H D I h;refine wpAny_For (A8 (hl pins s Y H _ I h) fun v s1 ⟨x,H1,I1,r1,q1⟩=>?_) hs;obtain ⟨a,kvs,rfl,e,q⟩:=q1
 cases r1
 obtain ⟨z,hd,vs,rel,dd⟩:=dk_of I1.hok e;obtain ⟨ep,J3⟩:=dd.dictAt;obtain ⟨o,es,ho,W5⟩:=id J3;refine wpAny_pyIter_dict hd J3 ?_;have NF:∀ o' v',X.H₀ a≠some (.frz o' v'):=fun o' v' z=>by
  have:=I1.base.frzs _ _ _ z
  rw [e] at this;cases this
 have I1':Inv X pins Y H1 { s1 with heap:=s1.heap.push { cls:=.type "dict_keyiterator",data:=.fields #[.ref a,.int 0 0,.int vs.length 0,.int ep 0] } }:=I1.kept (t':=s1.toks) fun b u e=>Heap.get?_push_of_some _ e
 have I2:=I1'.swap (u':=.frz o (.dK kvs)) e (fun _ q=>by cases q) (fun _ q=>by cases q) (fun _ q=>by cases q) NF ⟨Heap.get?_push_of_some _ ho,I1'.hok a _ e⟩;have thaw:∀ {σ':St} {H':Hp} {s':Shared},Inv X pins σ' H' s'->(∃ o,H' a=some (.frz o (.dK kvs)))->Inv X pins σ' (A0 H' a (.dK kvs)) s':=fun {σ' H' s'} I' ⟨o',e'⟩=>
  I'.swap e' (fun _ q=>by cases q) (fun _ q=>by cases q) (fun _ q=>by cases q) NF (I'.hok a _ e').2
 have T:Turn X.prog X.w X.K tg (jL a o kvs) [s1.heap.objs.size] s1.heap.objs.size (fun i h=>h.IsKeyIter s1.heap.objs.size a i vs.length ep):=aji a _ o kvs vs ep (fun h e=>⟨o,es,e,W5⟩) rel;have P0:A0 H1 a (.frz o (.dK kvs)) s1.heap.objs.size=none:=by rw [A3 (fun q=>by rw [<- q,I1.fresh] at e;cases e)];exact I1.fresh
 have f2:∀ b∈[s1.heap.objs.size],FpOk X pins (A0 H1 a (.frz o (.dK kvs))) b:=fun b hb=>by
  have e:b=s1.heap.objs.size:=by simpa using hb
  subst e;exact I1.fpOk (C2 _) P0
 obtain ⟨W,⟨m0,w0⟩,turn⟩:=q o;have stat:∀ {H':Hp},(∀ b∈[s1.heap.objs.size],H' b=none)->∀ b∈[s1.heap.objs.size],FpOk X pins H' b:=fun hn b hb=>⟨hn b hb,(f2 b hb).2⟩
 refine codeAny_forLoop_any (fun n s'=>∃ i σ' H',Inv X pins σ' H' s'/\s'.heap.IsKeyIter s1.heap.objs.size a i vs.length ep/\(∀ b∈[s1.heap.objs.size],H' b=none)/\W i n σ' H') ?_ m0 ⟨0,Y,_,I2,⟨_,Heap.get?_push_size _ rfl,rfl,rfl⟩,fun b hb=>(f2 b hb).1,w0⟩;rintro n s3 ⟨i,σ3,H3,I3,cE,kK,w3⟩
 rcases turn i n σ3 H3 w3 with ⟨stop,qn⟩ | ⟨go,N,hN,step⟩
 .refine wpAny_passesOwn hp (A8 (T.done X rfl rfl rfl hc i pins s3 σ3 H3 X.xe I3 (stat kK) cE stop) fun r s4 ⟨hr,I4⟩=>?_);subst hr;exact wpAny_execs_nil ⟨σ3,_,thaw I4 qn.1,qn.2⟩
 .refine wpAny_passesOwn hp (A8 (T.item X rfl rfl rfl hc i pins s3 σ3 H3 X.xe I3 (stat kK) cE go) fun r s4 ⟨u,hr,h4⟩=>?_);subst hr;refine wpAny_passesOwn hp (A8 h4 fun _ s5 ⟨x,H5,I5,r5,y5,dR,vN⟩=>?_);have I5':=I5.pinned (stat vN) (T.obj _ _ dR);refine wpAny_passesOwn hp (A8 (hg _ s5 σ3 H5 x u _ I5' r5 (step x H5 y5)) fun _ s6 ⟨σ6,H6,I6,q6⟩=>?_);refine wpAny_passesOwn hp (A8 (hb _ s6 σ6 H6 _ I6 q6) fun f s7 q7=>?_);have again:∀ {σ7:St} {H7:Hp},Inv X (pins++fP [s1.heap.objs.size] s5.heap) σ7 H7 s7->N σ7 H7->∃ m,m<n/\∃ i σ' H',Inv X pins σ' H' s7/\s7.heap.IsKeyIter s1.heap.objs.size a i vs.length ep/\(∀ b∈[s1.heap.objs.size],H' b=none)/\W i m σ' H':=fun {σ7 H7} I7 n7=>by
   obtain ⟨m',hm,w7⟩:=hN σ7 H7 n7;refine ⟨m',hm,i+1,σ7,H7,I7.unpinned,T.keep _ _ _ dR fun b hb o e=>(I7.pin (b,o) (P2 _ (P2 _ (fQ hb e)))).1,fun b hb=>?_,w7⟩;obtain ⟨o,e,d⟩:=T.obj _ _ dR b hb;exact (I7.pin (b,o) (P2 _ (P2 _ (fQ hb e)))).2.1
  cases f with
  | next=>obtain ⟨σ7,H7,I7,n7⟩:=q7;exact again I7 n7
  | cont=>obtain ⟨σ7,H7,I7,n7⟩:=q7;exact again I7 n7
  | brk=>obtain ⟨σ7,H7,I7,q7⟩:=q7;exact ⟨σ7,_,thaw I7.unpinned q7.1,q7.2⟩
  | ret v=>obtain ⟨x7,σ7,H7,I7,r7,q7⟩:=q7;exact ⟨x7,σ7,_,thaw I7.unpinned q7.1,r7,q7.2⟩
theorem sH{l:Expr}{body:List Stmt}{pos:Pos}(hp:PassesOwn (model X.prog X.w) X.A X.env X.xe)(hl:QE X l tl)(hg:QG X tg g)(hb:QSs X body tb)(hc:X.calm=true:=by rfl)(hs:∀ x,foldedSetIterable l X.env x=pure x:=by intro _;rfl):QS X (.For tg l body [] pos) (tForD tl g tb):=⟨anM hp hc hl.out hg.out hb.out hs⟩
theorem anN : tForD tl g tb D Y H=tl Y H fun x H1=>∃ a kvs,x=.ref a/\H1 a=some (.dK kvs)/\∀ o,ForIt (jL a o kvs) g tb (D.thaw a kvs) Y (A0 H1 a (.frz o (.dK kvs))):=rfl
theorem forD(Pv:Nat->St->Hp->Prop)(h0:Pv 0 Y H)(hl:∀ i Y H,Pv i Y H->H a=some (.frz o (.dK kvs)))(hs:∀ i k v Y H,kvs[i]?=some (k,v)->Pv i Y H->g (kV k) Y H fun σ2 H2=>tb { D.thaw a kvs with nx:=Pv (i+1),ct:=Pv (i+1),bk:=(D.thaw a kvs).nx } σ2 H2)(hd:∀ Y H,Pv kvs.length Y H->D.nx Y (A0 H a (.dK kvs))):ForIt (jL a o kvs) g tb (D.thaw a kvs) Y H:=by
 refine ⟨fun i m Y H=>m=kvs.length-i/\i<=kvs.length/\Pv i Y H,⟨kvs.length,by simp,K8 _,h0⟩,?_⟩;rintro i m Y H ⟨rfl,hi,p⟩;have e:=hl i Y H p
 by_cases C1:i<kvs.length
 .refine .inr ⟨⟨e,C1⟩,Pv (i+1),fun σ' H' p'=>⟨_,by lia,rfl,C1,p'⟩,fun v H' y=>?_⟩;obtain ⟨rfl,k,v',hk,rfl⟩:=y;exact hs i k v' Y _ hk p
 .have e2:i=kvs.length:=by lia
  subst e2;exact .inl ⟨⟨e,C2 _⟩,⟨o,e⟩,hd Y H p⟩
end L2
set_option maxRecDepth 100000
namespace L2
open PySem PySem.Spec PyProof.Rows
noncomputable def W0 (row:List Str):List (Str×Str):=row.zip row.tail
noncomputable def edges (rows:List (List Str)):List (Str×Str):=rows.flatMap W0
noncomputable def E7 (E:List (Str×Str)) (p:Str):List Str:=(E.filter fun e=>decide (e.1=p)).map (·.2)
noncomputable def cnt (E:List (Str×Str)) (line:List Str) (q:Str):Nat:=E.countP fun e=>decide (e.2=q) && !decide (e.1∈line)
noncomputable def cntIn (E:List (Str×Str)) (S:List Str) (q:Str):Nat:=E.countP fun e=>decide (e.2=q)&&decide (e.1∈S)
theorem alp(E:List (Str×Str))(a b p:Str):E7 (E++[(a,b)]) p=if a=p then E7 E p++[b] else E7 E p:=by
 unfold E7;rw [o1,E5]
 by_cases h:a=p
 .rw [if_pos h,eZ (by simpa using h)];rfl
 .rw [if_neg h,iJ (by simpa using h)];simp
theorem afU(E:List (Str×Str))(p q:Str):(E7 E p).count q=E.countP fun e=>decide (e.2=q)&&decide (e.1=p):=by
 induction E with
 | nil=>rfl
 | cons e E ih=>
  unfold E7 at ih ⊢
  by_cases h:e.1=p
  .rw [eZ (by simpa using h),D0,List.count_cons,ih,bD]
   by_cases h2:e.2=q
   .simp [h,h2]
   .simp [h,h2]
  .rw [iJ (by simpa using h),ih,bD];simp [h]
theorem ahY{E:List (Str×Str)}{p:Str}(h:p∉S):cntIn E (S++[p]) q=cntIn E S q+(E7 E p).count q:=by
 rw [afU];unfold cntIn
 induction E with
 | nil=>rfl
 | cons e E ih=>
  rw [bD,bD,bD,ih]
  by_cases h2:e.2=q
  .by_cases h1:e.1=p
   .have:e.1∉S:=by rw [h1];exact h
    simp [h2,h1,h];lia
   .by_cases h3:e.1∈S
    .simp [h2,h1,h3];lia
    .simp [h2,h1,h3]
  .simp [h2]
theorem ahg{E:List (Str×Str)}{p:Str}(h:p∉line):cnt E line q=cnt E (line++[p]) q+(E7 E p).count q:=by
 rw [afU];unfold cnt
 induction E with
 | nil=>rfl
 | cons e E ih=>
  rw [bD,bD,bD,ih]
  by_cases h2:e.2=q
  .by_cases h1:e.1=p
   .simp [h2,h1,h];lia
   .by_cases h3:e.1∈line
    .simp [h2,h1,h3]
    .simp [h2,h1,h3];lia
  .simp [h2]
theorem ajj{E:List (Str×Str)}(h:∀ e∈E,e.1∈S)(q:Str):cntIn E S q=cnt E [] q:=by
 unfold cntIn cnt;refine List.countP_congr fun e he=>?_
 simp [h e he]
theorem ajk(E:List (Str×Str))(q:Str):cntIn E [] q=0:=by
 unfold cntIn
 simp
theorem cnt_zero{E:List (Str×Str)} : cnt E line q=0↔∀ e∈E,e.2=q->e.1∈line:=by
 unfold cnt;rw [List.countP_eq_zero]
 constructor
 .intro h e he h2
  have:=h e he
  simpa [h2] using this
 .intro h e he
  by_cases h2:e.2=q
  .simp [h2,h e he h2]
  .simp [h2]
noncomputable def nextP (E:List (Str×Str)) (ts pre:List Str):Option Str:=(ts.filter fun p=>!decide (p∈pre)).find? fun p=>decide (cnt E pre p=0)
noncomputable def R8 (E:List (Str×Str)) (ts line:List Str):Prop:=∀ pre q post,line=pre++q::post->nextP E ts pre=some q
theorem R8.nil(E:List (Str×Str))(ts:List Str):R8 E ts []:=fun pre q post h=>by
 have:=congrArg List.length h
 simp at this
theorem R8.snoc{E:List (Str×Str)}{p:Str}(r:R8 E ts line)(h:nextP E ts line=some p):R8 E ts (line++[p]):=fun pre q post e=>by
 rcases List.append_eq_append_iff.mp e with ⟨m,h1,h2⟩ | ⟨m,h1,h2⟩
 .cases m with
  | nil=>
   rw [M9] at h1;rw [fE] at h2
   cases (List.cons.inj h2).1
   rw [h1];exact h
  | cons a m=>
   have:=congrArg List.length h2
   simp at this
 .cases m with
  | nil=>
   rw [M9] at h1;rw [fE] at h2
   cases (List.cons.inj h2).1
   rw [<- h1];exact h
  | cons a m=>
   rw [List.cons_append] at h2;have h3:=(List.cons.inj h2).1;exact r pre q m (by rw [h1,h3])
theorem jM{E:List (Str×Str)}{pre:List Str}(h:nextP E ts pre=some q):q∈ts/\q∉pre/\cnt E pre q=0:=by
 have h1:=List.mem_of_find?_eq_some h;have h2:=List.find?_some h;rw [N8] at h1;exact ⟨h1.1,by simpa using h1.2,by simpa using h2⟩
theorem R8.nodup{E:List (Str×Str)} : ∀ {line:List Str},R8 E ts line->line.Nodup:=by
 intro line r;rw [i4,eX];intro i j hi hj pJ e;have e1:line=line.take j++line[j]::line.drop (j+1):=by rw [<- List.drop_eq_getElem_cons hj,aY]
 have:=(jM (r _ _ _ e1)).2.1
 exact this (X5.mpr ⟨i,by rw [K3];lia,by rw [iO];exact e⟩)
theorem R8.sub{E:List (Str×Str)}(r:R8 E ts line)(h:q∈line):q∈ts:=by
 obtain ⟨pre,post,e⟩:=List.append_of_mem h;exact (jM (r pre q post e)).1
theorem alq{E:List (Str×Str)}{rank:Str->Nat}(hr:∀ e∈E,rank e.1<rank e.2)(hE:∀ e∈E,e.1∈ts)(hw:∃ p∈ts,p∉line):∃ q,nextP E ts line=some q:=by
 have key:∀ n p,rank p<=n->p∈ts->p∉line->∃ q∈ts,q∉line/\cnt E line q=0:=by
  intro n
  induction n with
  | zero=>
   intro p hp ht hl;refine ⟨p,ht,hl,cnt_zero.mpr fun e he h2=>?_⟩
   have:=hr e he
   rw [h2] at this;lia
  | succ n ih=>
   intro p hp ht hl
   by_cases hc:cnt E line p=0
   .exact ⟨p,ht,hl,hc⟩
   .have:∃ e∈E,e.2=p/\e.1∉line:=by
     refine Classical.byContradiction fun hn=>hc (cnt_zero.mpr fun e he h2=>Classical.byContradiction fun h3=>hn ⟨e,he,h2,h3⟩)
    obtain ⟨e,he,h2,h3⟩:=this;have h4:=hr e he;rw [h2] at h4;exact ih e.1 (by lia) (hE e he) h3
 obtain ⟨p,hp,hl⟩:=hw;obtain ⟨q,h1,h2,h3⟩:=key (rank p) p (C2 _) hp hl;cases h:nextP E ts line with
 | some q=>exact ⟨q,rfl⟩
 | none=>
  have:=List.find?_eq_none.mp h q (N8.mpr ⟨h1,by simpa using h2⟩)
  simp [h3] at this
theorem sI{E:List (Str×Str)}(nd:ts.Nodup)(r:R8 E ts line)(h:∀ p∈ts,p∈line):line.length=ts.length:=
 ((List.perm_ext_iff_of_nodup r.nodup nd).mpr fun a=>⟨r.sub,h a⟩).length_eq
theorem aeQ(E:List (Str×Str))(pre:List Str):∀ ts:List Str,nextP E ts pre=ts.find? fun p=>!decide (p∈pre)&&decide (∀ e∈E,e.2=p->e.1∈pre)
 | []=>rfl
 | t::ts=>by
  have ih:=aeQ E pre ts;unfold nextP at ih ⊢
  by_cases h:t∈pre
  .rw [iJ (by simpa using h),o8,ih];simp [h]
  .rw [eZ (by simpa using h),o8,o8,ih]
   by_cases h2:cnt E pre t=0
   .have:=cnt_zero.mp h2
    rw [decide_eq_true h2,decide_eq_true this];simp [h]
   .have:¬ ∀ e∈E,e.2=t->e.1∈pre:=fun z=>h2 (cnt_zero.mpr z)
    rw [decide_eq_false h2,decide_eq_false this];simp [h]
theorem ahZ{row:List Str}{e:Str×Str}(h:e∈W0 row):e.1∈row/\e.2∈row:=by
 unfold W0 at h;exact ⟨(List.of_mem_zip h).1,List.mem_of_mem_tail (List.of_mem_zip h).2⟩
theorem afV{rows:List (List Str)}{e:Str×Str}(h:e∈edges rows):e.1∈rows.flatten/\e.2∈rows.flatten:=by
 unfold edges at h;obtain ⟨row,h1,h2⟩:=w5.mp h
 have:=ahZ h2
 exact ⟨List.mem_flatten.mpr ⟨row,h1,this.1⟩,List.mem_flatten.mpr ⟨row,h1,this.2⟩⟩
noncomputable def C0 (ts:List Str) (f:Str->V):List (B5×V):=ts.map fun t=>(Sum.inr t,f t)
theorem sJ(f:Str->V)(z:Str):∀ ts:List Str,((C0 ts f).any fun kv=>decide (kv.1=(Sum.inr z:B5)))=decide (z∈ts)
 | []=>by simp [C0]
 | y::ts=>by
  have ih:=sJ f z ts;unfold C0 at ih ⊢
  rw [D0,p4,ih]
  by_cases e:y=z
  .subst e
   simp
  .have e1:decide ((Sum.inr y:B5)=Sum.inr z)=false:=decide_eq_false fun q=>e (Sum.inr.inj q)
   rw [e1,Bool.false_or]
   by_cases h:z∈ts
   .rw [decide_eq_true h,decide_eq_true (G5 _ h)]
   .rw [decide_eq_false h,decide_eq_false];intro q
    rcases D7.mp q with q | q
    .exact e q.symm
    .exact h q
theorem M7(f:Str->V)(z:Str):∀ ts:List Str,valV (C0 ts f) (Sum.inr z)=if z∈ts then some (f z) else none
 | []=>rfl
 | y::ts=>by
  have ih:=M7 f z ts;unfold C0 at ih ⊢
  rw [D0]
  by_cases e:y=z
  .subst e;rw [mM rfl,if_pos G9]
  .rw [y3 (fun q=>e (Sum.inr.inj q)),ih]
   by_cases h:z∈ts
   .rw [if_pos h,if_pos (G5 _ h)]
   .rw [if_neg h,if_neg];intro q
    rcases D7.mp q with q | q
    .exact e q.symm
    .exact h q
theorem mZ{f:Str->V}(v:V)(h:z∈ts):putK (C0 ts f) (Sum.inr z:B5) v=C0 ts fun t=>if t=z then v else f t:=by
 unfold putK;rw [sJ,decide_eq_true h,if_pos rfl];unfold C0;rw [w8];refine iL fun y _=>?_
 show (if (Sum.inr y:B5)=Sum.inr z then ((Sum.inr y:B5),v) else (Sum.inr y,f y))=((Sum.inr y:B5),if y=z then v else f y)
 by_cases e:y=z
 .rw [if_pos (by rw [e]),if_pos e]
 .rw [if_neg (fun q=>e (Sum.inr.inj q)),if_neg e]
theorem z8{f:Str->V}(v:V)(h:z∉ts):putK (C0 ts f) (Sum.inr z:B5) v=C0 (ts++[z]) fun t=>if t=z then v else f t:=by
 unfold putK;rw [sJ,decide_eq_false h,if_neg K9];unfold C0;rw [E5]
 congr 1
 .refine iL fun y hy=>?_
  show _=((Sum.inr y:B5),if y=z then v else f y);rw [if_neg (fun e:y=z=>h (by rw [<- e];exact hy))]
 .simp
theorem Q2{f g:Str->V}(h:∀ t∈ts,f t=g t):C0 ts f=C0 ts g:=by
 unfold C0;exact iL fun t ht=>by rw [h t ht]
theorem Y2(f:Str->V)(ts:List Str):(C0 ts f).length=ts.length:=by unfold C0;rw [A4]
theorem amj{f:Str->V}{k:B5}{v:V}(h:(C0 ts f)[i]?=some (k,v)):∃ t,ts[i]?=some t/\k=Sum.inr t/\v=f t:=by
 unfold C0 at h;obtain ⟨t,h1,h2⟩:=J1 h;cases h2;exact ⟨t,h1,rfl,rfl⟩
theorem alr(f:Str->V)(ts:List Str):((C0 ts f).map fun kv=>kV kv.1)=ts.map V.str:=by
 unfold C0;rw [w8];rfl
structure DL(H0 H:Hp)(ts:List Str)(ad:Str->Addr)(F:Str->List Str):Prop where
 row:∀ t∈ts,H (ad t)=some (.lst ((F t).map V.str))
 inj:∀ t∈ts,∀ u∈ts,ad t=ad u->t=u
 new:∀ t∈ts,H0 (ad t)=none
theorem DL.same{ad:Str->Addr}{F:Str->List Str}(x:DL H0 H ts ad F)(s:Same H H'):DL H0 H' ts ad F:=⟨fun t h=>s _ _ (x.row t h),x.inj,x.new⟩
theorem DL.app{ad:Str->Addr}{F:Str->List Str}(x:DL H0 H ts ad F)(hz:z∈ts)(ys:List Str):DL H0 (A0 H (ad z) (.lst (ys.map V.str))) ts ad fun t=>if t=z then ys else F t:=by
 refine ⟨fun t ht=>?_,x.inj,x.new⟩;show _=some (HO.lst ((if t=z then ys else F t).map V.str))
 by_cases e:t=z
 .subst e;rw [A1,if_pos rfl]
 .rw [A3 (fun q=>e (x.inj t ht z hz q)),if_neg e];exact x.row t ht
theorem DL.more{ad:Str->Addr}{F:Str->List Str}(x:DL H0 H ts ad F)(hz:z∉ts)(np:H p=none)(n0:H0 p=none):DL H0 (A0 H p (.lst [])) (ts++[z]) (fun t=>if t=z then p else ad t) fun t=>if t=z then [] else F t:=by
 have ne:∀ t∈ts,t≠z:=fun t ht e=>hz (by rw [<- e];exact ht)
 have nad:∀ t∈ts,ad t≠p:=fun t ht e=>by have:=x.row t ht;rw [e,np] at this;cases this
 have cases':∀ t,t∈ts++[z]->(t∈ts/\t≠z)\/t=z:=fun t ht=>by
  rcases J8.mp ht with h | h
  .exact .inl ⟨h,ne t h⟩
  .exact .inr (K7.mp h)
 refine ⟨fun t ht=>?_,fun t ht u hu e=>?_,fun t ht=>?_⟩
 .show A0 H p (.lst []) (if t=z then p else ad t)=some (.lst ((if t=z then [] else F t).map V.str))
  rcases cases' t ht with ⟨h1,h2⟩ | rfl
  .rw [if_neg h2,if_neg h2,A3 (nad t h1)];exact x.row t h1
  .rw [if_pos rfl,if_pos rfl,A1];rfl
 .have e:(if t=z then p else ad t)=(if u=z then p else ad u):=e
  rcases cases' t ht with ⟨h1,h2⟩ | rfl <;> rcases cases' u hu with ⟨h3,h4⟩ | rfl
  .rw [if_neg h2,if_neg h4] at e;exact x.inj t h1 u h3 e
  .rw [if_neg h2,if_pos rfl] at e;exact absurd e (nad t h1)
  .rw [if_pos rfl,if_neg h4] at e;exact absurd e.symm (nad u h3)
  .rfl
 .show H0 (if t=z then p else ad t)=none
  rcases cases' t ht with ⟨h1,h2⟩ | rfl
  .rw [if_neg h2];exact x.new t h1
  .rw [if_pos rfl];exact n0
theorem als(h:acc.Nodup)(z:Str):(dd acc z).Nodup:=by
 unfold dd
 split
 .exact h
 .rename_i hz
  rw [o3];refine ⟨h,by simp,fun a ha b hb e=>hz ?_⟩;rw [<- K7.mp hb,<- e];exact ha
theorem sK:∀ {zs acc:List Str},acc.Nodup->(J0 acc zs).Nodup
 | [],_,h=>h
 | z::zs,acc,h=>sK (zs:=zs) (als h z)
theorem nA(zss:List (List Str)):(toldL zss).Nodup:=by
 unfold toldL;rw [mR];exact sK (by simp)
theorem bQ(x:Str):∀ (zs acc:List Str),x∈J0 acc zs↔x∈acc\/x∈zs
 | [],acc=>by simp [J0]
 | z::zs,acc=>by
  show x∈J0 (dd acc z) zs↔_;rw [bQ x zs];unfold dd
  by_cases h:z∈acc
  .rw [if_pos h,D7]
   constructor
   .rintro (h1 | h1)
    .exact .inl h1
    .exact .inr (.inr h1)
   .rintro (h1 | rfl | h1)
    .exact .inl h1
    .exact .inl h
    .exact .inr h1
  .rw [if_neg h,J8,K7,D7,or_assoc]
theorem sL(x:Str)(zss:List (List Str)):x∈toldL zss↔x∈zss.flatten:=by
 unfold toldL;rw [mR,bQ]
 simp
theorem ah0{zss:List (List Str)}{e:Str×Str}(h:e∈edges zss):e.1∈toldL zss/\e.2∈toldL zss:=⟨(sL _ _).mpr (afV h).1,(sL _ _).mpr (afV h).2⟩
theorem ah1{zss:List (List Str)}(h:zss[i]?=some zs):edges (zss.take (i+1))=edges (zss.take i)++W0 zs:=by
 rw [R4,h];unfold edges;rw [aZ]
 simp
theorem sM(zs:List Str):(W0 zs).length=min zs.length zs.tail.length:=by unfold W0;rw [List.length_zip]
theorem ajl{x y:Str}(h1:zs[j]?=some x)(h2:zs.tail[j]?=some y):(W0 zs)[j]?=some (x,y):=by
 unfold W0;rw [List.getElem?_zip_eq_some];exact ⟨h1,h2⟩
theorem afW(zss:List (List Str)):(edges zss).length<=zss.flatten.length:=by
 induction zss with
 | nil=>exact C2 _
 | cons zs zss ih=>
  unfold edges at ih ⊢
  rw [bC,E3,bB,E3,sM];lia
theorem DL.put{ad:Str->Addr}{F:Str->List Str}(x:DL H0 H ts ad F){o u:HO}(hb:H0 b=some u):DL H0 (A0 H b o) ts ad F:=
 ⟨fun t ht=>by rw [A3 (fun e=>by have:=x.new t ht;rw [e,hb] at this;cases this)];exact x.row t ht,x.inj,x.new⟩
theorem DL.congr{ad:Str->Addr}{F G:Str->List Str}(x:DL H0 H ts ad F)(h:∀ t∈ts,F t=G t):DL H0 H ts ad G:=⟨fun t ht=>by rw [<- h t ht];exact x.row t ht,x.inj,x.new⟩
theorem DL.old{H00:Hp}{ad:Str->Addr}{F:Str->List Str}(x:DL H0 H ts ad F)(s:Same H00 H0):DL H00 H ts ad F:=⟨x.row,x.inj,fun t ht=>s.free (x.new t ht)⟩
theorem gE(nd:ts.Nodup)(h:ts[i]?=some z):z∉ts.take i:=fun hm=>by
 obtain ⟨hi,e⟩:=J4.mp h;obtain ⟨j,hj,e2⟩:=X5.mp hm;rw [K3] at hj;rw [iO] at e2
 have:=(i4.mp nd)
 rw [eX] at this;exact this j i (by lia) hi (by lia) (e2.trans e.symm)
theorem L9{α:Type}{ts:List α}{z:α}(h:ts[i]?=some z):ts.take (i+1)=ts.take i++[z]:=by rw [R4,h];rfl
noncomputable def SameBut (d:Addr) (H H':Hp):Prop:=∀ b o,b≠d->H b=some o->H' b=some o
theorem SameBut.put{d q:Addr}{u:HO}(s:SameBut d H0 H)(n:H0 q=none):SameBut d H0 (A0 H q u):=fun b o hb h=>by rw [A3 (M6 h n)];exact s b o hb h
theorem SameBut.thaw{d:Addr}{u:HO}(s:SameBut d H0 H)(h:H0 d=some u):Same H0 (A0 H d u):=fun b o hb=>by
 by_cases e:b=d
 .subst e;rw [A1,<- hb,h]
 .rw [A3 e];exact s b o e hb
theorem RowsAt.grow{q:Addr}{zss:List (List Str)}(R:RowsAt H0 H a rs zss)(S:Same H H')(hq:H q=none)(Y9:H' q=some (.lst (zs.map V.str))):RowsAt H0 (A0 H' a (.lst (rs.map V.ref++[V.ref q]))) a (rs++[q]) (zss++[zs]):=by
 have nq:∀ r∈a::rs,r≠q:=fun r hr z=>by
  obtain ⟨o,e⟩:=R.live hr;rw [z,hq] at e;cases e
 obtain ⟨na,_⟩:=i6.mp R.nd;refine ⟨⟨by rw [A1,E5];rfl,?_⟩,?_,?_,?_⟩
 .refine Paired.snoc (uai R.rows.row fun r hr zs h=>?_) ?_
  .rw [A3 (fun z:r=a=>na (by rw [<- z];exact hr))];exact S _ _ h
  .rw [A3 (nq a G9).symm];exact Y9
 .show (a::(rs++[q])).Nodup;exact zO R.nd fun h=>nq q h rfl
 .intro r hr
  rcases D7.mp hr with h | h
  .exact R.new r (by rw [h];exact G9)
  .rcases J8.mp h with h | h
   .exact R.new r (G5 _ h)
   .rw [K7.mp h];exact R.same.free hq
 .exact (R.same.trans S).put (R.new a G9)
noncomputable def spFol:Sp:=fun vs H Q _=>∃ (a:Addr) (rs:List Addr) (zss:List (List Str)),vs=[.ref a]/\IsRows H a rs zss/\zss.flatten.length<=100000/\
 ∀ (d:Addr) (ad:Str->Addr) (H':Hp),H d=none->Same H H'->H' d=some (.dK (C0 (toldL zss) fun t=>.ref (ad t)))->DL H H' (toldL zss) ad (E7 (edges zss))->Q (.ref d) H'
noncomputable def ajm:Sp:=fun vs H Q _=>∃ (d:Addr) (ts:List Str) (ad:Str->Addr) (E:List (Str×Str)),vs=[.ref d]/\H d=some (.dK (C0 ts fun t=>.ref (ad t)))/\ts.Nodup/\ts.length<=100000/\E.length<=100000/\
 (∀ t∈ts,H (ad t)=some (.lst ((E7 E t).map V.str)))/\(∀ e∈E,e.1∈ts/\e.2∈ts)/\∀ c H',H c=none->Same H H'->H' c=some (.dK (C0 ts fun t=>.int (cnt E [] t:Nat)))->Q (.ref c) H'
noncomputable def orNon:Option Str->V
 | some z=>.str z
 | none=>.non
theorem ah2(z:Str):orNon (some z)=.str z:=rfl
theorem jN:∀ {l m:List Str},l.Nodup->(∀ x∈l,x∈m)->l.length<=m.length
 | [],_,_,_=>K8 _
 | x::l,m,nd,h=>by
  obtain ⟨n1,n2⟩:=i6.mp nd;have hx:=h x G9
  have:=jN (l:=l) (m:=m.erase x) n2 fun y hy=>(List.mem_erase_of_ne (fun e=>n1 (by rw [<- e];exact hy))).mpr (h y (G5 _ hy))
  rw [lX hx] at this;have Z3:=List.length_pos_of_mem hx;rw [E8];lia
noncomputable def ajn:Sp:=fun vs H Q _=>∃ (a:Addr) (rs:List Addr) (zss:List (List Str)) (rank:Str->Nat),vs=[.ref a]/\IsRows H a rs zss/\zss.flatten.length<=100000/\(∀ e∈edges zss,rank e.1<rank e.2)/\
 ∀ (l:Addr) (line:List Str) (H':Hp),H l=none->Same H H'->H' l=some (.lst (line.map V.str))->R8 (edges zss) (toldL zss) line->(∀ p∈toldL zss,p∈line)->Q (.ref l) H'
theorem SameBut.free{d:Addr}(s:SameBut d H0 H)(n:H p=none)(h:p≠d):H0 p=none:=by
 cases e:H0 p with
 | none=>rfl
 | some o=>
  have:=s p o h e
  rw [n] at this;cases this
theorem SameBut.same{d:Addr}(s:SameBut d H1 H2)(S:Same H H1)(n:H d=none):Same H H2:=fun b o h=>s b o (M6 h n) (S b o h)
theorem uab(d:Addr)(H:Hp):SameBut d H H:=fun _ _ _ h=>h
theorem SameBut.at{d:Addr}{o:HO}(s:SameBut d H H'):SameBut d H (A0 H' d o):=fun b u hb h=>by rw [A3 hb];exact s b u hb h
noncomputable def one (c:Nat):Str:=⟨#[c]⟩
end L2
set_option maxRecDepth 100000
namespace L2
open PySem PySem.Spec PyProof.Rows
section
variable {X:Cx}
noncomputable def rAnyB (calm:Bool):List V->Hp->VK->Prop
 | [.ref p],H,Q=>∃ bs:List Bool,calm=true/\H p=some (.lst (bs.map V.bl))/\Q (.bl (bs.any id)) H
 | _,_,_=>False
theorem p_any:CallR X (.builtin "any") (rAnyB X.calm):=by
 intro pins s Y H xs us Q I r h
 match xs,h with
 | [.ref p],⟨bs,hc,hp,q⟩=>
  obtain ⟨u,rfl,rx⟩:=vals1 r
  cases rx
  obtain ⟨z,its,n,rv,hl,e⟩:=I.lstM hp;have pl:s.heap.IsList p its.toArray:=⟨_,e,rfl,n,rfl⟩
  refine call_any_walk (wpAny_pyIter_list pl ?_);have G4:p≠s.heap.objs.size:=K4 (Heap.lt_size e);have hk:∀ b o,s.heap.get? b=some o->(s.heap.push { cls:=.type "list_iterator",data:=.fields #[.ref p,.int 0 0] }).get? b=some o:=fun b o q=>Heap.get?_push_of_some _ q
  refine ⟨_,_,_,_,_,_,fun i=>(bs[i]?).getD false,rfl,Walks.list (show X.A.in1.handled=none from I.ok.hd hc) s.heap.objs.size p G4 its.toArray,⟨⟨_,Heap.get?_push_size _ rfl,rfl,rfl⟩,pl.at fun o q=>hk p o q⟩,?_,?_⟩
  .intro i v s' Q' E' hv hq;have u9:its[i]?=some v:=by simpa using hv
   have hb:∃ b,bs[i]?=some b/\v=.bool b:=by
    cases eb:(bs.map V.bl)[i]? with
    | none=>
     have:=rv.none_of eb
     rw [u9] at this
     cases this
    | some y=>
     obtain ⟨u,h1,h2⟩:=rv.get eb;rw [u9] at h1;cases h1;rw [M0] at eb;cases e3:bs[i]? with
     | none=>rw [e3] at eb;cases eb
     | some b=>
      rw [e3] at eb;cases eb;exact ⟨b,rfl,h2⟩
   obtain ⟨b,e1,rfl⟩:=hb;have hq:Q' ((bs[i]?).getD false) s':=hq;rw [e1] at hq;exact wpAny_truthy_bool hq
  .intro h' tk l8;have e1:(M3 its.toArray.size).any (fun i=>(bs[i]?).getD false)=bs.any id:=by
    have A9:its.toArray.size=bs.length:=by
     rw [J7,<- hl,A4]
    rw [A9,cX,List.any_eq_true,List.any_eq_true]
    constructor
    .rintro ⟨i,hi,hb⟩;rw [b8] at hi;rw [G8 hi,Option.getD_some] at hb;exact ⟨bs[i],List.getElem_mem hi,hb⟩
    .rintro ⟨b,hb,ht⟩;obtain ⟨i,hi,rfl⟩:=X5.mp hb;exact ⟨i,b8.mpr hi,by rw [G8 hi];exact ht⟩
   rw [e1];have I1:Inv X pins Y H { s with heap:=h',toks:=tk }:=I.kept fun b o q=>l8 b o (by
    intro hm
    have:b=s.heap.objs.size:=by simpa using hm
    rw [this] at q;exact absurd (Heap.lt_size q) (X6 _)) (hk b o q)
   exact ⟨.bl _,H,I1,rfl,q⟩
theorem q_any(Q4:X.calm=calm:=by rfl):QCall X (.builtin "any") (rAnyB calm):=by subst Q4;exact ⟨p_any⟩
theorem any_r{cm:Bool} : rAnyB cm [.ref p] H Q=∃ bs:List Bool,cm=true/\H p=some (.lst (bs.map V.bl))/\Q (.bl (bs.any id)) H:=rfl
end
noncomputable def jO (l : Addr) : It :=
  ⟨fun i H => ∃ xs x, H l = some (.lst xs) /\ xs[i]? = some x,
   fun i H v H' => ∃ t xs x, H l = some (.lst xs) /\ xs[i]? = some x /\ H t = none /\ v = .ref t /\ H' = A0 H t (.tup [.int i, x]),
   fun i H => ∃ xs, H l = some (.lst xs) /\ xs.length <= i⟩
theorem ajo{P:Program}{w:World}{pos:Pos}(e it l:Addr)(G4:e≠it) :
  Turn P w K (.Tuple elts x1 pos) (jO l) [e,it] e (fun i h=>(∃ old,IsEnum h e it ((i:Nat):Int) old)/\h.IsListIter it l i) where
 mem:=by simp
 obj:=fun i h ⟨⟨old,he⟩,hi⟩ c hc=>by
  have q:c=e\/c=it:=by simpa using hc
  rcases q with rfl | rfl
  .exact ⟨_,he,fun v q=>by cases q⟩
  .obtain ⟨o,e,c,d⟩:=hi;exact ⟨o,e,fun v z=>by rw [d] at z;cases z⟩
 keep:=fun i h h' ⟨⟨old,he⟩,hi⟩ k=>⟨⟨old,k e (by simp) _ he⟩,hi.at fun o q=>k it (by simp) o q⟩
 item:=by
  intro X hP hw hK hc i pins s Y H E I hf ⟨⟨old,he⟩,hi⟩ hg;subst hP hw hK;obtain ⟨xs,x,e1,hx⟩:=hg;obtain ⟨its1,U4,p1,_⟩:=I.list (D1.of (K:=X.K) e1);obtain ⟨u1,C6,r1⟩:=U4.get hx;refine wpAny_pyNext_enum_item he hi p1.isList (x:=u1) (by simpa using C6) G4 fun h' b1 b2 b3 b4 b5=>⟨_,rfl,wpAny_letOwnedTupleGo_enum b1 fun h2' c1 c2=>?_⟩
  have Z4:e<s.heap.objs.size:=Heap.lt_size he;have up:∀ c o,c≠e->h'.get? c=some o->h2'.get? c=some o:=fun c o hc q=>(c2.2 c hc).trans q
  have hT:=up _ _ (x4 Z4) b3;have nT:∀ c∈[e,it],c≠s.heap.objs.size:=fun c hc=>by
   have q:c=e\/c=it:=by simpa using hc
   refine K4 ?_
   rcases q with rfl | rfl
   .exact Z4
   .obtain ⟨o,q,_⟩:=hi;exact Heap.lt_size q
  refine ⟨.ref s.heap.objs.size,A0 H s.heap.objs.size (.tup [.int i,x]),I.turnNew (t':=s.toks+1) (ch:=[e,it]) hf (fun c u hc q=>?_) (C2 _) ⟨by show 2<=sizeLine;decide,[.int i s.toks,u1],.cons ⟨_,rfl⟩ (.cons r1 .nil),?_⟩,rfl,⟨_,xs,x,e1,hx,I.fresh,rfl,rfl⟩,
   ⟨⟨_,c1⟩,b2.at fun o q=>up _ o G4.symm q⟩,fun c hc=>by rw [A3 (nT c hc)];exact (hf c hc).1⟩
  .have q1:c≠e/\c≠it:=⟨fun q=>hc (by simp [q]),fun q=>hc (by simp [q])⟩
   exact up c u q1.1 (b5 c u q1.1 q1.2 q)
  .exact ⟨_,hT,rfl,_,rfl⟩
 done:=by
  intro X hP hw hK hc i pins s Y H E I hf ⟨⟨old,he⟩,hi⟩ hg;subst hP hw hK;obtain ⟨xs,e1,eC⟩:=hg;obtain ⟨its1,U4,p1,_⟩:=I.list (D1.of (K:=X.K) e1);have q1:=U4.length;obtain ⟨f0,f1,f2,f3,f4,f5⟩:=hf it (by simp);exact wpAny_pyNext_enum_end (I.ok.hd hc) he hi p1.isList (by simp;lia) fun h' eb=>⟨rfl,I.turned (t':=s.toks) (fun b o hb q=>eb b o hb q) f0 f1 f3 f4 f5⟩
 self:=fun _ _ _ _ _ st h=>by
  obtain ⟨⟨old,he⟩,_⟩:=st;exact wpAny_pyIter_enum he h
section
variable {X:Cx}
noncomputable def iEnum (ta:TA):TI:=fun Y H R=>ta Y H fun vs H1=>∃ (l:Addr) (xs:List V),vs=[.ref l]/\H1 l=some (.lst xs)/\R (jO l) H1
theorem anO{a:Expr}{p pos:Pos}(hg:Gl X "enumerate")(hm:X.mg "enumerate"=none)(ha:PA X [a] ta)(h1:J2 a=false:=by rfl) :
  PI X (.Tuple elts x1 tpos) (.Call (.Name "enumerate" p) [a] [] pos) (iEnum ta):=by
 intro pins s Y H R I h;refine Call_ (x8 I hg hm boot_enumerate (PyProof.Rows.callWith_type1 (A8 (ha pos pins s Y H _ I h) fun us s1 ⟨vs,H1,I1,r1,q1⟩=>?_) (L8 h1) rfl));obtain ⟨l,xs,rfl,e1,q⟩:=q1;obtain ⟨u1,rfl,eD⟩:=vals1 r1
 cases eD
 obtain ⟨its1,U4,p1,_⟩:=I1.list (D1.of (K:=X.K) e1);refine call_enumerate_list p1.isList fun h' z1 z2 z3 z4=>wpAny_pyIter_enum z1 ?_
 refine ⟨s1.heap.objs.size+1,[s1.heap.objs.size+1,s1.heap.objs.size],_,_,H1,rfl,I1.kept (t':=s1.toks) z4,ajo _ s1.heap.objs.size l (g2 (by lia)),⟨⟨_,z1⟩,z2⟩,fun b hb=>?_,q⟩;have M5:s1.heap.objs.size<=b:=by
  have e:b=s1.heap.objs.size+1\/b=s1.heap.objs.size:=by simpa using hb
  rcases e with rfl | rfl
  .exact bE _ _
  .exact C2 _
 exact I1.fpOk M5 (I1.hok.fresh M5)
theorem sN{a:Expr}{p pos:Pos}(hm:X.mg "enumerate"=none)(ha:QA X [a] ta)(hg:Gl X "enumerate":=by rfl)(h1:J2 a=false:=by rfl) :
  QI X (.Tuple elts x1 tpos) (.Call (.Name "enumerate" p) [a] [] pos) (iEnum ta):=⟨anO hg hm ha.out h1⟩
end
theorem alt{R:It->Hp->Prop} : iEnum ta Y H R=ta Y H fun vs H1=>∃ (l:Addr) (xs:List V),vs=[.ref l]/\H1 l=some (.lst xs)/\R (jO l) H1:=rfl
theorem forE{l:Addr}(Pv:Nat->St->Hp->Prop)(h0:Pv 0 Y H)(hl:∀ i Y H,Pv i Y H->H l=some (.lst xs))(hs:∀ i x t Y H,xs[i]?=some x->Pv i Y H->H t=none->g (.ref t) Y (A0 H t (.tup [.int i,x])) fun σ2 H2=>tb { D with nx:=Pv (i+1),ct:=Pv (i+1),bk:=D.nx } σ2 H2)(hd:∀ Y H,Pv xs.length Y H->D.nx Y H):ForIt (jO l) g tb D Y H:=by
 refine ⟨fun i m Y H=>m=xs.length-i/\i<=xs.length/\Pv i Y H,⟨xs.length,by simp,K8 _,h0⟩,?_⟩;rintro i m Y H ⟨rfl,hi,p⟩;have e1:=hl i Y H p
 by_cases C1:i<xs.length
 .refine .inr ⟨⟨xs,xs[i],e1,by simp⟩,Pv (i+1),fun σ' H' p'=>⟨_,by lia,rfl,C1,p'⟩,fun v H' y=>?_⟩;obtain ⟨t,xs',x,f1,hx,ht,rfl,rfl⟩:=y;rw [e1] at f1;cases f1;exact hs i x t Y H hx p ht
 .have e:i=xs.length:=by lia
  subst e;exact .inl ⟨⟨xs,e1,by lia⟩,hd Y H p⟩
noncomputable def MO (P:Program) (w:World) (K:PySem.W.Frag) (mg:Str->Option Value) (base:Heap) (k:Nat) (C:Addr) (m:Str) (ps:List Str) (sp:Sp):Prop:=
 ∃ f fd,FnOk P w K mg base D9 k f fd ps sp/\Cls K C/\Meth K C m f/\Binds K fd ps []
noncomputable def KO (P:Program) (w:World) (K:PySem.W.Frag) (mg:Str->Option Value) (base:Heap) (k:Nat) (C:Addr) (x:Str) (ps:List Str) (sp:Sp):Prop:=
 ∃ f fd,FnOk P w K mg base D9 k f fd ps sp/\Mk K C f/\mg x=some (.ref C)/\Binds K fd ps []
section
variable {X:Cx} {k:Nat} {C:Addr} {ps:List Str} {sp:Sp} {x m:Str} {p pos apos:Pos} {e o:Expr} {es:List Expr} {ta:TE} {t:TA}
theorem sO(G:KO X.prog X.w X.K X.mg X.base k C x ps sp)(hr:Room (k+1) X.A)(ha:QA X (e::es) t)(hg:Gl X x:=by rfl)(h1:J2 e=false:=by rfl)(h2:R3 es=true:=by rfl)(K2:(x==("__debug__" : Str))=false:=by decide) :
  QE X (.Call (.Name x p) (e::es) [] pos) (tMake C sp [] E0 t):=by
 obtain ⟨f,fd,F,M,hm,hb⟩:=G;exact ⟨amT M F hr hg hm hb .nil pass0 ha.out K2 (L8 h1) (p9 h2)⟩
theorem sP(ho:QE X o ta)(G:MO X.prog X.w X.K X.mg X.base k C m ps sp)(hr:Room k X.A)(ha:QA X (e::es) t)(h1:J2 e=false:=by rfl)(h2:R3 es=true:=by rfl){pl:Sem Bool}(ht:eval (.Call (.Attribute o m apos) (e::es) [] pos) X.env=(do
   let ov <- eval o X.env
   standAt apos.atName
   let (f,first) <- holding [ov] (getMethod ov m pl)
   callWith pos f first (backTo pos (starEach (e::es) X.env)) (backToKw pos (keywordEach [] X.env))):=by rfl) :
  QE X (.Call (.Attribute o m apos) (e::es) [] pos) (tMeth C m sp [] E0 ta t):=by
 obtain ⟨f,fd,F,c,hm,hb⟩:=G;exact ⟨yT ho.out c hm F hr hb .nil pass0 ha.out (L8 h1) (p9 h2) ht⟩
end
section
variable {C:Addr} {m f:Str} {sp:Sp} {K:PySem.W.Frag} {ta tv:TE} {t:TA} {Y:St} {H:Hp} {Q:VK} {D:Ends}
theorem anP:tMake C sp [] E0 t Y H Q=t Y H fun vs H1=>∀ x dx,H1 x=none->H1 dx=none->dx≠x->sp (.ref x::(vs++[])) (A0 (A0 H1 dx (.own x)) x (.ins C dx [])) (fun v H2=>v=.non/\Q (.ref x) H2) E0:=rfl
theorem anQ:tMeth C m sp [] E0 ta t Y H Q=ta Y H fun x H1=>∃ a dx fs,x=.ref a/\H1 a=some (.ins C dx fs)/\fs.lookup m=none/\t Y H1 fun vs H2=>sp (x::(vs++[])) H2 Q E0:=rfl
theorem aqH:tFld K ta f Y H Q=ta Y H fun x H1=>∃ a C dx fs v,x=.ref a/\H1 a=some (.ins C dx fs)/\Cls K C/\NoAttr K C f/\fs.lookup f=some v/\Q v H1:=rfl
theorem anR:sFld K ta tv f D Y H=tv Y H fun y H1=>ta Y H1 fun x H2=>∃ a C dx fs,x=.ref a/\H2 a=some (.ins C dx fs)/\Cls K C/\NoAttr K C f/\fs.length<1000/\D.nx Y (A0 H2 a (.ins C dx (putF f y fs))):=rfl
end
section
variable {X:Cx} {o e:Expr} {apos cpos:Pos} {td ty:TE}
theorem nB(hu:X.A.units+1<cLine)(ho:QE X o td)(he:QE X e ty)(h1:J2 e=false:=by rfl)(E9:attributeBase o "get" X.env (eval o X.env)=eval o X.env:=by rfl)(G3:(apos.endLine==cpos.line)=true:=by rfl):QE X (.Call (.Attribute o "get" apos) [e] [] cpos) (rH td ty):=
 ⟨akU hu ho.out he.out ⟨E9,by rw [L8 h1];rfl,G3,by rw [L8 h1];rfl⟩⟩
theorem alu : rH td ty Y H Q=td Y H fun x H1=>∃ a,x=.ref a/\y4 H1 a/\ty Y H1 fun y H2=>∃ o,DGet H2 a y o/\Q (o.getD .non) H2:=rfl
end
noncomputable def rIntB:List V->Hp->VK->Prop
 | [.bl b],H,Q=>Q (.int (if b then 1 else 0)) H
 | _,_,_=>False
theorem int_b{b:Bool} : rIntB [.bl b] H Q=Q (.int (if b then 1 else 0)) H:=rfl
end L2
set_option maxRecDepth 100000
namespace L2
open PySem PySem.Spec PyProof.Rows
noncomputable abbrev Rl:=Str×List Str
noncomputable def tupR (z:Rl):HO:=.tup ((z.1::z.2).map V.str)
structure IsRules(H:Hp)(a:Addr)(rs:List Addr)(R:List Rl):Prop where
 top:H a=some (.lst (rs.map V.ref))
 row:Paired (fun r z=>H r=some (tupR z)) rs R
theorem IsRules.same{R:List Rl}(h:IsRules H a rs R)(s:Same H H'):IsRules H' a rs R:=⟨s _ _ h.top,R1 h.row fun _ _ e=>s _ _ e⟩
theorem IsRules.len{R:List Rl}(h:IsRules H a rs R):rs.length=R.length:=Paired.length h.row
noncomputable def N2 (z:Rl):List Str:=if z.1=("great" : Str) then z.2.drop 1 else if z.1=("as" : Str) then z.2.take 1 else if z.1=("row" : Str)\/z.1=("marks" : Str)\/z.1=("over" : Str) then z.2 else []
noncomputable def jobD (w:Str):Str:=if w=("row" : Str) then "letter" else if w=("marks" : Str) then "mark" else w
noncomputable def E1 (R:List Rl):List (Str×Str):=R.flatMap fun z=>(N2 z).map fun p=>(p,jobD z.1)
noncomputable def hasW (R:List Rl) (w:Str):Bool:=R.any fun z=>decide (z.1=w)
noncomputable def figO (c:Nat):Bool:=decide (48<=c)&&decide (c<=57)
noncomputable def jP:List Str:=["letter", "mark", "over"]
noncomputable def NC (figs:Bool) (g:Str->Str) (PL:List (Str×Str)):Prop:=∀ i p j,PL[i]?=some (p,j)->j=g p/\(p∈(PL.take i).map (·.1)->j∈jP)/\(figs=true->∀ c∈p.cps.toList,figO c=false)/\p.length<=1000
noncomputable def keysP (PL:List (Str×Str)):List Str:=J0 [] (PL.map (·.1))
theorem aeR{R:List Rl}{z:Rl}(h:R[i]?=some z):E1 (R.take (i+1))=E1 (R.take i)++(N2 z).map fun p=>(p,jobD z.1):=by
 rw [R4,h];unfold E1;rw [aZ]
 simp
theorem afY(R:List Rl)(i:Nat):∃ more,E1 R=E1 (R.take i)++more:=⟨E1 (R.drop i),by
 unfold E1;rw [<- aZ,aY]⟩
theorem ah3(PL:List (Str×Str))(p j:Str):keysP (PL++[(p,j)])=dd (keysP PL) p:=by
 unfold keysP J0;rw [E5,o5];rfl
theorem sQ(x:Str)(PL:List (Str×Str)):x∈keysP PL↔x∈PL.map (·.1):=by
 unfold keysP;rw [bQ]
 simp
theorem afZ(PL:List (Str×Str)):(keysP PL).length<=PL.length:=by
 have:=dA (PL.map (·.1)) []
 rw [A4] at this
 simpa [keysP] using this
noncomputable def rowsW (R:List Rl) (w:Str):List (List Str):=(R.filter fun z=>decide (z.1=w)).map (·.2)
theorem aeS{R:List Rl}{z:Rl}{w:Str}(h:R[i]?=some z):rowsW (R.take (i+1)) w=if z.1=w then rowsW (R.take i) w++[z.2] else rowsW (R.take i) w:=by
 rw [R4,h];unfold rowsW;rw [o1,E5]
 by_cases e:z.1=w
 .rw [if_pos e,fL,eZ (by simpa using e)];rfl
 .rw [if_neg e,fL,iJ (by simpa using e)];simp
theorem g3{hi:Option Int}(hk:1<=k)(hn:1<=n):¬ (HT.sIx n 0 (some (k:Int))=0/\HT.sIx n n hi=n):=fun h=>by
 have:=h.1
 rw [HT.sIx_nat] at this;lia
noncomputable abbrev jobsL:List (B5×V):=[((Sum.inr ("row" : Str):B5),V.str "letter"),(Sum.inr ("marks" : Str),V.str "mark"),(Sum.inr ("great" : Str),V.str "great"),(Sum.inr ("as" : Str),V.str "as"),(Sum.inr ("over" : Str),V.str "over")]
noncomputable def dF (w:Str):Prop:=w=("row" : Str)\/w=("marks" : Str)\/w=("great" : Str)\/w=("as" : Str)\/w=("over" : Str)
theorem sR{w:Str}(h:dF w):valV jobsL (Sum.inr w)=some (.str (jobD w)):=by
 rcases h with rfl | rfl | rfl | rfl | rfl <;> decide +kernel
theorem alv{w:Str}(h:¬ dF w):valV jobsL (Sum.inr w)=none:=by
 unfold dF at h;have n:∀ u:Str,w≠u->¬ ((Sum.inr u:B5)=Sum.inr w):=fun u hu e=>hu (Sum.inr.inj e).symm
 rw [y3 (n _ (fun e=>h (.inl e))),y3 (n _ (fun e=>h (.inr (.inl e)))),y3 (n _ (fun e=>h (.inr (.inr (.inl e))))),y3 (n _ (fun e=>h (.inr (.inr (.inr (.inl e)))))),y3 (n _ (fun e=>h (.inr (.inr (.inr (.inr e))))))];rfl
theorem jQ{z:Rl}{p:Str}(h:p∈N2 z):dF z.1:=by
 unfold N2 at h;unfold dF
 split at h
 .rename_i e;exact .inr (.inr (.inl e))
 .split at h
  .rename_i e;exact .inr (.inr (.inr (.inl e)))
  .split at h
   .rename_i e
    rcases e with e | e | e
    .exact .inl e
    .exact .inr (.inl e)
    .exact .inr (.inr (.inr (.inr e)))
   .cases h
theorem aqI{R:List Rl}{z:Rl}{p:Str}(hz:R[i]?=some z)(hp:(N2 z)[j]?=some p) :
  (E1 R)[(E1 (R.take i)).length+j]?=some (p,jobD z.1)/\(E1 R).take ((E1 (R.take i)).length+j)=E1 (R.take i)++((N2 z).take j).map fun p=>(p,jobD z.1):=by
 obtain ⟨more,e⟩:=afY R (i+1);rw [aeR hz,i5] at e;have hj:j<(N2 z).length:=(J4.mp hp).1;rw [e]
 constructor
 .rw [X2 (bE _ _),Nat.add_sub_cancel_left,Z9 (by rw [A4];exact hj),M0,hp];rfl
 .rw [List.take_append,X4 (bE _ _),Nat.add_sub_cancel_left,List.take_append_of_le_length (by rw [A4];lia),List.map_take]
theorem sS{c d:Nat} : (([c]:List Nat)<[d])↔c<d:=by
 constructor
 .intro h;cases h with
  | rel h=>exact h
  | cons h=>cases h
 .intro h;exact List.Lex.rel h
theorem C8.same(e:Same H H')(h:C8 K H a xs):C8 K H' a xs:=by
 rcases h with (h | ⟨o,h⟩) | h
 .exact .inl (.inl (e _ _ h))
 .exact .inl (.inr ⟨o,e _ _ h⟩)
 .exact .inr h
theorem C8.dput{d:Addr}{o:HO}(hd:H d=some (.dK kvs))(h:C8 K H a xs):C8 K (A0 H d o) a xs:=by
 rcases h with (h | ⟨o,h⟩) | h
 .exact .inl (.inl (by rw [A3 (fun e=>by rw [e,hd] at h;cases h)];exact h))
 .exact .inl (.inr ⟨o,by rw [A3 (fun e=>by rw [e,hd] at h;cases h)];exact h⟩)
 .exact .inr h
noncomputable def spHas (K:PySem.W.Frag):Sp:=fun vs H Q _=>∃ (a:Addr) (ts:List Addr) (R:List Rl) (w:Str),vs=[.ref a,.str w]/\IsRules H a ts R/\R.length<=1000/\∀ H',Same H H'->Q (.bl (hasW R w)) H'
noncomputable def ajq (K:PySem.W.Frag):Sp:=fun vs H Q _=>∃ (t:Addr) (z:Rl),vs=[.ref t]/\H t=some (tupR z)/\∀ p H',Same H H'->C8 K H' p ((N2 z).map V.str)->Q (.ref p) H'
noncomputable def ajr:Sp:=fun vs H Q _=>∃ (d:Addr) (p j:Str) (fg:Bool) (ks:List Str) (g:Str->Str),vs=[.ref d,.str p,.str j,.bl fg]/\H d=some (.dK (C0 ks fun t=>.str (g t)))/\p.length<=1000/\(p∈ks->g p=j/\j∈jP)/\(fg=true->∀ c∈p.cps.toList,figO c=false)/\
 ∀ H',Same H H'->Q (.bl false) H'
noncomputable def bR (R:List Rl):List Str:=if hasW R "blanks"=true then [" "] else []
noncomputable def jobG (g:Str->Str):Str->V:=fun t=>if t=(" " : Str) then .str "over" else .str (g t)
noncomputable def amk (K:PySem.W.Frag):Sp:=fun vs H Q _=>∃ (a:Addr) (ts:List Addr) (R:List Rl) (g:Str->Str),vs=[.ref a]/\IsRules H a ts R/\R.length<=1000/\(E1 R).length<=10000/\NC (hasW R "figures") g (E1 R)/\(" " : Str)∉(E1 R).map (·.1)/\
 ∀ d H',H d=none->Same H H'->H' d=some (.dK (C0 (keysP (E1 R)++bR R) (jobG g)))->Q (.ref d) H'
noncomputable def ordF (f b:Bool) (j ll ml md:Addr):List (Str×V):=putF "made" (.ref md) (putF "mark_line" (.ref ml) (putF "letter_line" (.ref ll) (putF "jobs" (.ref j) (putF "behind" (.bl b) (putF "figures" (.bl f) [])))))
theorem IsRules.but{x:Addr}{R:List Rl}(h:IsRules H a rs R)(s:SameBut x H H'){fs:List (Str×V)}(hx:H x=some (.ins C dx fs)):IsRules H' a rs R:=
 ⟨s _ _ (fun e=>by have:=h.top;rw [e,hx] at this;cases this) h.top,R1 h.row fun t z e=>s _ _ (fun q=>by rw [q,hx] at e;cases e) e⟩
theorem SameBut.trans{x:Addr}(a:SameBut x H H1)(b:SameBut x H1 H2):SameBut x H H2:=fun c o hc h=>b c o hc (a c o hc h)
theorem Same.but{x:Addr}(a:Same H H1):SameBut x H H1:=fun c o _ h=>a c o h
noncomputable def j7 (R:List Rl) (w:Str) (L:List Str):Prop:=R8 (edges (rowsW R w)) (toldL (rowsW R w)) L/\∀ p∈toldL (rowsW R w),p∈L
structure IsOrder(C:Addr)(H:Hp)(x:Addr)(g:Str->Str)(R:List Rl)(L M:List Str):Prop where
 ob:∃ dx j ll ml md,H x=some (.ins C dx (ordF (hasW R "figures") (hasW R "behind") j ll ml md))/\H j=some (.dK (C0 (keysP (E1 R)++bR R) (jobG g)))/\H ll=some (.lst (L.map V.str))/\H ml=some (.lst (M.map V.str))
 l1:j7 R "row" L
 l2:j7 R "marks" M
noncomputable def aml (K:PySem.W.Frag):Sp:=fun vs H Q _=>∃ (a:Addr) (ts:List Addr) (R:List Rl) (w:Str) (rank:Str->Nat),vs=[.ref a,.str w]/\IsRules H a ts R/\R.length<=1000/\(rowsW R w).flatten.length<=100000/\(∀ e∈edges (rowsW R w),rank e.1<rank e.2)/\
 ∀ (l:Addr) (line:List Str) (H':Hp),H l=none->Same H H'->H' l=some (.lst (line.map V.str))->R8 (edges (rowsW R w)) (toldL (rowsW R w)) line->(∀ p∈toldL (rowsW R w),p∈line)->Q (.ref l) H'
noncomputable def cellF (ns:List Int) (k:Int):Int:=if k<(ns.length:Int) then ns.getD k.toNat 0 else 0
noncomputable def sT (K:PySem.W.Frag):Sp:=fun vs H Q _=>∃ (a:Addr) (ns:List Int) (k:Int),vs=[.ref a,.int k]/\D1 K H a (ns.map V.int)/\0<=k/\Q (.int (cellF ns k)) H
noncomputable def SA:Str:=Str.ofString "!\"#$&'()*+,-./:;<=>?@ABCDEFGHIJKLMNOPQRSTUVWXYZ[\\]^_`abcdefghijklmnopqrstuvwxyz{|}~"
noncomputable def LA:List Nat:=SG.filter fun c=>!figO c
noncomputable def LB:List Nat:=LA++[48,49,50,51,52,53,54,55,56,57]
noncomputable def listF (d:Bool):List Nat:=if d=true then LB else LA
noncomputable def lenF (d:Bool):Int:=if d=true then 93 else 83
noncomputable def sU (ns:List Int):Bool:=decide (cellF ns 1 / 12 % 2=0)
noncomputable def stepO:List Int:=[1,2,4,5,7,8,10,11,13,23,44,80]
noncomputable def stO (ns:List Int):Int:=(L7 stepO (cellF ns 1 % 12)).getD 0
noncomputable def gF (ns:List Int) (k:Int):Nat:=(L7 (listF (sU ns)) ((cellF ns 0+k*stO ns) % lenF (sU ns))).getD 33
end L2
set_option maxRecDepth 100000
namespace L2
open PySem PySem.Spec PyProof.Rows
open AutoSeq1 (wpAny_loadPart' idx_int)
noncomputable abbrev bareL (ys:Array Value) (k:Nat):Obj:=⟨.type "list",none,.seq ys k,#[]⟩
noncomputable abbrev anyT (dd:Option Addr) (ys:Array Value) (k:Nat) (ss:Array (Option Value)):Obj:=⟨.type "tuple",dd,.seq ys k,ss⟩
theorem aee{l:Addr}{ys zs:Array Value}{k2:Nat}{dd:Option Addr}(short:¬ (!ys.isEmpty&&Builtin.List.listTooLong (ys.size+zs.size))=true)(h1:ys.size<=sizeLine)(h2:ys.size+zs.size<=sizeLine+1) :
  Meets (Builtin.«list.extend» ⟨[.ref l,.ref b],[]⟩) (fun _ R s=>s.heap.get? l=some (bareL ys k)/\s.heap.get? b=some (anyT dd zs k2 ss)/\R (.ok (.ret .none)) { s with heap:=s.heap.update l (Obj.mapSeq (·++zs)),toks:=s.toks }):=by
 refine .of_wp fun _ _ _ R s ⟨gl,gb,fin⟩=>?_
 rcases s with ⟨hp,gens,dr,tk,sys⟩
 have c1:=idx_int;have c2:=AutoSeq1.sub_tuple_tuple;have c3:=AutoSeq1.sub_list_list;have c4:=AutoSeq1.sub_tuple_list;have c5:=AutoSeq1.sub_list_tuple;have room:(ys++zs).size<=sizeLine+1:=Array.size_append ▸ h2
 wp_walk using (wpAny_updateSeq gl rfl (hz:=h1) (_hz':=room)),wpAny_loadPart' gl,wpAny_loadPart' gb
 exact ⟨_,rfl,fin⟩
section
variable {X:Cx}
noncomputable def ahh (K:PySem.W.Frag):V->List V->Hp->VK->Prop:=fun x vs H Q=>∃ l b xs zs,x=.ref l/\vs=[.ref b]/\H l=some (.lst xs)/\C8 K H b zs/\xs.length+zs.length<=sizeLine/\Q .non (A0 H l (.lst (xs++zs)))
theorem ah4:jA X "list.extend" (ahh X.K):=by
 intro pins s Y H x vs v us Q I rx rv h;obtain ⟨l,b,xs,zs,rfl,rfl,hH,hB,hz,q⟩:=h
 cases rx
 obtain ⟨u,rfl,ru⟩:=rv.one
 cases ru
 obtain ⟨z,its,n,r,hl,e⟩:=I.lstM hH;obtain ⟨its2,r2,⟨⟨c,dct,dt,sl⟩,e2,hc,n2,hd⟩,W4⟩:=I.tuple hB
 replace hc:c=.type "tuple":=hc
 replace hd:dt=.seq its2.toArray n2:=hd
 subst hc hd;have q1:=r2.length;have hsz:its.toArray.size+its2.toArray.size<=sizeLine:=by rw [J7,J7];lia
 have l6:¬ (!its.toArray.isEmpty&&Builtin.List.listTooLong (its.toArray.size+its2.toArray.size))=true:=by
  rw [zF hsz,Bool.and_false];exact K9
 refine call_meets F.slot_list_extend ⟨_,e,rfl⟩ F.entry_list_extend (F.args_list_extend_2 _ _)
  (aee (k:=n) (k2:=n2) (dd:=dct) (ss:=sl) l6 (by rw [J7];lia) (by lia)) ⟨e,e2,?_⟩
 refine ⟨.non,_,I.lset (its':=its++its2) hH e (by simp) (r.append r2) ?_,rfl,q⟩;rw [E3];lia
theorem ajs(hK:X.K=K:=by rfl):QMt X "list.extend" (ahh K):=by subst hK;exact ⟨fun pins s Y H x xs v us Q I rx rv h=>ah4 pins s Y H x xs v us Q I rx rv h⟩
noncomputable def rMulS:V->V->Hp->VK->Prop:=fun x y H Q=>∃ z n,x=.str z/\y=.int n/\MulOk z n/\Q (.str (Txt.mul z n)) H
theorem aqJ:G0 X (binaryOp .Mult) rMulS:=by
 intro pins s Y H x y v u Q I rx ry h;obtain ⟨z,n,rfl,rfl,h1,q⟩:=h;obtain ⟨t,rfl⟩:=rx;obtain ⟨t2,rfl⟩:=ry;exact SB.mul h1 fun t' k=>⟨.str _,H,I.tok k,⟨_,rfl⟩,q⟩
theorem sV:QOp X (binaryOp .Mult) rMulS:=⟨aqJ⟩
end
noncomputable def nC (l : Addr) (n : Nat) : It :=
  ⟨fun i H => ∃ xs x, H l = some (.lst xs) /\ i<n /\ xs[n-1-i]? = some x,
   fun i H v H' => H' = H /\ ∀ xs, H l = some (.lst xs) -> xs[n-1-i]? = some v,
   fun i H => ∃ xs, H l = some (.lst xs) /\ n <= i⟩
theorem alw{P:Program}{w:World}(l it:Addr)(n:Nat):Turn P w K tg (nC l n) [it] it (fun i h=>i<=n/\h.IsRevIter it l ((n:Int)-1-(i:Int))) where
 mem:=by simp
 obj:=fun i h st b hb=>by
  have e:b=it:=by simpa using hb
  subst e;obtain ⟨_,o,e,c,d⟩:=st;exact ⟨o,e,fun v z=>by rw [d] at z;cases z⟩
 keep:=fun i h h' st k=>⟨st.1,st.2.at fun o e=>k it (by simp) o e⟩
 item:=by
  intro X hP hw hK hc i pins s Y H E I hf st hg;subst hP hw hK;obtain ⟨xs,x,hq,hi,hx⟩:=hg;obtain ⟨its,rv,p,hz⟩:=I.list (D1.of (K:=X.K) hq);obtain ⟨u,hu,ru⟩:=rv.get hx;obtain ⟨f0,f1,f2,f3,f4,f5⟩:=hf it (by simp);obtain ⟨gX,k8⟩:=st;rw [show (n:Int)-1-(i:Int)=((n-1-i:Nat):Int) by lia] at k8;refine wpAny_pyNext_rev_item k8 p.isList (x:=u) (by simpa using hu) fun h' st' sb=>?_
  have I1:Inv X pins Y H { s with heap:=h' }:=I.turned (t':=s.toks) (fun b o hb e=>(sb.2 b hb).trans e) f0 f1 f3 f4 f5;obtain ⟨o,e,c,d⟩:=id st';rw [show ((n-1-i:Nat):Int)-1=(n:Int)-1-((i+1:Nat):Int) by lia] at st';exact ⟨u,rfl,go_of (s:={ s with heap:=h' }) e c d (by decide) ⟨x,H,I1,ru,⟨rfl,fun ys hy=>by rw [hq] at hy;cases hy;exact hx⟩,⟨hi,st'⟩,fun b hb=>(hf b hb).1⟩⟩
 done:=by
  intro X hP hw hK hc i pins s Y H E I hf st hg;subst hP hw hK;obtain ⟨xs,hq,hx⟩:=hg;obtain ⟨f0,f1,f2,f3,f4,f5⟩:=hf it (by simp);obtain ⟨gX,k8⟩:=st;rw [show (n:Int)-1-(i:Int)=-1 by lia] at k8;exact wpAny_pyNext_rev_end (I.ok.hd hc) k8 fun h' eb=>⟨rfl,I.turned (t':=s.toks) (fun b o hb e=>eb b o hb e) f0 f1 f3 f4 f5⟩
 self:=fun _ _ _ _ _ st h=>wpAny_pyIter_revIter st.2 h
theorem afg:bootBuiltins "reversed"=some (.type "reversed"):=by decide +kernel
section
variable {X:Cx}
noncomputable def iRev (ta:TA):TI:=fun Y H R=>ta Y H fun vs H1=>∃ (l:Addr) (xs:List V),vs=[.ref l]/\H1 l=some (.lst xs)/\R (nC l xs.length) H1
theorem aqK{a:Expr}{p pos:Pos}(hg:Gl X "reversed")(hm:X.mg "reversed"=none)(ha:PA X [a] ta)(h1:J2 a=false:=by rfl) :
  PI X tg (.Call (.Name "reversed" p) [a] [] pos) (iRev ta):=by
 intro pins s Y H R I h;refine Call_ (x8 I hg hm afg (PyProof.Rows.callWith_type1 (A8 (ha pos pins s Y H _ I h) fun us s1 ⟨vs,H1,I1,r1,q1⟩=>?_) (L8 h1) rfl));obtain ⟨l,xs,rfl,e1,q⟩:=q1;obtain ⟨u1,rfl,eD⟩:=vals1 r1
 cases eD
 obtain ⟨its1,U4,p1,_⟩:=I1.list (D1.of (K:=X.K) e1);have q1:=U4.length;refine call_reversed_list p1.isList ?_;have z1:(s1.heap.push (revObj l ((its1.toArray.size:Int)-1))).IsRevIter s1.heap.objs.size l ((xs.length:Int)-1-((0:Nat):Int)):=⟨_,Heap.get?_push_size _ rfl,rfl,by simp [revObj,q1]⟩
 refine wpAny_pyIter_revIter z1 ?_;refine ⟨s1.heap.objs.size,[s1.heap.objs.size],_,_,H1,rfl,I1.kept (t':=s1.toks) fun b o e=>Heap.get?_push_of_some _ e,alw l s1.heap.objs.size xs.length,⟨K8 _,z1⟩,fun b hb=>?_,q⟩;have M5:s1.heap.objs.size<=b:=by
  have e:b=s1.heap.objs.size:=by simpa using hb
  rw [e];exact C2 _
 exact I1.fpOk M5 (I1.hok.fresh M5)
theorem aqL{a:Expr}{p pos:Pos}(hm:X.mg "reversed"=none)(ha:QA X [a] ta)(hg:Gl X "reversed":=by rfl)(h1:J2 a=false:=by rfl) :
  QI X tg (.Call (.Name "reversed" p) [a] [] pos) (iRev ta):=⟨aqK hg hm ha.out h1⟩
end
theorem anS{R:It->Hp->Prop} : iRev ta Y H R=ta Y H fun vs H1=>∃ (l:Addr) (xs:List V),vs=[.ref l]/\H1 l=some (.lst xs)/\R (nC l xs.length) H1:=rfl
theorem forV{l:Addr}(Pv:Nat->St->Hp->Prop)(h0:Pv 0 Y H)(hl:∀ i Y H,Pv i Y H->H l=some (.lst xs))(hs:∀ i x Y H,xs.reverse[i]?=some x->Pv i Y H->g x Y H fun σ2 H2=>tb { D with nx:=Pv (i+1),ct:=Pv (i+1),bk:=D.nx } σ2 H2)(hd:∀ Y H,Pv xs.length Y H->D.nx Y H):ForIt (nC l xs.length) g tb D Y H:=by
 refine ⟨fun i m Y H=>m=xs.length-i/\i<=xs.length/\Pv i Y H,⟨xs.length,by simp,K8 _,h0⟩,?_⟩;rintro i m Y H ⟨rfl,hi,p⟩;have e1:=hl i Y H p
 by_cases C1:i<xs.length
 .have e2:xs.reverse[i]?=xs[xs.length-1-i]?:=List.getElem?_reverse C1;refine .inr ⟨⟨xs,xs[xs.length-1-i],e1,C1,G8 (by lia)⟩,Pv (i+1),fun σ' H' p'=>⟨_,by lia,rfl,C1,p'⟩,fun v H' y=>?_⟩;obtain ⟨rfl,y⟩:=y;exact hs i v Y _ (by rw [e2];exact y xs e1) p
 .have e:i=xs.length:=by lia
  subst e;exact .inl ⟨⟨xs,e1,C2 _⟩,hd Y H p⟩
noncomputable abbrev bS (l:Addr):Obj:={ cls:=.type "list_iterator",data:=.fields #[.ref l,.int 0 0] }
noncomputable abbrev gG (it:Addr) (i:Int):Obj:={ cls:=.type "enumerate",data:=.fields #[.none,.bool false,.ref it,rawInt i,.none,.none] }
noncomputable abbrev anyL (dd:Option Addr) (ys:Array Value) (k:Nat) (ss:Array (Option Value)):Obj:=⟨.type "list",dd,.seq ys k,ss⟩
set_option maxHeartbeats 4000000 in
theorem aex{l:Addr}{ys:Array Value}{dd:Option Addr}{i:Int}{t:Tok}(fits:Builtin.SmallTypes.fitsIndex i=true) :
  Meets (Builtin.«enumerate.__new__» ⟨[.type "enumerate",.ref l],[("start",.int i t)]⟩) (fun _ R s=>s.heap.get? l=some (anyL dd ys k ss)/\
   R (.ok (.ret (.ref (s.heap.push (bS l)).objs.size))) { s with heap:=(s.heap.push (bS l)).push (gG s.heap.objs.size i) }):=by
 refine .of_wp fun _ _ _ R s ⟨gl,fin⟩=>?_
 rcases s with ⟨hp,gens,dr,tk,sys⟩
 have c1:=sub_enumerate;have isl:Heap.IsList (Shared.heap ⟨hp,gens,dr,tk,sys⟩) l ys:=⟨_,gl,rfl,k,rfl⟩
 wp_walk using wpAny_loadPart' gl
 refine wpAny_stack_any fun _=>wpAny_pure ?_
 split
 case h_1 c _ _ _ _ _=>
  generalize (c==Value.type "enumerate")=truth
  cases truth <;> (wp_walk using wpAny_loadPart' gl,wpAny_pyIter_list isl;exact ⟨_,rfl,fin⟩)
 case h_2=>(wp_walk using wpAny_loadPart' gl,wpAny_pyIter_list isl;exact ⟨_,rfl,fin⟩)
theorem ah5(a b:Value):checkTypeCall "enumerate" ⟨[a],[("start",b)]⟩=pure ():=by kernel_rfl
theorem aju(a b:Value):checkBuiltinCall "enumerate.__new__" ⟨[.type "enumerate",a],[("start",b)]⟩=pure ():=by kernel_rfl
theorem ah6(a b c:Value):argsOk "object.__init__" ⟨[a,b],[("start",c)]⟩:=by
 unfold argsOk;rw [signature?_of (id:="object.__init__") (n:="__init__".toList.reverse) (o:="object".toList.reverse) (by kernel_rfl) F.owner_object]
 kernel_rfl
theorem ajv{self b c:Value} : Meets (Builtin.«object.__init__» ⟨[self,b],[("start",c)]⟩) (fun _ R s=>s.TypeIs self "enumerate"/\R (.ok (.ret .none)) s):=by
 have c1:=F.called_enumerate.init.lookup;have c2:=F.called_enumerate.made;refine .of_wp fun _ _ _ R s ⟨isT,fin⟩=>?_
 repeat (any_goals (first | assumption | wp_step))
 exact ⟨_,rfl,fin⟩
section
variable {prog:Program} {w:World} {A:Around} {E:Value->Shared->Prop} {s:Shared}
theorem aef{l:Addr}{ys:Array Value}{i:Int}{t:Tok}{Q:Value->Shared->Prop}(isl:s.heap.IsList l ys)(fits:Builtin.SmallTypes.fitsIndex i=true)(fin:∀ h',IsEnum h' (s.heap.objs.size+1) s.heap.objs.size i .none->h'.IsListIter s.heap.objs.size l 0->(∀ b o,s.heap.get? b=some o->h'.get? b=some o)->Q (.ref (s.heap.objs.size+1)) { s with heap:=h' }) :
  wpAny (model prog w) A (call (.type "enumerate") [.ref l] [("start",.int i t)]) Q E s:=by
 obtain ⟨⟨c,dd,dt,ss⟩,gl,hc,k,hd⟩:=isl;obtain rfl:c=.type "list":=hc;obtain rfl:dt=.seq ys k:=hd;obtain ⟨hd0,tl,c1⟩:=F.called_enumerate.mro;have c2:=F.called_enumerate.made;have c3:=F.called_enumerate.sub;have c4:=F.called_enumerate.notType;have c5:=F.called_enumerate.canCreate;have c6:=F.called_enumerate.init.lookup;have c7:=ah5 (.ref l) (.int i t);refine wpAny_call (codeAny_of_tree (show wpAny _ _ (callAny (.type "enumerate") _) _ _ _ from wpAny_pure ⟨Code.quiet_builtin _ (by decide +kernel),codeAny_builtin F.entry_type_call ?_⟩));rw [Around.under_plain (weight_type_call_type "enumerate" [.ref l] [("start",.int i t)]) (units_type_call_type "enumerate" [.ref l] [("start",.int i t)])]
 repeat (any_goals (first | assumption | wp_step))
 have z:(s.heap.push (bS l)).objs.size=s.heap.objs.size+1:=Heap.size_push ..;have made:IsEnum ((s.heap.push (bS l)).push (gG s.heap.objs.size i)) (s.heap.objs.size+1) s.heap.objs.size i .none:=by
  have g:=Heap.get?_push_size (s.heap.push (bS l)) (o:=gG s.heap.objs.size i) rfl;rw [z] at g;exact g
 have done:=fin _ made ⟨_,Heap.get?_push_of_some _ (Heap.get?_push_size _ rfl),rfl,rfl⟩ fun b o g=>Heap.get?_push_of_some _ (Heap.get?_push_of_some _ g)
 refine codeAny_mono (codeAny_call_builtin F.called_enumerate.plain F.entry_enumerate_new (wpAny_of_eq (aju _ _) (aex (dd:=dd) (k:=k) (ss:=ss) fits prog w A.in1 (wants (fun v s2=>v=.ref (s.heap.objs.size+1)/\s2={ s with heap:=(s.heap.push (bS l)).push (gG s.heap.objs.size i) }) E) s ⟨gl,?_,?_⟩))) ?_
 .rw [z]
 .rfl
 .intro r s1 hr
  rcases r with e | fl
  .exact hr
  .cases fl with
   | ret v=>
    obtain ⟨rfl,rfl⟩:=hr;have isT:Shared.TypeIs { s with heap:=(s.heap.push (bS l)).push (gG s.heap.objs.size i) } (.ref (s.heap.objs.size+1)) "enumerate":=⟨_,made,rfl⟩
    have c8:=F.called_enumerate.init.bind (.ref (s.heap.objs.size+1))
    repeat (any_goals (first | assumption | wp_step))
    have ran:=ajv (self:=.ref (s.heap.objs.size+1)) (b:=.ref l) (c:=.int i t) prog w A.in1 (wants (fun v s2=>v=.none/\s2={ s with heap:=(s.heap.push (bS l)).push (gG s.heap.objs.size i) }) E) _ ⟨isT,rfl,rfl⟩;refine codeAny_mono (codeAny_call_builtin F.called_enumerate.init.plain F.entry_object_init (F.called_enumerate.init.check _ _ _ _ _ _ _ _ isT (ah6 _ _ _) ran)) fun r s2 hr=>?_
    rcases r with e | fl
    .exact hr
    .cases fl with
     | ret v=>
      obtain ⟨rfl,rfl⟩:=hr
      repeat (any_goals (first | assumption | wp_step))
     | next=>exact hr.elim
     | brk=>exact hr.elim
     | cont=>exact hr.elim
   | next=>exact hr.elim
   | brk=>exact hr.elim
   | cont=>exact hr.elim
end
theorem aqM{w:World}(calm:A.handled=none){l:Addr}(apart:l≠it)(ys:Array Value) :
  Draws prog w A it [it,l] (ys.size+1) (fun i v=>1<=i/\ys[i-1]?=some v) (fun i h=>1<=i/\h.IsListIter it l (i-1)/\h.IsList l ys):=by
 have D:=Draws.list (prog:=prog) (w:=w) calm it l apart ys;refine ⟨fun i h st=>D.live (i-1) h st.2,fun i h h' st same=>⟨st.1,D.frame (i-1) h h' st.2 same⟩,fun i s Q E hi st fin=>?_,fun s Q E st fin=>D.done s Q E st.2 fin⟩;refine D.item (i-1) s Q E (by have:=st.1;lia) st.2 fun x h' tk px st' sb=>fin x h' tk ⟨st.1,px⟩ ⟨by lia,?_⟩ sb
 rw [show i+1-1=i-1+1 by have:=st.1;lia];exact st'
theorem aqN{w : World}(calm : A.handled = none){l: Addr}{ys : Array Value}(none : ys[i]? = none) :
    Draws prog w A it [it, l] (i+1) (fun _ _ => True) (fun k h => k = i+1 /\ h.IsListIter it l i /\ h.IsList l ys) :=
  ⟨fun _ _ st => let ⟨o, ho, _⟩ := st.2.1; ⟨o, ho⟩, fun _ _ _ st same => ⟨st.1, st.2.1.at fun o g => same it (by simp) o g, st.2.2.at fun o g => same l (by simp) o g⟩,
   fun k s Q E hk st => absurd st.1 (by lia), fun s Q E st fin => wpAny_nextOf_list_end calm st.2.1 st.2.2 none fin⟩
noncomputable def Ite1 (l : Addr) : It :=
  ⟨fun i H => ∃ xs x, H l = some (.lst xs) /\ xs[i]? = some x,
   fun i H v H' => ∃ t xs x, H l = some (.lst xs) /\ xs[i]? = some x /\ H t = none /\ v = .ref t /\ H' = A0 H t (.tup [.int (i+1 : Nat), x]),
   fun i H => ∃ xs, H l = some (.lst xs) /\ xs.length <= i⟩
theorem ah7{P:Program}{w:World}{pos:Pos}(e it l:Addr)(G4:e≠it) :
  Turn P w K (.Tuple elts x1 pos) (Ite1 l) [e,it] e (fun i h=>(∃ old,IsEnum h e it ((i+1:Nat):Int) old)/\h.IsListIter it l i) where
 mem:=by simp
 obj:=fun i h ⟨⟨old,he⟩,hi⟩ c hc=>by
  have q:c=e\/c=it:=by simpa using hc
  rcases q with rfl | rfl
  .exact ⟨_,he,fun v q=>by cases q⟩
  .obtain ⟨o,e,c,d⟩:=hi;exact ⟨o,e,fun v z=>by rw [d] at z;cases z⟩
 keep:=fun i h h' ⟨⟨old,he⟩,hi⟩ k=>⟨⟨old,k e (by simp) _ he⟩,hi.at fun o q=>k it (by simp) o q⟩
 item:=by
  intro X hP hw hK hc i pins s Y H E I hf ⟨⟨old,he⟩,hi⟩ hg;subst hP hw hK;obtain ⟨xs,x,e1,hx⟩:=hg;obtain ⟨its1,U4,p1,_⟩:=I.list (D1.of (K:=X.K) e1);obtain ⟨u1,C6,r1⟩:=U4.get hx;have C1:i<its1.length:=(J4.mp C6).1;obtain ⟨ol,gl,cl,_⟩:=p1.isList;have nli:l≠it:=fun q=>by
   obtain ⟨oi,gi,ci,_⟩:=hi;rw [q,gi] at gl
   cases gl
   rw [ci] at cl;exact absurd cl (by decide)
  have nle:e≠l:=fun q=>by
   rw [<- q,he] at gl
   cases gl
   exact absurd (show Value.type "enumerate"=Value.type "list" from cl) (by decide)
  refine wpAny_pyNext_enum_itemD (i:=i+1) (aqM (A:=X.A.in1) (show X.A.in1.handled=none from I.ok.hd hc) nli its1.toArray) he ⟨by lia,by simpa using hi,p1.isList⟩ (by simp;lia) G4 (by simp [G4,nle]) fun y h' tk py b1 b2 b3 b4 b5=>?_
  obtain rfl:u1=y:=by
   have:=py.2
   simp [C6] at this;exact this
  refine ⟨_,rfl,wpAny_letOwnedTupleGo_enum b1 fun h2' c1 c2=>?_⟩;have Z4:e<s.heap.objs.size:=Heap.lt_size he;have up:∀ c o,c≠e->h'.get? c=some o->h2'.get? c=some o:=fun c o hc q=>(c2.2 c hc).trans q
  have hT:=up _ _ (x4 Z4) b3;have nT:∀ c∈[e,it],c≠s.heap.objs.size:=fun c hc=>by
   have q:c=e\/c=it:=by simpa using hc
   refine K4 ?_
   rcases q with rfl | rfl
   .exact Z4
   .obtain ⟨o,q,_⟩:=hi;exact Heap.lt_size q
  refine ⟨.ref s.heap.objs.size,A0 H s.heap.objs.size (.tup [.int (i+1:Nat),x]),I.turnNew (t':=tk+1) (ch:=[e,it]) hf (fun c u hc q=>?_) (C2 _) ⟨by show 2<=sizeLine;decide,[.int (i+1:Nat) tk,u1],.cons ⟨_,rfl⟩ (.cons r1 .nil),?_⟩,rfl,⟨_,xs,x,e1,hx,I.fresh,rfl,rfl⟩,
   ⟨⟨_,c1⟩,(show h'.IsListIter it l (i+1) by simpa using b2.2.1).at fun o q=>up _ o G4.symm q⟩,fun c hc=>by rw [A3 (nT c hc)];exact (hf c hc).1⟩
  .have q1:c≠e/\c≠it:=⟨fun q=>hc (by simp [q]),fun q=>hc (by simp [q])⟩
   exact up c u q1.1 (b5 c u q1.1 q1.2 q)
  .exact ⟨_,hT,rfl,_,rfl⟩
 done:=by
  intro X hP hw hK hc i pins s Y H E I hf ⟨⟨old,he⟩,hi⟩ hg;subst hP hw hK;obtain ⟨xs,e1,eC⟩:=hg;obtain ⟨its1,U4,p1,_⟩:=I.list (D1.of (K:=X.K) e1);have q1:=U4.length;obtain ⟨f0,f1,f2,f3,f4,f5⟩:=hf it (by simp);exact wpAny_pyNext_enum_endD (aqN (A:=X.A.in1) (show X.A.in1.handled=none from I.ok.hd hc) (ys:=its1.toArray) (i:=i) (by simp;lia)) he ⟨rfl,hi,p1.isList⟩ fun h' eb=>⟨rfl,I.turned (t':=s.toks) (fun b o hb q=>eb b o hb q) f0 f1 f3 f4 f5⟩
 self:=fun _ _ _ _ _ st h=>by
  obtain ⟨⟨old,he⟩,_⟩:=st;exact wpAny_pyIter_enum he h
theorem ajw:bootBuiltins "enumerate"=some (.type "enumerate"):=by decide +kernel
section
variable {X:Cx}
noncomputable def sW (ta:TA):TI:=fun Y H R=>ta Y H fun vs H1=>∃ (l:Addr) (xs:List V),vs=[.ref l]/\H1 l=some (.lst xs)/\R (Ite1 l) H1
theorem alx{a:Expr}{p pos:Pos}(hg:Gl X "enumerate")(hm:X.mg "enumerate"=none)(ha:PA X [a] ta)(h1:J2 a=false:=by rfl) :
  PI X (.Tuple elts x1 tpos) (.Call (.Name "enumerate" p) [a] [⟨some "start",.Constant (.int 1) ck cpos,kpos⟩] pos) (sW ta):=by
 intro pins s Y H R I h;refine wpAny_Call_Name_kw (x8 I hg hm ajw (PySem.W.callWith_of (P:=fun _=>True) ?_ (fun _ _=>⟨_,.inr (.inl rfl),PySem.W.Looks.of_pure rfl⟩) (PyProof.Rows.evalArgs_kw2 rfl (A8 (ha pos pins s Y H _ I h) fun us s1 ⟨vs,H1,I1,r1,q1⟩=>?_) (L8 h1))))
 .rw [L8 h1];rfl
 have kw:PK X [⟨some "start",.Constant (.int 1) ck cpos,kpos⟩] (tCons (tC (.int 1)) tNil):=amU yB aoV;refine A8 (kw pos pins s1 Y H1 (fun zs H2=>zs=[.int 1]/\H2=H1) I1 ⟨rfl,rfl⟩) fun ws s2 ⟨zs,H2,I2,rz,e1,e2⟩=>⟨trivial,?_⟩
 subst e1 e2;obtain ⟨l,xs,rfl,e1,q⟩:=q1;obtain ⟨u1,rfl,eD⟩:=vals1 r1
 cases eD
 obtain ⟨u2,rfl,wC⟩:=vals1 rz;obtain ⟨t,rfl⟩:=wC;obtain ⟨its1,U4,p1,_⟩:=I2.list (D1.of (K:=X.K) e1);refine aef p1.isList (by decide) fun h' z1 z2 z4=>wpAny_pyIter_enum z1 ?_
 refine ⟨s2.heap.objs.size+1,[s2.heap.objs.size+1,s2.heap.objs.size],_,_,H2,rfl,I2.kept (t':=s2.toks) z4,ah7 _ s2.heap.objs.size l (g2 (by lia)),⟨⟨_,z1⟩,z2⟩,fun b hb=>?_,q⟩;have M5:s2.heap.objs.size<=b:=by
  have e:b=s2.heap.objs.size+1\/b=s2.heap.objs.size:=by simpa using hb
  rcases e with rfl | rfl
  .exact bE _ _
  .exact C2 _
 exact I2.fpOk M5 (I2.hok.fresh M5)
theorem aly{a:Expr}{p pos:Pos}(hm:X.mg "enumerate"=none)(ha:QA X [a] ta)(hg:Gl X "enumerate":=by rfl)(h1:J2 a=false:=by rfl) :
  QI X (.Tuple elts x1 tpos) (.Call (.Name "enumerate" p) [a] [⟨some "start",.Constant (.int 1) ck cpos,kpos⟩] pos) (sW ta):=⟨alx hg hm ha.out h1⟩
end
theorem ajy{R:It->Hp->Prop} : sW ta Y H R=ta Y H fun vs H1=>∃ (l:Addr) (xs:List V),vs=[.ref l]/\H1 l=some (.lst xs)/\R (Ite1 l) H1:=rfl
theorem forE1{l:Addr}(Pv:Nat->St->Hp->Prop)(h0:Pv 0 Y H)(hl:∀ i Y H,Pv i Y H->H l=some (.lst xs))(hs:∀ i x t Y H,xs[i]?=some x->Pv i Y H->H t=none->g (.ref t) Y (A0 H t (.tup [.int (i+1:Nat),x])) fun σ2 H2=>tb { D with nx:=Pv (i+1),ct:=Pv (i+1),bk:=D.nx } σ2 H2)(hd:∀ Y H,Pv xs.length Y H->D.nx Y H):ForIt (Ite1 l) g tb D Y H:=by
 refine ⟨fun i m Y H=>m=xs.length-i/\i<=xs.length/\Pv i Y H,⟨xs.length,by simp,K8 _,h0⟩,?_⟩;rintro i m Y H ⟨rfl,hi,p⟩;have e1:=hl i Y H p
 by_cases C1:i<xs.length
 .refine .inr ⟨⟨xs,xs[i],e1,by simp⟩,Pv (i+1),fun σ' H' p'=>⟨_,by lia,rfl,C1,p'⟩,fun v H' y=>?_⟩;obtain ⟨t,xs',x,f1,hx,ht,rfl,rfl⟩:=y;rw [e1] at f1;cases f1;exact hs i x t Y H hx p ht
 .have e:i=xs.length:=by lia
  subst e;exact .inl ⟨⟨xs,e1,by lia⟩,hd Y H p⟩
end L2
set_option maxRecDepth 100000
namespace L2
open PySem PySem.Spec PyProof.Rows
noncomputable def ajz:V->List V->Hp->VK->Prop:=fun x vs H Q=>∃ (l:Addr) (zs:List Str) (z:Str),x=.ref l/\vs=[.str z]/\H l=some (.lst (zs.map V.str))/\z∈zs/\Q (.int (zs.idxOf z:Nat)) H
theorem ajA : jA X "list.index" ajz:=by
 intro pins s Y H x vs v us Q I rx rv h;obtain ⟨l,zs,zz,rfl,rfl,hH,hm,q⟩:=h
 cases rx
 obtain ⟨u,rfl,ru⟩:=rv.one;obtain ⟨t,rfl⟩:=ru;obtain ⟨z,its,n,r,hl,e⟩:=I.lstM hH;have sa:=mW r;have hj:zs.idxOf zz<zs.length:=eY.mpr hm;rw [A4] at hl z;have J3:∀ (j:Nat) (hj:j<its.toArray.size),∃ y t',zs[j]?=some y/\its.toArray[j]=.str y t':=fun j kZ=>by
  have pK:j<zs.length:=by rw [hl];simpa using kZ
  obtain ⟨t',ht⟩:=aeP sa (j:=j) (z:=zs[j]) (by simp);refine ⟨zs[j],t',by simp,?_⟩
  have:=(J4.mp ht).2
  simpa using this
 have hsz:zs.idxOf zz<its.toArray.size:=by rw [J7,<- hl];exact hj
 rw [sizeLine_eq] at z;refine call_meets F.slot_list_index ⟨_,e,rfl⟩ F.entry_list_index (F.args_list_index_2 _ _)
  (MeetsSeq.list_index l its.toArray n (.str zz t) (isStrOf zz) (fun y hy=>eq_isStrOf zz t sa y (by simpa using hy)) (zs.idxOf zz) hsz (by lia) ?_ (fun m Z5 C1=>?_)) ⟨e,?_⟩
 .obtain ⟨y,t',h1,h2⟩:=J3 _ hsz;rw [h2]
  have:y=zz:=by
   have:=fC hj
   rw [G8 hj,this] at h1;exact (Option.some.inj h1).symm
  subst this;simp [isStrOf]
 .obtain ⟨y,t',h1,h2⟩:=J3 _ Z5;rw [h2]
  have:y≠zz:=fun q=>by
   obtain ⟨h3,h4⟩:=J4.mp h1
   have:=List.not_of_lt_findIdx (show m<zs.findIdx (· == zz) from C1)
   rw [h4] at this;simp [q] at this
  simp [isStrOf,this]
 .exact ⟨.int (zs.idxOf zz:Nat),H,I.tok _,⟨_,rfl⟩,q⟩
theorem alz : QMt X "list.index" ajz:=⟨fun pins s Y H x xs v us Q I rx rv h=>ajA pins s Y H x xs v us Q I rx rv h⟩
noncomputable def sX:V->List V->Hp->VK->Prop:=fun x vs H Q=>∃ (l:Addr) (zs:List Int) (z:Int),x=.ref l/\vs=[.int z]/\H l=some (.lst (zs.map V.int))/\z∈zs/\Q .non (A0 H l (.lst ((zs.erase z).map V.int)))
theorem sY:∀ {vs:List Value} {zs:List Int},IntsAre vs zs->∀ {j:Nat} {z:Int},zs[j]?=some z->∃ t,vs[j]?=some (.int z t)
 | _,_,.nil,_,_,h=>by simp at h
 | _,_,.cons _ _ _,0,_,h=>by simp at h;subst h;exact ⟨_,rfl⟩
 | _,_,.cons _ _ r,j+1,z,h=>by
  obtain ⟨t,q⟩:=sY r (j:=j) (z:=z) (by simpa using h);exact ⟨t,by simpa using q⟩
theorem ah8 : jA X "list.remove" sX:=by
 intro pins s Y H x vs v us Q I rx rv h;obtain ⟨l,zs,zz,rfl,rfl,hH,hm,q⟩:=h
 cases rx
 obtain ⟨u,rfl,ru⟩:=rv.one;obtain ⟨t,rfl⟩:=ru;obtain ⟨z,its,n,r,hl,e⟩:=I.lstM hH;have sa:=qY r;have hj:zs.idxOf zz<zs.length:=eY.mpr hm;rw [A4] at hl;have J3:∀ (j:Nat) (hj:j<its.toArray.size),∃ y t',zs[j]?=some y/\its.toArray[j]=.int y t':=fun j kZ=>by
  have pK:j<zs.length:=by rw [hl];simpa using kZ
  obtain ⟨t',ht⟩:=sY sa (j:=j) (z:=zs[j]) (by simp);refine ⟨zs[j],t',by simp,?_⟩
  have:=(J4.mp ht).2
  simpa using this
 have hsz:zs.idxOf zz<its.toArray.size:=by rw [J7,<- hl];exact hj
 refine call_meets F.slot_list_remove ⟨_,e,rfl⟩ F.entry_list_remove (F.args_list_remove_2 _ _)
  (MeetsSeq.list_remove l its.toArray n (.int zz t) (isInt zz) (fun y hy=>eq_isInt zz t sa y (by simpa using hy)) (zs.idxOf zz) hsz ?_ (fun m Z5 C1=>?_) (by rw [J7,<- hl];rw [A4] at z;exact z)) ⟨e,?_⟩
 .obtain ⟨y,t',h1,h2⟩:=J3 _ hsz;rw [h2]
  have:y=zz:=by
   have:=fC hj
   rw [G8 hj,this] at h1;exact (Option.some.inj h1).symm
  subst this;simp [isInt]
 .obtain ⟨y,t',h1,h2⟩:=J3 _ Z5;rw [h2]
  have:y≠zz:=fun q=>by
   obtain ⟨h3,h4⟩:=J4.mp h1
   have:=List.not_of_lt_findIdx (show m<zs.findIdx (· == zz) from C1)
   rw [h4] at this;simp [q] at this
  simp [isInt,this]
 .refine ⟨.non,_,I.lset (its':=its.eraseIdx (zs.idxOf zz)) hH e ?_ ?_ ?_,rfl,q⟩
  .show its.toArray.eraseIdxIfInBounds (zs.idxOf zz)=_;rw [List.eraseIdxIfInBounds_toArray]
  .rw [List.erase_eq_eraseIdx_of_idxOf (l:=zs) (a:=zz) (w:=rfl),afT];exact r.eraseIdx _
  .rw [A4,lX hm];rw [A4] at z;lia
theorem ajB : QMt X "list.remove" sX:=⟨fun pins s Y H x xs v us Q I rx rv h=>ah8 pins s Y H x xs v us Q I rx rv h⟩
theorem aqO{l:Addr}{zs:List Int}{z:Int}(h:H l=some (.lst (zs.map V.int)))(hm:z∈zs)(q:Q .non (A0 H l (.lst ((zs.erase z).map V.int)))):sX (.ref l) [.int z] H Q:=⟨l,zs,z,rfl,rfl,h,hm,q⟩
noncomputable def rMinL:List V->Hp->VK->Prop:=fun xs H Q=>∃ (p:Addr) (ns:List Int),xs=[.ref p]/\H p=some (.lst (ns.map V.int))/\ns≠[]/\∀ M:Int,M∈ns->(∀ a∈ns,M<=a)->Q (.int M) H
theorem ajC(hc:X.calm=true):CallR X (.builtin "min") rMinL:=by
 intro pins s Y H xs us Q I r h;obtain ⟨p,ns,rfl,hH,G4,q⟩:=h;obtain ⟨u,rfl,ru⟩:=vals1 r
 cases ru
 obtain ⟨z,its,n,rr,hl,e⟩:=I.lstM hH;have hi:=qY rr;have hL:s.heap.IsList p its.toArray:=⟨_,e,rfl,n,rfl⟩
 obtain ⟨ys,e2⟩:=hi.allInts.items;have cF:ns=ys.toList.map (·.1):=by rw [<- hi.numsOf,<- nums_intItems,<- e2]
 have hsz:0<ys.size:=by
  have h3:=List.length_pos_iff.mpr G4;rw [cF,A4,bJ] at h3;exact h3
 rw [e2] at hL;refine min_intList (I.ok.hd hc) hL hsz fun v h' tk hv hk=>?_
 obtain ⟨t,rfl⟩:=intItems_at hv;obtain ⟨h1,h2⟩:=argBest_lt (numAt ys) (ys.size-1);refine ⟨.int _,H,I.kept hk,⟨t,rfl⟩,q _ ?_ fun a ha=>?_⟩
 .rw [cF,numAt_eq];exact getD_mem (by rw [A4,bJ];lia)
 .rw [cF] at ha;obtain ⟨j,hj,rfl⟩:=mem_getD ha;rw [A4,bJ] at hj;rw [<- numAt_eq];exact h2 j (by lia)
theorem aqP(hc:X.calm=calm:=by rfl):QCall X (.builtin "min") (rCalm calm rMinL):=⟨fun pins s Y H xs us Q I r h=>ajC (hc.trans h.1) pins s Y H xs us Q I r h.2⟩
theorem aqQ : rMinL [.ref p] H Q=∃ ns:List Int,H p=some (.lst (ns.map V.int))/\ns≠[]/\∀ M:Int,M∈ns->(∀ a∈ns,M<=a)->Q (.int M) H:=
 propext ⟨fun ⟨_,ns,e,h⟩=>(by cases e;exact ⟨ns,h⟩),fun ⟨ns,h⟩=>⟨p,ns,rfl,h⟩⟩
noncomputable def gH (n:Nat) (fr:St) (Pv:Nat->List V->Hp->Prop) (i:Nat) (ys:List V) (σ2:St) (H2:Hp):Prop:=i<=n/\ys.length<=i/\(∃ v w,σ2=v::w::fr)/\Pv i ys H2
theorem gH.put{fr:St}{Pv:Nat->List V->Hp->Prop}{o o2:Option V}(hi:i<n)(hy:ys.length<=i)(p:Pv (i+1) (ys++[y]) H):gH n fr Pv (i+1) (ys++[y]) (o::o2::fr) H:=
 ⟨hi,by rw [E3,o0];lia,⟨_,_,rfl⟩,p⟩
theorem compE{l:Addr}(fr:St)(P0:compStart 2 ixs Y=none::none::fr)(Pv:Addr->Nat->List V->Hp->Prop)(h0:∀ D,H1 D=none->Pv D 0 [] (A0 H1 D (.lst [])))(hl:∀ D i ys H,H1 D=none->i<=xs.length->Pv D i ys H->H l=some (.lst xs))(hs:∀ D i x t ys H,H1 D=none->i<xs.length->xs[i]?=some x->Pv D i ys H->H D=some (.lst ys)->ys.length<=i->H t=none->c (some (.int i)::some x::fr) (A0 H t (.tup [.int i,x])) fun b H4=>
   if b=true then te (some (.int i)::some x::fr) H4 fun y H5=>H5 D=some (.lst ys)/\ys.length<sizeLine/\gH xs.length fr (Pv D) (i+1) (ys++[y]) (some (.int i)::some x::fr) (A0 H5 D (.lst (ys++[y])))
   else H4 D=some (.lst ys)/\gH xs.length fr (Pv D) (i+1) ys (some (.int i)::some x::fr) H4)(hd:∀ D ys H,H1 D=none->Pv D xs.length ys H->H D=some (.lst ys)->ys.length<=xs.length->Q (.ref D) H):gA (jO l) 2 ixs (gTup K 2 (gCons (gName 0) (gCons (gName 1) gNil))) c te Y Q H1:=by
 intro D hD;refine ⟨xs.length,gH xs.length fr (Pv D),⟨K8 _,K8 _,⟨none,none,P0⟩,h0 D hD⟩,?_⟩;rintro i ys σ2 H2 ⟨hi,hy,⟨v,w,rfl⟩,p⟩ hDy;have q:=hl D i ys H2 hD hi p
 by_cases C1:i<xs.length
 .refine .inr ⟨C1,⟨xs,xs[i],q,by simp [C1]⟩,fun x H' y=>?_⟩;obtain ⟨t,xs',x',f1,hx,ht,rfl,rfl⟩:=y;rw [q] at f1;cases f1;exact ⟨t,_,rfl,C8.of A1,rfl,_,_,rfl,_,_,rfl,rfl,hs D i x' t ys H2 hD C1 hx p hDy hy ht⟩
 .have e:i=xs.length:=by lia
  subst e;exact .inl ⟨⟨xs,q,C2 _⟩,hd D ys H2 hD p hDy hy⟩
end L2
set_option maxRecDepth 100000
namespace L2
open PySem PySem.Spec PyProof.Rows
section
variable {X:Cx} {o e:Expr} {apos cpos:Pos} {td ty:TE}
theorem alA : ao5 td ty Y H Q=td Y H fun x H1=>∃ a,x=.ref a/\y4 H1 a/\ty Y H1 fun y H2=>∃ kvs k v,H2 a=some (.dK kvs)/\y=kV k/\valV kvs k=some v/\Q v (A0 H2 a (.dK (dropK kvs k))):=rfl
end
end L2
set_option maxRecDepth 100000
namespace L2
open PySem PySem.Spec PyProof.Rows
section
variable {X:Cx} {o value:Expr} {to tv:TE} {pos tpos:Pos} {st:Stmt} {t:TS} {h₀:ExceptHandler} {hs:List ExceptHandler}
theorem ajD{f:Str}{op:Operator}{rd:V->V->Hp->VK->Prop}(ho:QE X o to)(hv:QE X value tv)(dS:QIn X op rd)(hK:X.K=K:=by rfl):QS X (.AugAssign (.Attribute o f tpos) op value pos) (qV K to tv rd f):=by
 subst hK;exact ⟨aiM ho.out hv.out dS.out⟩
theorem ajE{rd:V->V->Hp->VK->Prop}{f:Str} : qV K to tv rd f D Y H=to Y H fun x H1=>∃ a C dx fs v,x=.ref a/\H1 a=some (.ins C dx fs)/\Cls K C/\NoAttr K C f/\fs.lookup f=some v/\
 tv Y H1 fun y H2=>rd v y H2 fun z H3=>∃ dx' fs',H3 a=some (.ins C dx' fs')/\fs'.length<1000/\D.nx Y (A0 H3 a (.ins C dx' (putF f z fs'))):=rfl
theorem anT(h:∀ XE,QS (X.wish XE) st t):QS X (.Try [st] (h₀::hs) [] [] pos) t:=⟨by
 intro pins s Y H D I hh;have key:∀ XE,wpAny (model X.prog X.w) X.A (exec st X.env) (SP (X.wish XE) pins D) XE s:=fun XE=>(h XE).out pins s Y H D (I.wish XE) hh
 refine wpAny_Try_except (wpAny_execs_cons (A8 (key _) fun f s1 z=>?_))
 cases f with
 | next=>
  obtain ⟨σ',H',I',q⟩:=z;exact wpAny_execs_nil (wpAny_execs_nil ⟨σ',H',I'.unwish,q⟩)
 | brk=>obtain ⟨σ',H',I',q⟩:=z;exact ⟨σ',H',I'.unwish,q⟩
 | cont=>obtain ⟨σ',H',I',q⟩:=z;exact ⟨σ',H',I'.unwish,q⟩
 | ret u=>obtain ⟨v,σ',H',I',r,q⟩:=z;exact ⟨v,σ',H',I'.unwish,r,q⟩⟩
end
end L2
set_option maxRecDepth 100000
namespace L2
open PySem PySem.Spec PyProof.Rows
theorem ajF:∀ (xs:List V) (us:List Value),xs.length=us.length->(∀ (j:Nat) (x:V) (u:Value),xs[j]?=some x->us[j]?=some u->RelV x u)->Vals xs us
 | [],[],_,_=>.nil
 | [],_::_,h,_=>by simp at h
 | _::_,[],h,_=>by simp at h
 | x::xs,u::us,h,k=>.cons (k 0 x u rfl rfl) (ajF xs us (by simpa using h) fun j y v hy hv=>k (j+1) y v (by simpa using hy) (by simpa using hv))
noncomputable def rRngN:List V->Hp->VK->Prop:=fun xs H Q=>∃ n:Int,xs=[.int n]/\∀ r,H r=none->Q (.ref r) (A0 H r (.rng 0 n))
theorem aqR : QCall X (.type "range") rRngN:=⟨by
 intro pins s Y H xs us Q I r h;obtain ⟨n,rfl,q⟩:=h;obtain ⟨u,rfl,t,rfl⟩:=vals1 r;exact call_range_1 ⟨.ref s.heap.objs.size,_,I.laid (o:=.rng 0 n) (t':=s.toks+1+1) (fun _ _ e=>Heap.get?_push_of_some _ e) (C2 _) ⟨_,_,_,Heap.get?_push_size _ rfl⟩,rfl,q _ I.fresh⟩⟩
theorem rng_r{n:Int} : rRngN [.int n] H Q=∀ r,H r=none->Q (.ref r) (A0 H r (.rng 0 n)):=propext ⟨fun ⟨_,e,h⟩=>(by cases e;exact h),fun h=>⟨n,rfl,h⟩⟩
noncomputable def amm (calm:Bool):List V->Hp->VK->Prop:=fun xs H Q=>∃ (r:Addr) (n:Int),xs=[.ref r]/\calm=true/\H r=some (.rng 0 n)/\0<=n/\n<=1000/\∀ l,H l=none->Q (.ref l) (A0 H l (.lst ((M3 n.toNat).map fun k=>V.int (k:Nat))))
theorem anU(Q4:X.calm=calm:=by rfl):QCall X (.type "list") (amm calm):=⟨by
 intro pins s Y H xs us Q I r h;obtain ⟨p,n,rfl,hc,hH,h0,h1,q⟩:=h;obtain ⟨u,rfl,ru⟩:=vals1 r
 cases ru
 obtain ⟨t,v,w,e⟩:=I.hok p _ hH;have hsz:Builtin.Range.rangeSize 0 n 1=(n.toNat:Int):=by rw [rangeSize_nat];lia
 have hs:Builtin.Range.small 0 n 1=true:=by
  unfold Builtin.Range.small;rw [hsz];have f:∀ i:Int,0<=i->i<=1000->Builtin.Range.rangeFitsLong i=true:=fun i a b=>by
   unfold Builtin.Range.rangeFitsLong
   simp
   lia
  rw [f 0 (by lia) (by lia),f n h0 h1,f 1 (by lia) (by lia),f _ (by lia) (by lia)]
  simp
  exact .inr (f n h0 h1)
 refine call_list_range (I.ok.hd (Q4.trans hc)) e hs hsz (by lia) fun h' tk acc' c' hk hS' Z2=>?_
 refine ⟨.ref s.heap.objs.size,_,I.laid (o:=.lst ((M3 n.toNat).map fun k=>V.int (k:Nat))) (t':=tk) hk (C2 _) ⟨?_,acc'.toList,c',ajF _ _ ?_ fun j x v hx hv=>?_,by simpa using hS'⟩,rfl,q _ I.fresh⟩
 .rw [A4,fD,sizeLine_eq];lia
 .rw [A4,fD,bJ,Z2.1]
 .have u9:acc'[j]?=some v:=by simpa using hv
  obtain ⟨tk2,rfl⟩:=Z2.2 j v u9;rw [M0] at hx;have hj:j<n.toNat:=by
   have:=(mD.mp u9).1
   rw [Z2.1] at this;exact this
  rw [List.getElem?_range hj] at hx;have hx:V.int (j:Nat)=x:=by simpa using hx
  subst hx;exact ⟨tk2,by simp⟩⟩
theorem anV : amm true [.ref r] H Q=∃ n:Int,H r=some (.rng 0 n)/\0<=n/\n<=1000/\∀ l,H l=none->Q (.ref l) (A0 H l (.lst ((M3 n.toNat).map fun k=>V.int (k:Nat)))):=
 propext ⟨fun ⟨_,n,e,_,h⟩=>(by cases e;exact ⟨n,h⟩),fun ⟨n,h⟩=>⟨r,n,rfl,rfl,h⟩⟩
theorem aqS{k:Int}{v:V}{Q:Hp->Prop} : rSetL (.ref p) (.int k) v H Q=∃ xs j,H p=some (.lst xs)/\j1 xs.length k=some j/\Q (A0 H p (.lst (xs.set j v))):=
 propext ⟨fun ⟨_,xs,_,j,e1,e2,h⟩=>(by cases e1;cases e2;exact ⟨xs,j,h⟩),fun ⟨xs,j,h⟩=>⟨p,xs,k,j,rfl,rfl,h⟩⟩
theorem ajG:bootBuiltins "range"=some (.type "range"):=by decide +kernel
end L2
set_option maxRecDepth 100000
namespace L2
open PySem PySem.Spec PyProof.Rows
noncomputable def FS (ts bad:List Str) (z:Str->Prop) (fr:List Int):Prop:=fr.Nodup/\∀ n:Int,n∈fr↔∃ (m:Nat) (q:Str),n=(m:Int)/\ts[m]?=some q/\q∉bad/\z q
theorem FS.nil(z:Str->Prop):FS [] [] z []:=⟨by simp,fun n=>by simp⟩
theorem FS.snoc{z:Str->Prop}(h:FS ts bad z fr)(hi:i=ts.length)(hb:q∉bad):(z q->FS (ts++[q]) bad z (fr++[(i:Int)]))/\(¬ z q->FS (ts++[q]) bad z fr):=by
 have L5:∀ (m:Nat) (x:Str),(ts++[q])[m]?=some x↔(ts[m]?=some x\/(m=i/\x=q)):=fun m x=>by
  rcases Nat.lt_trichotomy m ts.length with hm | hm | hm
  .rw [Z9 hm]
   constructor
   .exact .inl
   .rintro (h | ⟨h,_⟩)
    .exact h
    .lia
  .subst hm;rw [X2 (C2 _),Nat.sub_self]
   have:ts[ts.length]?=none:=by simp
   rw [this];simp [hi,eq_comm]
  .have h1:ts[m]?=none:=by simp;lia
   have h2:(ts++[q])[m]?=none:=by simp;lia
   rw [h1,h2]
   simp
   lia
 have kO:(i:Int)∉fr:=fun hm=>by
  obtain ⟨m,x,e,h1,_⟩:=(h.2 _).mp hm
  have:=(J4.mp h1).1
  lia
 refine ⟨fun hz=>⟨?_,fun n=>?_⟩,fun hz=>⟨h.1,fun n=>?_⟩⟩
 .rw [o3];refine ⟨h.1,by simp,fun x hx y hy e=>kO ?_⟩;rw [<- K7.mp hy,<- e];exact hx
 .rw [J8,h.2,K7]
  constructor
  .rintro (⟨m,x,e,h1,h2,h3⟩ | rfl)
   .exact ⟨m,x,e,(L5 m x).mpr (.inl h1),h2,h3⟩
   .exact ⟨i,q,rfl,(L5 i q).mpr (.inr ⟨rfl,rfl⟩),hb,hz⟩
  .rintro ⟨m,x,e,h1,h2,h3⟩
   rcases (L5 m x).mp h1 with h1 | ⟨rfl,rfl⟩
   .exact .inl ⟨m,x,e,h1,h2,h3⟩
   .exact .inr e
 .rw [h.2]
  constructor
  .rintro ⟨m,x,e,h1,h2,h3⟩;exact ⟨m,x,e,(L5 m x).mpr (.inl h1),h2,h3⟩
  .rintro ⟨m,x,e,h1,h2,h3⟩
   rcases (L5 m x).mp h1 with h1 | ⟨rfl,rfl⟩
   .exact ⟨m,x,e,h1,h2,h3⟩
   .exact absurd h3 hz
theorem ahi(nd:ts.Nodup)(h1:ts[i]?=some q)(h2:ts[j]?=some q):i=j:=by
 obtain ⟨a1,b1⟩:=J4.mp h1;obtain ⟨a2,b2⟩:=J4.mp h2
 have:=i4.mp nd
 rw [eX] at this
 rcases Nat.lt_trichotomy i j with hl | hl | hl
 .exact absurd (b1.trans b2.symm) (this i j a1 a2 hl)
 .exact hl
 .exact absurd (b2.trans b1.symm) (this j i a2 a1 hl)
theorem FS.take{z:Str->Prop}(nd:ts.Nodup)(h:FS ts bad z fr){M:Nat}{p:Str}(hp:ts[M]?=some p):FS ts (bad++[p]) z (fr.erase (M:Int)):=by
 refine ⟨h.1.erase _,fun n=>?_⟩;rw [h.1.mem_erase_iff,h.2]
 constructor
 .rintro ⟨G4,m,x,e,h1,h2,h3⟩;refine ⟨m,x,e,h1,fun hm=>?_,h3⟩
  rcases J8.mp hm with hm | hm
  .exact h2 hm
  .rw [K7.mp hm] at h1;exact G4 (by rw [e,ahi nd h1 hp])
 .rintro ⟨m,x,e,h1,h2,h3⟩;refine ⟨fun e2=>h2 ?_,m,x,e,h1,fun hm=>h2 (T6 _ hm),h3⟩
  have:m=M:=by lia
  subst this;rw [hp] at h1;cases h1
  simp
theorem FS.turn{z z':Str->Prop}(nd:ts.Nodup)(h:FS ts bad z fr){y:Str}(G4:∀ q,q≠y->(z' q↔z q))(hy:¬ z y)(hm:ts[m]?=some y)(hb:y∉bad):(z' y->FS ts bad z' (fr++[(m:Int)]))/\(¬ z' y->FS ts bad z' fr):=by
 have kO:(m:Int)∉fr:=fun h1=>by
  obtain ⟨k,x,e,h2,_,h3⟩:=(h.2 _).mp h1
  have:k=m:=by lia
  subst this;rw [hm] at h2;cases h2;exact hy h3
 have W6:∀ (k:Nat) (x:Str),ts[k]?=some x->x≠y\/(k=m/\x=y):=fun k x hk=>by
  by_cases e:x=y
  .subst e;exact .inr ⟨ahi nd hk hm,rfl⟩
  .exact .inl e
 refine ⟨fun hz=>⟨?_,fun n=>?_⟩,fun hz=>⟨h.1,fun n=>?_⟩⟩
 .rw [o3];refine ⟨h.1,by simp,fun x hx w hw e=>kO ?_⟩;rw [<- K7.mp hw,<- e];exact hx
 .rw [J8,h.2,K7]
  constructor
  .rintro (⟨k,x,e,h1,h2,h3⟩ | rfl)
   .rcases W6 k x h1 with c | ⟨_,rfl⟩
    .exact ⟨k,x,e,h1,h2,(G4 x c).mpr h3⟩
    .exact absurd h3 hy
   .exact ⟨m,y,rfl,hm,hb,hz⟩
  .rintro ⟨k,x,e,h1,h2,h3⟩
   rcases W6 k x h1 with c | ⟨rfl,rfl⟩
   .exact .inl ⟨k,x,e,h1,h2,(G4 x c).mp h3⟩
   .exact .inr e
 .rw [h.2]
  constructor
  .rintro ⟨k,x,e,h1,h2,h3⟩
   rcases W6 k x h1 with c | ⟨_,rfl⟩
   .exact ⟨k,x,e,h1,h2,(G4 x c).mpr h3⟩
   .exact absurd h3 hy
  .rintro ⟨k,x,e,h1,h2,h3⟩
   rcases W6 k x h1 with c | ⟨_,rfl⟩
   .exact ⟨k,x,e,h1,h2,(G4 x c).mp h3⟩
   .exact absurd h3 hz
theorem FS.congr{z z':Str->Prop}(h:FS ts bad z fr)(e:∀ q,z' q↔z q):FS ts bad z' fr:=⟨h.1,fun n=>by rw [h.2];exact ⟨fun ⟨m,x,a,b,c,d⟩=>⟨m,x,a,b,c,(e x).mpr d⟩,fun ⟨m,x,a,b,c,d⟩=>⟨m,x,a,b,c,(e x).mp d⟩⟩⟩
theorem agP{E:List (Str×Str)}(h:FS ts line (fun q=>cnt E line q=0) fr){M:Int}(hM:M∈fr)(eF:∀ a∈fr,M<=a):∃ (m:Nat) (p:Str),M=(m:Int)/\ts[m]?=some p/\nextP E ts line=some p:=by
 obtain ⟨m,p,e,h1,h2,h3⟩:=(h.2 M).mp hM;refine ⟨m,p,e,h1,?_⟩;rw [aeQ];obtain ⟨hm,rfl⟩:=J4.mp h1;have e1:ts=ts.take m++ts[m]::ts.drop (m+1):=by rw [<- List.drop_eq_getElem_cons hm,aY]
 generalize hP:(fun p=>!decide (p∈line)&&decide (∀ e∈E,e.2=p->e.1∈line))=P;have hp:P ts[m]=true:=by
  rw [<- hP];simp only [P3,Bool.not_eq_true',decide_eq_false_iff_not,decide_eq_true_eq];exact ⟨h2,cnt_zero.mp h3⟩
 have lA:(ts.take m).find? P=none:=by
  rw [List.find?_eq_none];intro x hx hxP;obtain ⟨k,hk,rfl⟩:=X5.mp hx;rw [K3] at hk;rw [iO,<- hP] at hxP;simp only [P3,Bool.not_eq_true',decide_eq_false_iff_not,decide_eq_true_eq] at hxP
  have:=eF (k:Int) ((h.2 _).mpr ⟨k,ts[k],rfl,by simp,hxP.1,cnt_zero.mpr hxP.2⟩)
  lia
 conv=>lhs;rw [e1]
 rw [List.find?_append,lA,o8,hp];rfl
theorem alB{E:List (Str×Str)}(r:R8 E ts line)(h:q∈line):cnt E line q=0:=by
 obtain ⟨pre,post,rfl⟩:=List.append_of_mem h
 have:=(jM (r pre q post rfl)).2.2
 rw [cnt_zero] at this ⊢
 intro e he h2;exact T6 _ (this e he h2)
theorem af0{f:Str->V} : ∀ {ts pre:List Str},(pre++ts).Nodup->X8 (C0 pre f) (C0 ts f)=C0 (pre++ts) f
 | [],pre,_=>by rw [M9];rfl
 | t::ts,pre,h=>by
  have ht:t∉pre:=fun hm=>(o3.mp h).2.2 t hm t G9 rfl
  show X8 (putK (C0 pre f) (Sum.inr t) (f t)) (C0 ts f)=_;rw [z8 _ ht,show C0 (pre++[t]) (fun x=>if x=t then f t else f x)=C0 (pre++[t]) f from Q2 fun x _=>by
   by_cases e:x=t
   .rw [if_pos e,e]
   .rw [if_neg e]]
  rw [af0 (pre:=pre++[t]) (by simpa using h)]
  simp
theorem aeT:∀ {l m:List Int},l.Nodup->(∀ x∈l,x∈m)->l.length<=m.length
 | [],_,_,_=>K8 _
 | x::l,m,nd,h=>by
  obtain ⟨n1,n2⟩:=i6.mp nd;have hx:=h x G9
  have:=aeT (l:=l) (m:=m.erase x) n2 fun y hy=>(List.mem_erase_of_ne (fun e=>n1 (by rw [<- e];exact hy))).mpr (h y (G5 _ hy))
  rw [lX hx] at this;have Z3:=List.length_pos_of_mem hx;rw [E8];lia
theorem ahj{f:Str->V} : ∀ {qs:List Addr} {ts:List Str},Paired (fun q t=>H q=some (.tup [.str t,f t])) qs ts->Paired (fun q (kx:B5×V)=>C8 K H q [kV kx.1,kx.2]) qs (C0 ts f)
 | _,_,.nil=>.nil
 | _,_,.cons h t=>.cons (.of h) (ahj t)
theorem forRs(Pv:Nat->St->Hp->Prop)(h0:Pv 0 Y H)(hs:∀ (P':Nat->St->Hp->Prop) (B':St->Hp->Prop),(∀ i Y H,Pv i Y H->P' i Y H)->∀ i Y H,i<n->Pv i Y H->g (.int (lo+i)) Y H fun σ2 H2=>tb { D with nx:=P' (i+1),ct:=P' (i+1),bk:=B' } σ2 H2)(hd:∀ Y H,Pv n Y H->D.nx Y H):ForIt (j0 lo n) g tb D Y H:=forR Pv h0 (hs Pv _ fun _ _ _ h=>h) hd
theorem forLs(Pv:Nat->St->Hp->Prop)(h0:Pv 0 Y H)(hl:∀ i Y H,i<=xs.length->Pv i Y H->D1 K H a xs)(hs:∀ (P':Nat->St->Hp->Prop) (B':St->Hp->Prop),(∀ i Y H,Pv i Y H->P' i Y H)->∀ i x Y H,xs[i]?=some x->Pv i Y H->g x Y H fun σ2 H2=>tb { D with nx:=P' (i+1),ct:=P' (i+1),bk:=B' } σ2 H2)(hd:∀ Y H,Pv xs.length Y H->D.nx Y H):ForIt (x9 K a) g tb D Y H:=forL Pv h0 hl (hs Pv _ fun _ _ _ h=>h) hd
theorem midS{t u:TS}(M:St->Hp->Prop)(h:∀ M':St->Hp->Prop,(∀ Y H,M Y H->M' Y H)->t { D with nx:=M' } Y H)(h2:∀ σ' H',M σ' H'->u D σ' H'):tSeqM t u D Y H:=⟨M,h M fun _ _ h=>h,h2⟩
noncomputable def amn:Sp:=fun vs H Q _=>∃ (a:Addr) (rs:List Addr) (zss:List (List Str)),vs=[.ref a]/\IsRows H a rs zss/\zss.flatten.length<=100000/\
 ∀ l H',H l=none->Same H H'->H' l=some (.lst ((toldL zss).map V.str))->Q (.ref l) H'
noncomputable def sZ:Sp:=fun vs H Q _=>∃ c,vs=[.str ⟨#[c]⟩]/\Q (.bl (figO c)) H
noncomputable def K5 (R:List Rl):List (Str×List Str):=R.filterMap fun z=>if z.1=("great" : Str) then z.2.head?.map fun y=>(y,z.2.drop 1) else none
noncomputable def D5 (R:List Rl):List Str:=J0 [] ((K5 R).map (·.1))
noncomputable def F7 (R:List Rl) (y:Str):List Str:=((K5 R).filter fun e=>decide (e.1=y)).flatMap (·.2)
theorem nE(A B:List Rl):K5 (A++B)=K5 A++K5 B:=by
 unfold K5;rw [lZ]
theorem tD{R:List Rl}{z:Rl}(h:R[i]?=some z):K5 (R.take (i+1))=K5 (R.take i)++K5 [z]:=by
 rw [L9 h,nE]
theorem nF{z:Rl}(h:z.1≠("great" : Str)):K5 [z]=[]:=by
 unfold K5;rw [bA,if_neg h];rfl
theorem tE{y:Str}{fs:List Str} : K5 [(("great" : Str),y::fs)]=[(y,fs)]:=by
 unfold K5;rw [bA,if_pos rfl];rfl
theorem tF{A:List Rl}{y:Str}{fs:List Str}(x:Str):F7 (A++[(("great" : Str),y::fs)]) x=if x=y then F7 A x++fs else F7 A x:=by
 unfold F7;rw [nE,tE,o1,aZ]
 by_cases h:x=y
 .subst h;simp
 .have:¬ (y=x):=fun e=>h e.symm
  simp [this,h]
theorem nG{A:List Rl}{y:Str}{fs:List Str} : D5 (A++[(("great" : Str),y::fs)])=dd (D5 A) y:=by
 unfold D5 J0;rw [nE,tE,E5,o5];rfl
noncomputable def ahk (K:PySem.W.Frag):Sp:=fun vs H Q _=>∃ (a:Addr) (ts:List Addr) (R:List Rl),vs=[.ref a]/\IsRules H a ts R/\(∀ z∈R,z.1=("great" : Str)->z.2≠[])/\R.length<=1000/\(∀ i y,(F7 (R.take i) y).length<=10000)/\
 ∀ d ad H',H d=none->Same H H'->H' d=some (.dK (C0 (D5 R) fun y=>.ref (ad y)))->DL H H' (D5 R) ad (F7 R)->Q (.ref d) H'
theorem ahl(xs:List V)(h:i<=j):cutV xs (some (i:Int)) (some (j:Int))=(xs.drop i).take (j-i):=by
 unfold cutV;rw [HT.sIx_nat,HT.sIx_nat]
 by_cases hi:i<=xs.length
 .rw [fF hi]
  by_cases hj:j<=xs.length
  .rw [fF hj]
  .rw [Nat.min_eq_right (by lia),X4 (by rw [o7];exact C2 _),X4 (by rw [o7];lia)]
 .rw [Nat.min_eq_right (by lia:xs.length<=i),lY (C2 _),lY (by lia),List.take_nil,List.take_nil]
structure Used(ks:List Str)(g:Str->V)(z:Rl):Prop where
 gr:z.1=("great" : Str)->∀ p∈z.2.take 1,p∈ks/\g p=.str "letter"
 a1:z.1=("as" : Str)->∀ p∈(z.2.drop 1).take 1,p∈ks/\g p=.str "letter"
 a2:z.1=("as" : Str)->∀ p∈z.2.drop 2,p∈ks/\(g p=.str "letter"\/g p=.str "mark")
noncomputable def amo (K:PySem.W.Frag):Sp:=fun vs H Q _=>∃ (t d:Addr) (z:Rl) (ks:List Str) (g:Str->V),vs=[.ref t,.ref d]/\H t=some (tupR z)/\H d=some (.dK (C0 ks g))/\Used ks g z/\z.2.length<=1000/\∀ p H',H p=none->Same H H'->H' p=some (.lst [])->Q (.ref p) H'
noncomputable def ahm (K:PySem.W.Frag):Sp:=fun vs H Q _=>∃ (a d:Addr) (ts:List Addr) (R:List Rl) (ks:List Str) (g:Str->V),vs=[.ref a,.ref d]/\IsRules H a ts R/\H d=some (.dK (C0 ks g))/\(∀ z∈R,Used ks g z/\z.2.length<=1000)/\∀ H',Same H H'->Q .non H'
noncomputable abbrev Tr:=Int×Int×Int
noncomputable def tupT (s:Tr):HO:=.tup [.int s.1,.int s.2.1,.int s.2.2]
structure StepAt(H:Hp)(r:Addr)(ss:List Tr):Prop where
 ex:∃ ts:List Addr,H r=some (.tup (ts.map V.ref))/\Paired (fun t s=>H t=some (tupT s)) ts ss
theorem StepAt.same{ss:List Tr}(h:StepAt H r ss)(S:Same H H'):StepAt H' r ss:=
 let ⟨ts,h1,h2⟩:=h.ex
 ⟨ts,S _ _ h1,R1 h2 fun _ _ e=>S _ _ e⟩
theorem StepAt.put{d:Addr}{ss:List Tr}{o o':HO}(h:StepAt H r ss)(hd:H d=some o')(hn:∀ xs,o'≠.tup xs):StepAt (A0 H d o) r ss:=by
 obtain ⟨ts,h1,h2⟩:=h.ex;refine ⟨ts,?_,R1 h2 fun t s e=>?_⟩
 .rw [A3 (fun e=>by rw [e,hd] at h1;exact hn _ (Option.some.inj h1))];exact h1
 .rw [A3 (fun q=>by rw [q,hd] at e;exact hn _ (Option.some.inj e))];exact e
theorem StepAt.one{t:Addr}{s:Tr}(h1:H r=some (.tup [.ref t]))(h2:H t=some (tupT s)):StepAt H r [s]:=⟨[t],h1,.cons h2 .nil⟩
noncomputable def IsMade (H:Hp) (d:Addr) (ks:List Str) (F:Str->List Tr):Prop:=∃ ad:Str->Addr,H d=some (.dK (C0 ks fun y=>.ref (ad y)))/\∀ y∈ks,StepAt H (ad y) (F y)
theorem IsMade.same{d:Addr}{F:Str->List Tr}(h:IsMade H d ks F)(S:Same H H'):IsMade H' d ks F:=
 let ⟨ad,h1,h2⟩:=h
 ⟨ad,S _ _ h1,fun y hy=>(h2 y hy).same S⟩
theorem IsMade.put{d:Addr}{F:Str->List Tr}{ad:Str->Addr}(h1:H d=some (.dK (C0 ks fun y=>.ref (ad y))))(h2:∀ y∈ks,StepAt H (ad y) (F y)){l:Str}(hp:StepAt H p (F l)) :
  IsMade (A0 H d (.dK (putK (C0 ks fun y=>.ref (ad y)) (Sum.inr l) (.ref p)))) d (dd ks l) F:=by
 refine ⟨fun y=>if y=l then p else ad y,?_,fun y hy=>?_⟩
 .rw [A1];have e:∀ t,(if t=l then V.ref p else V.ref (ad t))=V.ref (if t=l then p else ad t):=fun t=>by
   by_cases h:t=l
   .rw [if_pos h,if_pos h]
   .rw [if_neg h,if_neg h]
  unfold dd
  by_cases hl:l∈ks
  .rw [if_pos hl,mZ _ hl];exact congrArg (fun x=>some (HO.dK x)) (Q2 fun t _=>e t)
  .rw [if_neg hl,z8 _ hl];exact congrArg (fun x=>some (HO.dK x)) (Q2 fun t _=>e t)
 .by_cases h:y=l
  .subst h;show StepAt _ (if y=y then p else ad y) _;rw [if_pos rfl];exact hp.put h1 (by intro xs e;cases e)
  .show StepAt _ (if y=l then p else ad y) _;rw [if_neg h];refine (h2 y ?_).put h1 (by intro xs e;cases e);unfold dd at hy
   by_cases hl:l∈ks
   .rw [if_pos hl] at hy;exact hy
   .rw [if_neg hl] at hy
    rcases J8.mp hy with q | q
    .exact q
    .exact absurd (K7.mp q) h
structure StI(H H2:Hp)(d:Addr)(P:List Str)(F:Str->List Tr):Prop where
 same:Same H H2
 made:IsMade H2 d (J0 [] P) F
theorem alC(P:List Str)(x:Str):J0 [] (P++[x])=dd (J0 [] P) x:=by
 unfold J0;rw [o5];rfl
theorem StI.putX{d:Addr}{P:List Str}{F:Str->List Tr}(nd:H d=none)(h:StI H H2 d P F)(hP:P.length<100000){l:Str}(hp:StepAt H2 p (F l)) :
  ∃ kvs o,H2 d=some (.dK kvs)/\DPut H2 d (V.str l) (V.ref p) (A0 H2 d o)/\StI H (A0 H2 d o) d (P++[l]) F:=by
 obtain ⟨ad,h1,h2⟩:=h.made;have hl:=dA P [];rw [T7,Nat.zero_add] at hl;refine ⟨_,_,h1,j3 (k:=Sum.inr l) h1 (by rw [Y2];exact J5 (by lia)),h.same.put nd,?_⟩;rw [alC];exact IsMade.put h1 h2 hp
theorem StI.put{d:Addr}{P:List Str}{F:Str->List Tr}(nd:H d=none)(h:StI H H2 d P F)(hP:P.length<100000){l:Str}(hp:StepAt H2 p (F l)) :
  ∃ x,DPut H2 d (V.str l) (V.ref p) x/\StI H x d (P++[l]) F:=
 let ⟨_,_,_,h1,h2⟩:=h.putX nd hP hp
 ⟨_,h1,h2⟩
theorem StI.more{d:Addr}{P:List Str}{F:Str->List Tr}(h:StI H H2 d P F)(S:Same H2 H3):StI H H3 d P F:=⟨h.same.trans S,h.made.same S⟩
theorem StI.frz{d:Addr}{P:List Str}{F:Str->List Tr}{o:HO}(h:StI H H2 d P F)(hf:H2 f=some (.dK kvs))(n:H f=none)(nf:f≠d):StI H (A0 H2 f o) d P F:=
 let ⟨ad,h1,h2⟩:=h.made
 ⟨h.same.put n,ad,by rw [A3 nf.symm];exact h1,fun y hy=>(h2 y hy).put hf (by intro xs e;cases e)⟩
theorem StI.thaw{d:Addr}{P:List Str}{F:Str->List Tr}{q:Obj}{o o':HO}(h:StI H H2 d P F)(hf:H2 f=some (.frz q o'))(n:H f=none)(nf:f≠d):StI H (A0 H2 f o) d P F:=
 let ⟨ad,h1,h2⟩:=h.made
 ⟨h.same.put n,ad,by rw [A3 nf.symm];exact h1,fun y hy=>(h2 y hy).put hf (by intro xs e;cases e)⟩
structure FoI(H H2:Hp)(d f:Addr)(o:Obj)(ts:List Str)(af:Str->Addr)(G:Str->List Str)(P:List Str)(F:Str->List Tr):Prop where
 frz:H2 f=some (.frz o (.dK (C0 ts fun y=>.ref (af y))))
 rows:∀ y∈ts,H2 (af y)=some (.lst ((G y).map V.str))
 st:StI H H2 d P F
theorem FoI.more{d:Addr}{af:Str->Addr}{G:Str->List Str}{P:List Str}{F:Str->List Tr}(h:FoI H H2 d f o ts af G P F)(S:Same H2 H3):FoI H H3 d f o ts af G P F:=⟨S _ _ h.frz,fun y hy=>S _ _ (h.rows y hy),h.st.more S⟩
theorem FoI.put{d:Addr}{af:Str->Addr}{G:Str->List Str}{P:List Str}{F:Str->List Tr}(nd:H d=none)(h:FoI H H2 d f o ts af G P F)(hP:P.length<100000){l:Str}(hp:StepAt H2 p (F l)) :
  ∃ x,DPut H2 d (V.str l) (V.ref p) x/\FoI H x d f o ts af G (P++[l]) F:=by
 obtain ⟨kvs,o',h0,h1,h2⟩:=h.st.putX nd hP hp;refine ⟨_,h1,?_,fun y hy=>?_,h2⟩
 .rw [A3 (fun e=>by have:=h.frz;rw [e,h0] at this;cases this)];exact h.frz
 .rw [A3 (fun e=>by have:=h.rows y hy;rw [e,h0] at this;cases this)];exact h.rows y hy
theorem StI.putL{d:Addr}{P:List Str}{F:Str->List Tr}{o:HO}(h:StI H H2 d P F)(hf:H2 f=some (.lst xs))(n:H f=none):StI H (A0 H2 f o) d P F:=
 let ⟨ad,h1,h2⟩:=h.made
 ⟨h.same.put n,ad,by rw [A3 (fun e=>by rw [e,hf] at h1;cases h1)];exact h1,fun y hy=>(h2 y hy).put hf (by intro xs e;cases e)⟩
structure AsI(H H7 H2:Hp)(d:Addr)(P:List Str)(F:Str->List Tr)(ts:List Addr)(ss:List Tr):Prop where
 st:StI H H2 d P F
 pr:Paired (fun t s=>H2 t=some (tupT s)) ts ss
 sm:Same H7 H2
theorem AsI.putL{H7:Hp}{d:Addr}{P:List Str}{F:Str->List Tr}{ts:List Addr}{ss:List Tr}{o:HO}(h:AsI H H7 H2 d P F ts ss)(hf:H2 f=some (.lst xs))(n:H f=none)(n7:H7 f=none):AsI H H7 (A0 H2 f o) d P F ts ss:=
 ⟨h.st.putL hf n,R1 h.pr fun t s e=>by rw [A3 (fun q=>by rw [q,hf] at e;cases e)];exact e,h.sm.put n7⟩
noncomputable def asKs (R:List Rl):List Str:=R.filterMap fun z=>if z.1=("as" : Str) then z.2.head? else none
theorem af1{R:List Rl}{z:Rl}(h:R[i]?=some z):asKs (R.take (i+1))=asKs (R.take i)++asKs [z]:=by
 rw [L9 h];unfold asKs;rw [lZ]
theorem ajI{z:Rl}(h:z.1≠("as" : Str)):asKs [z]=[]:=by
 unfold asKs;rw [bA,if_neg h];rfl
theorem ahn{y:Str}{fs:List Str} : asKs [(("as" : Str),y::fs)]=[y]:=by
 unfold asKs;rw [bA,if_pos rfl];rfl
theorem alD(R:List Rl):(asKs R).length<=R.length:=List.length_filterMap_le _ _
structure Made(R:List Rl)(L M:List Str)(F:Str->List Tr):Prop where
 lt:∀ (i:Nat) y,L[i]?=some y->F y=[(2,(i:Int),0)]
 mr:∀ (i:Nat) y,M[i]?=some y->F y=[(0,(i:Int),0)]
 gl:∀ y∈D5 R,y∈L
 gr:∀ y∈D5 R,∀ (c:Nat) f,(F7 R y)[c]?=some f->F f=[(2,(L.idxOf y:Int),((c+1:Nat):Int))]
 ne:∀ z∈R,z.1=("as" : Str)\/z.1=("great" : Str)->z.2≠[]
 pt:∀ z∈R,z.1=("as" : Str)->∀ q∈z.2.drop 1,q∈L\/q∈M
 as:∀ z∈R,z.1=("as" : Str)->∀ p qs,z.2=p::qs->F p=qs.map fun q=>(F q).headD (0,0,0)
noncomputable def allKs (R:List Rl) (L M:List Str):List Str:=L++M++(D5 R).flatMap (F7 R)++asKs R
theorem Made.base{R:List Rl}{F:Str->List Tr}(m:Made R L M F)(h:q∈L\/q∈M):∃ s,F q=[s]:=by
 rcases h with h | h
 .obtain ⟨i,hi,e⟩:=X5.mp h;exact ⟨_,m.lt i q (by rw [G8 hi,e])⟩
 .obtain ⟨i,hi,e⟩:=X5.mp h;exact ⟨_,m.mr i q (by rw [G8 hi,e])⟩
theorem Made.letter{R:List Rl}{F:Str->List Tr}(m:Made R L M F)(h:q∈L):F q=[(2,(L.idxOf q:Int),0)]:=by
 have hi:=eY.mpr h;exact m.lt (L.idxOf q) q (by rw [G8 hi,fC])
noncomputable def aho (K:PySem.W.Frag):Sp:=fun vs H Q _=>∃ (a b c:Addr) (ts:List Addr) (R:List Rl) (L M:List Str) (F:Str->List Tr),vs=[.ref a,.ref b,.ref c]/\IsRules H a ts R/\Made R L M F/\H b=some (.lst (L.map V.str))/\H c=some (.lst (M.map V.str))/\(∀ z∈R,z.2.length<=1000)/\R.length<=1000/\(∀ i y,(F7 (R.take i) y).length<=10000)/\(allKs R L M).length<=50000/\
 ∀ d H',H d=none->Same H H'->IsMade H' d (J0 [] (allKs R L M)) F->Q (.ref d) H'
noncomputable def baseT (L M:List Str) (q:Str):Tr:=if q∈L then (2,(L.idxOf q:Int),0) else (0,(M.idxOf q:Int),0)
noncomputable def tG (L M:List Str) (R:List Rl):List (Str×List Tr):=R.filterMap fun z=>if z.1=("as" : Str) then z.2.head?.map fun p=>(p,(z.2.drop 1).map (baseT L M)) else none
noncomputable def putsL (R:List Rl) (L M:List Str):List (Str×List Tr):=
 (L.zipIdx.map fun e=>(e.1,[((2:Int),(e.2:Int),(0:Int))]))++(M.zipIdx.map fun e=>(e.1,[((0:Int),(e.2:Int),(0:Int))]))++((D5 R).flatMap fun y=>(F7 R y).zipIdx.map fun e=>(e.1,[((2:Int),(L.idxOf y:Int),((e.2+1:Nat):Int))]))++tG L M R
noncomputable def stepF (R:List Rl) (L M:List Str) (p:Str):List Tr:=((putsL R L M).lookup p).getD []
theorem ajK{p:Str}{s:List Tr} : ∀ {l:List (Str×List Tr)},(l.map (·.1)).Nodup->(p,s)∈l->l.lookup p=some s
 | [],_,h=>by cases h
 | (y,t)::l,nd,h=>by
  rw [D0,i6] at nd;rw [List.lookup_cons]
  rcases D7.mp h with h | h
  .obtain ⟨rfl,rfl⟩:=Prod.mk.inj h
   simp
  .have:p≠y:=fun e=>nd.1 (G6.mpr ⟨_,h,e⟩)
   have e:(p==y)=false:=by simpa using this
   rw [e];exact ajK nd.2 h
theorem ajL(R:List Rl)(L M:List Str):(putsL R L M).map (·.1)=allKs R L M:=by
 have z:∀ (l:List Str) (f:Nat->List Tr),(l.zipIdx.map fun e=>(e.1,f e.2)).map (·.1)=l:=fun l f=>by
  rw [w8];exact List.zipIdx_map_fst 0 l
 have a:(tG L M R).map (·.1)=asKs R:=by
  unfold tG asKs;rw [List.map_filterMap]
  congr 1
  funext z
  by_cases h:z.1=("as" : Str)
  .rw [if_pos h,if_pos h]
   cases z.2 <;> rfl
  .rw [if_neg h,if_neg h];rfl
 unfold putsL allKs;rw [E5,E5,E5,z L fun i=>[(2,(i:Int),0)],z M fun i=>[(0,(i:Int),0)],a,List.map_flatMap]
 congr 2
 congr 1
 funext y
 exact z (F7 R y) fun i=>[(2,(L.idxOf y:Int),((i+1:Nat):Int))]
theorem gI{R:List Rl}(nd:(allKs R L M).Nodup){p:Str}{s:List Tr}(h:(p,s)∈putsL R L M):stepF R L M p=s:=by
 unfold stepF;rw [ajK (by rw [ajL];exact nd) h];rfl
theorem anW{R:List Rl}(nd:(allKs R L M).Nodup)(gl:∀ y∈D5 R,y∈L)(ne:∀ z∈R,z.1=("as" : Str)\/z.1=("great" : Str)->z.2≠[])(pt:∀ z∈R,z.1=("as" : Str)->∀ q∈z.2.drop 1,q∈L\/q∈M):Made R L M (stepF R L M):=by
 have m1:∀ (i:Nat) y,L[i]?=some y->(y,[((2:Int),(i:Int),(0:Int))])∈putsL R L M:=fun i y h=>by
  refine T6 _ (T6 _ (T6 _ (G6.mpr ⟨(y,i),?_,rfl⟩)));rw [List.mem_zipIdx_iff_getElem?];exact h
 have m2:∀ (i:Nat) y,M[i]?=some y->(y,[((0:Int),(i:Int),(0:Int))])∈putsL R L M:=fun i y h=>by
  refine T6 _ (T6 _ (P2 _ (G6.mpr ⟨(y,i),?_,rfl⟩)));rw [List.mem_zipIdx_iff_getElem?];exact h
 have hb:∀ q,q∈L\/q∈M->stepF R L M q=[baseT L M q]:=fun q hq=>by
  unfold baseT
  by_cases h:q∈L
  .rw [if_pos h];have hi:=eY.mpr h;exact gI nd (m1 (L.idxOf q) q (by rw [G8 hi,fC]))
  .rw [if_neg h];have hm:=hq.resolve_left h;have hi:=eY.mpr hm;exact gI nd (m2 (M.idxOf q) q (by rw [G8 hi,fC]))
 refine ⟨fun i y h=>gI nd (m1 i y h),fun i y h=>gI nd (m2 i y h),gl,fun y hy c f h=>gI nd ?_,ne,pt,fun z hz e p qs ez=>?_⟩
 .refine T6 _ (P2 _ (w5.mpr ⟨y,hy,G6.mpr ⟨(f,c),?_,rfl⟩⟩));rw [List.mem_zipIdx_iff_getElem?];exact h
 .have:(p,qs.map (baseT L M))∈putsL R L M:=P2 _ (iN.mpr ⟨z,hz,by rw [if_pos e,ez];rfl⟩)
  rw [gI nd this];refine iL fun q hq=>?_
  rw [hb q (pt z hz e q (by rw [ez];exact hq))];rfl
theorem anX{g:Str->Str}{PL:List (Str×Str)}(nc:NC fg g PL):PL.Pairwise fun a b=>a.1=b.1->b.2∈jP:=by
 rw [eX];intro i j hi hj pJ e;refine (nc j PL[j].1 PL[j].2 (by rw [G8 hj])).2.1 ?_;rw [<- e];refine G6.mpr ⟨PL[i],?_,rfl⟩;rw [List.mem_take_iff_getElem];exact ⟨i,by lia,rfl⟩
theorem jR{g:Str->Str}{PL:List (Str×Str)}(nc:NC fg g PL){p j:Str}(h:(p,j)∈PL):g p=j:=by
 obtain ⟨i,hi,e⟩:=X5.mp h;exact (nc i p j (by rw [G8 hi,e])).1.symm
theorem ajM{g:Str->Str}{PL:List (Str×Str)}(nc:NC fg g PL){j:Str}(hj:j∉jP):((PL.filter fun e=>decide (e.2=j)).map (·.1)).Nodup:=by
 rw [i4,List.pairwise_map];refine List.Pairwise.imp_of_mem ?_ ((anX nc).filter _);intro a b _ hb h e
 have:=h e
 have pL:b.2=j:=by simpa using (N8.mp hb).2
 rw [pL] at this;exact hj this
theorem nH{w:Str}(h:dF w):(jobD w=("great" : Str)↔w="great")/\(jobD w=("as" : Str)↔w="as")/\(jobD w=("letter" : Str)↔w="row")/\(jobD w=("mark" : Str)↔w="marks")/\(jobD w=("over" : Str)↔w="over"):=by
 rcases h with rfl | rfl | rfl | rfl | rfl <;> decide +kernel
theorem af3{R:List Rl}{p j:Str} : (p,j)∈E1 R↔∃ z∈R,p∈N2 z/\jobD z.1=j:=by
 unfold E1;rw [w5]
 constructor
 .rintro ⟨z,hz,h⟩;obtain ⟨q,hq,e⟩:=G6.mp h;obtain ⟨rfl,rfl⟩:=Prod.mk.inj e;exact ⟨z,hz,hq,rfl⟩
 .rintro ⟨z,hz,hp,rfl⟩;exact ⟨z,hz,G6.mpr ⟨p,hp,rfl⟩⟩
theorem tH(z:Rl)(R:List Rl):E1 (z::R)=((N2 z).map fun p=>(p,jobD z.1))++E1 R:=by
 unfold E1;rw [bC]
theorem bU{z:Rl} : (z.1=("great" : Str)->N2 z=z.2.drop 1)/\(z.1=("as" : Str)->N2 z=z.2.take 1)/\(z.1=("row" : Str)\/z.1=("marks" : Str)\/z.1=("over" : Str)->N2 z=z.2):=by
 unfold N2;refine ⟨fun h=>by rw [if_pos h],fun h=>?_,fun h=>?_⟩
 .rw [if_neg (by rw [h];decide +kernel),if_pos h]
 .rw [if_neg,if_neg,if_pos h]
  .rcases h with h | h | h <;> rw [h] <;> decide +kernel
  .rcases h with h | h | h <;> rw [h] <;> decide +kernel
theorem jS:∀ R:List Rl,((E1 R).filter fun e=>decide (e.2=("great" : Str))).map (·.1)=(K5 R).flatMap (·.2)
 | []=>rfl
 | z::R=>by
  rw [tH,o1,E5,jS R];have e:K5 (z::R)=K5 [z]++K5 R:=nE [z] R;rw [e,aZ]
  congr 1
  by_cases h:z.1=("great" : Str)
  .obtain ⟨w,ps⟩:=z;obtain rfl:w=("great" : Str):=h;rw [bU.1 rfl,List.filter_eq_self.mpr,w8]
   .cases ps with
    | nil=>simp [K5]
    | cons y fs=>
     rw [tE];show b9 _ fs=_;simp [Function.comp_def]
   .intro a ha;obtain ⟨q,_,rfl⟩:=G6.mp ha;exact decide_eq_true (show jobD "great"=("great" : Str) by decide +kernel)
  .rw [nF h,fA.mpr]
   .rfl
   .intro a ha;obtain ⟨q,hq,rfl⟩:=G6.mp ha
    have:=(nH (jQ hq)).1
    simp only [decide_eq_true_eq];exact fun e=>h (this.mp e)
theorem nI:∀ R:List Rl,((E1 R).filter fun e=>decide (e.2=("as" : Str))).map (·.1)=asKs R
 | []=>rfl
 | z::R=>by
  rw [tH,o1,E5,nI R];have e:asKs (z::R)=asKs [z]++asKs R:=by unfold asKs;rw [<- lZ];rfl
  rw [e]
  congr 1
  by_cases h:z.1=("as" : Str)
  .obtain ⟨w,ps⟩:=z;obtain rfl:w=("as" : Str):=h;rw [bU.2.1 rfl,List.filter_eq_self.mpr,w8]
   .cases ps with
    | nil=>simp [asKs]
    | cons y fs=>
     rw [ahn];rfl
   .intro a ha;obtain ⟨q,_,rfl⟩:=G6.mp ha;exact decide_eq_true (show jobD "as"=("as" : Str) by decide +kernel)
  .rw [ajI h,fA.mpr]
   .rfl
   .intro a ha;obtain ⟨q,hq,rfl⟩:=G6.mp ha
    have:=(nH (jQ hq)).2.1
    simp only [decide_eq_true_eq];exact fun e=>h (this.mp e)
theorem af4{R:List Rl}{w p:Str} : p∈(rowsW R w).flatten↔∃ z∈R,z.1=w/\p∈z.2:=by
 unfold rowsW;rw [List.mem_flatten]
 constructor
 .rintro ⟨l,hl,hp⟩;obtain ⟨z,hz,rfl⟩:=G6.mp hl;obtain ⟨h1,h2⟩:=N8.mp hz;exact ⟨z,h1,by simpa using h2,hp⟩
 .rintro ⟨z,hz,e,hp⟩;exact ⟨z.2,G6.mpr ⟨z,N8.mpr ⟨hz,by simpa using e⟩,rfl⟩,hp⟩
theorem mem_letter{R:List Rl}{p:Str} : (p,("letter" : Str))∈E1 R↔p∈(rowsW R "row").flatten:=by
 rw [af3,af4]
 constructor
 .rintro ⟨z,hz,hp,e⟩
  have:=(nH (jQ hp)).2.2.1.mp e
  exact ⟨z,hz,this,by rw [bU.2.2 (.inl this)] at hp;exact hp⟩
 .rintro ⟨z,hz,e,hp⟩;exact ⟨z,hz,by rw [bU.2.2 (.inl e)];exact hp,by rw [e];decide +kernel⟩
theorem mem_mark{R:List Rl}{p:Str} : (p,("mark" : Str))∈E1 R↔p∈(rowsW R "marks").flatten:=by
 rw [af3,af4]
 constructor
 .rintro ⟨z,hz,hp,e⟩
  have:=(nH (jQ hp)).2.2.2.1.mp e
  exact ⟨z,hz,this,by rw [bU.2.2 (.inr (.inl this))] at hp;exact hp⟩
 .rintro ⟨z,hz,e,hp⟩;exact ⟨z,hz,by rw [bU.2.2 (.inr (.inl e))];exact hp,by rw [e];decide +kernel⟩
theorem ajN{zss:List (List Str)}{p:Str} : p∈toldL zss↔p∈zss.flatten:=by
 unfold toldL;rw [mR,bQ]
 simp
theorem bV{R:List Rl}{w:Str}(h:j7 R w L){p:Str} : p∈L↔p∈(rowsW R w).flatten:=by
 rw [<- ajN];exact ⟨h.1.sub,h.2 p⟩
structure GoodR(g:Str->Str)(r1 r2:Str->Nat)(R:List Rl):Prop where
 len:R.length<=1000
 plen:(E1 R).length<=10000
 nc:NC (hasW R "figures") g (E1 R)
 nb:(" " : Str)∉(E1 R).map (·.1)
 zl:∀ z∈R,z.2.length<=1000
 ne:∀ z∈R,z.1=("as" : Str)\/z.1=("great" : Str)->z.2≠[]
 gl:∀ z∈R,z.1=("great" : Str)->∀ p∈z.2.take 1,(p,("letter" : Str))∈E1 R
 al:∀ z∈R,z.1=("as" : Str)->∀ p∈(z.2.drop 1).take 1,(p,("letter" : Str))∈E1 R
 am:∀ z∈R,z.1=("as" : Str)->∀ p∈z.2.drop 2,(p,("letter" : Str))∈E1 R\/(p,("mark" : Str))∈E1 R
 f1:(rowsW R "row").flatten.length<=10000
 f2:(rowsW R "marks").flatten.length<=10000
 a1:∀ e∈edges (rowsW R "row"),r1 e.1<r1 e.2
 a2:∀ e∈edges (rowsW R "marks"),r2 e.1<r2 e.2
theorem GoodR.job{g:Str->Str}{r1 r2:Str->Nat}{R:List Rl}(h:GoodR g r1 r2 R){p j:Str}(hp:(p,j)∈E1 R):p∈keysP (E1 R)++bR R/\jobG g p=.str j:=by
 have hm:p∈(E1 R).map (·.1):=G6.mpr ⟨_,hp,rfl⟩;refine ⟨T6 _ ((sQ _ _).mpr hm),?_⟩;unfold jobG;rw [if_neg (fun e=>h.nb (by rw [<- e];exact hm)),jR h.nc hp]
theorem GoodR.used{g:Str->Str}{r1 r2:Str->Nat}{R:List Rl}(h:GoodR g r1 r2 R){z:Rl}(hz:z∈R):Used (keysP (E1 R)++bR R) (jobG g) z:=
 ⟨fun e p hp=>h.job (h.gl z hz e p hp),fun e p hp=>h.job (h.al z hz e p hp),fun e p hp=>(h.am z hz e p hp).elim (fun q=>⟨(h.job q).1,.inl (h.job q).2⟩) fun q=>⟨(h.job q).1,.inr (h.job q).2⟩⟩
theorem forms_mem{R:List Rl}{y f:Str} : f∈F7 R y↔∃ e∈K5 R,e.1=y/\f∈e.2:=by
 unfold F7;rw [w5]
 constructor
 .rintro ⟨e,he,hf⟩;obtain ⟨h1,h2⟩:=N8.mp he;exact ⟨e,h1,by simpa using h2,hf⟩
 .rintro ⟨e,he,h,hf⟩;exact ⟨e,N8.mpr ⟨he,by simpa using h⟩,hf⟩
theorem mem_formKs{R:List Rl}{y:Str} : y∈D5 R↔∃ e∈K5 R,e.1=y:=by
 unfold D5;rw [bQ,G6]
 simp
theorem amp{g:Str->Str}{r1 r2:Str->Nat}{R:List Rl}(h:GoodR g r1 r2 R)(hL:j7 R "row" L)(hM:j7 R "marks" M):(allKs R L M).Nodup:=by
 have Z:((K5 R).flatMap (·.2)).Nodup:=by rw [<- jS];exact ajM h.nc (by decide +kernel)
 have jl:∀ p∈L,g p="letter":=fun p hp=>jR h.nc (mem_letter.mpr ((bV hL).mp hp))
 have jm:∀ p∈M,g p="mark":=fun p hp=>jR h.nc (mem_mark.mpr ((bV hM).mp hp))
 have jf:∀ p∈(D5 R).flatMap (F7 R),g p="great":=fun p hp=>by
  obtain ⟨y,_,hp⟩:=w5.mp hp;obtain ⟨e,he,_,hf⟩:=forms_mem.mp hp
  have:p∈(K5 R).flatMap (·.2):=w5.mpr ⟨e,he,hf⟩
  rw [<- jS] at this;obtain ⟨⟨q,j⟩,hq,rfl⟩:=G6.mp this;obtain ⟨h1,h2⟩:=N8.mp hq;have h2:j=("great" : Str):=by simpa using h2
  subst h2;exact jR h.nc h1
 have ja:∀ p∈asKs R,g p="as":=fun p hp=>by
  rw [<- nI] at hp;obtain ⟨⟨q,j⟩,hq,rfl⟩:=G6.mp hp;obtain ⟨h1,h2⟩:=N8.mp hq;have h2:j=("as" : Str):=by simpa using h2
  subst h2;exact jR h.nc h1
 have nf:((D5 R).flatMap (F7 R)).Nodup:=by
  rw [i4,List.pairwise_flatMap] at Z ⊢
  obtain ⟨z1,z2⟩:=Z;refine ⟨fun y _=>?_,?_⟩
  .unfold F7;rw [List.pairwise_flatMap];exact ⟨fun e he=>z1 e (N8.mp he).1,z2.filter _⟩
  .have nk:(D5 R).Nodup:=by unfold D5;exact sK (by simp)
   refine List.Pairwise.imp ?_ (i4.mp nk);intro y y' hyy f hf f' hf' e;subst e;obtain ⟨e1,h1,r1,f1⟩:=forms_mem.mp hf;obtain ⟨e2,h2,r2,f2⟩:=forms_mem.mp hf';obtain ⟨i,hi,q1⟩:=X5.mp h1;obtain ⟨j,hj,q2⟩:=X5.mp h2;rw [eX] at z2
   rcases Nat.lt_trichotomy i j with c | c | c
   .exact z2 i j hi hj c f (by rw [q1];exact f1) f (by rw [q2];exact f2) rfl
   .subst c;exact hyy (by rw [<- r1,<- r2,<- q1,<- q2])
   .exact z2 j i hj hi c f (by rw [q2];exact f2) f (by rw [q1];exact f1) rfl
 have na:(asKs R).Nodup:=by rw [<- nI];exact ajM h.nc (by decide +kernel)
 have n1:("letter" : Str)≠"mark"/\("letter" : Str)≠"great"/\("letter" : Str)≠"as"/\("mark" : Str)≠"great"/\("mark" : Str)≠"as"/\("great" : Str)≠"as":=by decide +kernel
 unfold allKs;rw [o3,o3,o3];refine ⟨⟨⟨hL.1.nodup,hM.1.nodup,fun a ha b hb e=>?_⟩,nf,fun a ha b hb e=>?_⟩,na,fun a ha b hb e=>?_⟩
 .subst e;exact n1.1 ((jl a ha).symm.trans (jm a hb))
 .subst e
  rcases J8.mp ha with ha | ha
  .exact n1.2.1 ((jl a ha).symm.trans (jf a hb))
  .exact n1.2.2.2.1 ((jm a ha).symm.trans (jf a hb))
 .subst e
  rcases J8.mp ha with ha | ha
  .rcases J8.mp ha with ha | ha
   .exact n1.2.2.1 ((jl a ha).symm.trans (ja a hb))
   .exact n1.2.2.2.2.1 ((jm a ha).symm.trans (ja a hb))
  .exact n1.2.2.2.2.2 ((jf a ha).symm.trans (ja a hb))
theorem anY{g:Str->Str}{r1 r2:Str->Nat}{R:List Rl}(h:GoodR g r1 r2 R)(hL:j7 R "row" L)(hM:j7 R "marks" M):Made R L M (stepF R L M):=by
 refine anW (amp h hL hM) (fun y hy=>?_) h.ne fun z hz e q hq=>?_
 .obtain ⟨e,he,rfl⟩:=mem_formKs.mp hy;unfold K5 at he;obtain ⟨z,hz,hh⟩:=iN.mp he
  by_cases hg:z.1=("great" : Str)
  .rw [if_pos hg] at hh;obtain ⟨w,ps⟩:=z
   cases ps with
   | nil=>cases hh
   | cons y fs=>
    have hh:=Option.some.inj hh;rw [<- hh];exact (bV hL).mpr (mem_letter.mp (h.gl _ hz hg y (by simp)))
  .rw [if_neg hg] at hh;cases hh
 .rw [<- aY 1 (z.2.drop 1)] at hq
  rcases J8.mp hq with hq | hq
  .exact .inl ((bV hL).mpr (mem_letter.mp (h.al z hz e q hq)))
  .rw [List.drop_drop] at hq
   rcases h.am z hz e q hq with h1 | h1
   .exact .inl ((bV hL).mpr (mem_letter.mp h1))
   .exact .inr ((bV hM).mpr (mem_mark.mp h1))
theorem anZ{g:Str->Str}{r1 r2:Str->Nat}{R:List Rl}(h:GoodR g r1 r2 R)(hL:j7 R "row" L)(hM:j7 R "marks" M):(allKs R L M).length<=10000:=by
 refine F6 ?_ h.plen
 have:=List.Nodup.length_le_of_subset (l₂:=(E1 R).map (·.1)) (amp h hL hM) fun p hp=>by
  unfold allKs at hp
  rcases J8.mp hp with hp | hp
  .rcases J8.mp hp with hp | hp
   .rcases J8.mp hp with hp | hp
    .exact G6.mpr ⟨_,mem_letter.mpr ((bV hL).mp hp),rfl⟩
    .exact G6.mpr ⟨_,mem_mark.mpr ((bV hM).mp hp),rfl⟩
   .obtain ⟨y,_,hp⟩:=w5.mp hp;obtain ⟨e,he,_,hf⟩:=forms_mem.mp hp
    have:p∈(K5 R).flatMap (·.2):=w5.mpr ⟨e,he,hf⟩
    rw [<- jS] at this;obtain ⟨q,hq,rfl⟩:=G6.mp this;exact G6.mpr ⟨q,(N8.mp hq).1,rfl⟩
  .rw [<- nI] at hp;obtain ⟨q,hq,rfl⟩:=G6.mp hp;exact G6.mpr ⟨q,(N8.mp hq).1,rfl⟩
 rw [A4] at this;exact this
theorem ajO{g:Str->Str}{r1 r2:Str->Nat}{R:List Rl}(h:GoodR g r1 r2 R)(i:Nat)(y:Str):(F7 (R.take i) y).length<=10000:=by
 refine F6 ?_ h.plen;have h1:(F7 (R.take i) y).length<=((K5 (R.take i)).flatMap (·.2)).length:=by
  unfold F7;generalize K5 (R.take i)=E
  induction E with
  | nil=>exact C2 _
  | cons e E ih=>
   rw [List.filter_cons]
   split
   .rw [bC,bC,E3,E3];lia
   .rw [bC,E3];lia
 have h2:((K5 (R.take i)).flatMap (·.2)).length<=(E1 (R.take i)).length:=by
  rw [<- jS,A4];exact cU _ _
 obtain ⟨more,e⟩:=afY R i;rw [e,E3];lia
theorem IsMade.mod{d:Addr}{F:Str->List Tr}{o o':HO}(h:IsMade H d ks F)(ha:H a=some o')(hn:∀ xs,o'≠.tup xs)(nd:d≠a):IsMade (A0 H a o) d ks F:=
 let ⟨ad,h1,h2⟩:=h
 ⟨ad,by rw [A3 nd];exact h1,fun y hy=>(h2 y hy).put ha hn⟩
structure IsOrd(C:Addr)(H:Hp)(x j ll ml md:Addr)(g:Str->Str)(R:List Rl)(L M:List Str):Prop where
 ob:∃ dx,H x=some (.ins C dx (ordF (hasW R "figures") (hasW R "behind") j ll ml md))
 jobs:H j=some (.dK (C0 (keysP (E1 R)++bR R) (jobG g)))
 lets:H ll=some (.lst (L.map V.str))
 mrks:H ml=some (.lst (M.map V.str))
 made:IsMade H md (J0 [] (allKs R L M)) (stepF R L M)
 l1:j7 R "row" L
 l2:j7 R "marks" M
noncomputable def tI (C:Addr):Sp:=fun vs H Q _=>∃ (x dx a:Addr) (ts:List Addr) (R:List Rl) (g:Str->Str) (r1 r2:Str->Nat),vs=[.ref x,.ref a]/\H x=some (.ins C dx [])/\IsRules H a ts R/\GoodR g r1 r2 R/\
 ∀ j ll ml md L M H',H j=none->H ll=none->H ml=none->H md=none->SameBut x H H'->IsOrd C H' x j ll ml md g R L M->Q .non H'
end L2
set_option maxRecDepth 100000
namespace L2
open PySem PySem.Spec PyProof.Rows
structure RulesAt(H0 H:Hp)(a:Addr)(ts:List Addr)(R:List Rl):Prop where
 rows:IsRules H a ts R
 nd:(a::ts).Nodup
 new:∀ r∈a::ts,H0 r=none
 same:Same H0 H
noncomputable def tJ (ns:List Int) (k:Int) (p:Str):Prop:=∃ rest:List Nat,p.cps.toList=gF ns k::rest/\rest.length<=1/\∀ c∈rest,∃ m:Int,c=gF ns m
noncomputable def PcS (ns:List Int) (S:Int->Prop) (p:Str):Prop:=∃ k,S k/\tJ ns k p
structure Dis(ns:List Int)(S:Int->Prop)(ps:List Str):Prop where
 nd:ps.Nodup
 pc:∀ p∈ps,PcS ns S p
 uq:∀ p∈ps,∀ q∈ps,∀ k:Int,20<=k->k<83->tJ ns k p->tJ ns k q->p=q
noncomputable def LetS (k:Int):Prop:=0<=k/\k<16
structure LetW(ns:List Int)(n:Int)(ps:List Str):Prop where
 n0:2<=n
 n1:n<=16
 all:∀ k:Int,0<=k->k<n->one (gF ns k)∈ps
 each:∀ p∈ps,∃ k:Int,0<=k/\k<n/\(p=one (gF ns k)\/∃ m:Int,0<=m/\m<n/\p=one (gF ns k)++one (gF ns m))
noncomputable def OthZ (ls ms:List Str) (z:Rl):Prop:=(z.1=("great" : Str)/\∃ l fs,z.2=l::fs/\l∈ls/\1<=fs.length/\fs.length<=2)\/(z.1=("as" : Str)/\∃ p q qs,z.2=p::q::qs/\q∈ls/\(∀ r∈qs,r∈ls\/r∈ms)/\qs.length<=2)\/(z.1=("over" : Str)/\z.2.length<=2)
noncomputable def GS (i:Nat) (k:Int):Prop:=(30<=k/\k<30+(i:Int))\/(34<=k/\k<34+(i:Int))
noncomputable def AS (i:Nat) (k:Int):Prop:=GS 3 k\/(40<=k/\k<40+(i:Int))
noncomputable def OS (k:Int):Prop:=AS 3 k\/(50<=k/\k<52)
structure AsR(ls ms:List Str)(H0 H:Hp)(t:Addr)(p:Str)(qs:List Str)(j:Nat):Prop where
 same:Same H0 H
 tup:H t=some (tupR ("as",p::qs))
 new:H0 t=none
 len:qs.length=j
 ok:∀ i q,qs[i]?=some q->q∈ls\/(0<i/\q∈ms)
noncomputable def MarkS (k:Int):Prop:=20<=k/\k<25
noncomputable def flagW (w:Str):Prop:=w=("figures" : Str)\/w=("behind" : Str)\/w=("blanks" : Str)
structure RulP(ns:List Int)(ls ms:List Str)(b:Bool)(n:Nat)(R:List Rl):Prop where
 dis:Dis ns (fun k=>LetS k\/OS k\/(b=true/\MarkS k)) ((E1 R).map (·.1))
 row:rowsW R "row"=[ls]
 mrk:rowsW R "marks"=if b=true then [ms] else []
 each:∀ z∈R,z=(("row" : Str),ls)\/(z=(("marks" : Str),ms)/\b=true)\/OthZ ls ms z\/(z.2=[]/\flagW z.1)
 len:R.length<=n
 fig:hasW R "figures"=true->sU ns=false
 oi:∀ z∈R,OthZ ls ms z->∀ p∈N2 z,PcS ns OS p
structure RulG(ns:List Int)(ls ms:List Str)(R:List Rl):Prop where
 p:∃ b,RulP ns ls ms b 12 R/\(b=false->ms=[])
 l0:2<=ls.length
 l1:ls.length<=19
 ld:Dis ns LetS ls
 lw:∃ n,LetW ns n ls
 m1:ms.length<=4
 md:Dis ns MarkS ms
noncomputable def spLaw (K:PySem.W.Frag):Sp:=fun vs H Q _=>∃ (a:Addr) (ns:List Int),vs=[.ref a]/\D1 K H a (ns.map V.int)/\ns.length<=63/\∀ H',Q (.bl true) H'
end L2
set_option maxRecDepth 100000
namespace L2
open PySem PySem.Spec PyProof.Rows
noncomputable def rInD (K:PySem.W.Frag) (x y:V) (H:Hp) (Q:VK):Prop:=∃ (d:PyData) (ds:List PyData),Dn K H x d/\Dn K H y (.list ds)/\min (e9 ds) d.depth<=60/\Q (.bl (ds.any fun e=>U7 e d)) H
theorem aqT : rInD K x y H Q=∃ (d:PyData) (ds:List PyData),Dn K H x d/\Dn K H y (.list ds)/\min (e9 ds) d.depth<=60/\Q (.bl (ds.any fun e=>U7 e d)) H:=rfl
end L2
set_option maxRecDepth 100000
namespace L2
open PySem PySem.Spec PyProof.Rows
open PySem.Builtin PySem.Builtin.Str PySem.StrLaws
end L2
set_option maxRecDepth 100000
namespace L2
open PySem PySem.Spec PyProof.Rows
theorem ahp(g:List Str)(z:Str):(valV (kvOf g) (Sum.inr z)).isSome=decide (z∈g):=by
 rw [<- rP];unfold valV;rw [Option.isSome_map,List.isSome_find?]
theorem lenL(z:Str):z.cps.toList.length=z.length:=by simp [Str.length]
noncomputable abbrev nJ:=Int×Int×List Int×Int
noncomputable def UnAt (H:Hp) (e:Addr×Addr) (u:nJ):Prop:=H e.1=some (.tup [.int u.1,.int u.2.1,.ref e.2,.int u.2.2.2])/\H e.2=some (.lst (u.2.2.1.map V.int))
structure UnI(H0 H:Hp)(l:Addr)(es:List (Addr×Addr))(U:List nJ):Prop where
 top:H l=some (.lst (es.map fun e=>V.ref e.1))
 row:Paired (UnAt H) es U
 nd:(l::es.map (·.2)).Nodup
 new:∀ a∈l::es.map (·.2),H0 a=none
 same:Same H0 H
end L2
variable {R:List L2.Rl}
set_option maxRecDepth 100000
namespace L2
open PySem PySem.Spec PyProof.Rows
structure StepL(H:Hp)(r:Addr)(ss:List Tr):Prop where
 ex:∃ ts:List Addr,H r=some (.lst (ts.map V.ref))/\Paired (fun t s=>H t=some (tupT s)) ts ss
noncomputable def IsMk (H:Hp) (d:Addr) (ks:List Str) (F:Str->List Tr):Prop:=∃ ad:Str->Addr,H d=some (.dK (C0 ks fun y=>.ref (ad y)))/\∀ y∈ks,StepL H (ad y) (F y)
structure MkI(H H2:Hp)(d:Addr)(P:List Str)(F:Str->List Tr):Prop where
 same:Same H H2
 made:IsMk H2 d (J0 [] P) F
theorem qW{t:Addr}(hT:C8 K H t xs)(q:∀ p H',Same H H'->C8 K H' p (xs.take 2)->Q (.ref p) H'):rSlR K t none (some 2) H Q:=by
 by_cases h:xs.length<=2
 .refine rSlR.w hT ⟨rfl,?_⟩ (q t H (U9 H) (by rw [X4 h];exact hT));rw [show ((2:Int))=((2:Nat):Int) from rfl,HT.sIx_nat];lia
 .refine rSlR.t hT (fun e=>?_) fun p np=>q p _ (Same.new np) (.of ?_)
  .have:=e.2
   rw [show ((2:Int))=((2:Nat):Int) from rfl,HT.sIx_nat] at this;lia
  .rw [A1,show cutV xs none (some 2)=_ from aje xs 2]
noncomputable def UnT (H:Hp) (e:Addr×Addr) (u:nJ):Prop:=H e.1=some (.tup [.int u.1,.int u.2.1,.ref e.2,.int u.2.2.2])/\H e.2=some (.tup (u.2.2.1.map V.int))
structure UnJ(H0 H:Hp)(l:Addr)(es:List (Addr×Addr))(U:List nJ):Prop where
 same:Same H0 H
 new:H0 l=none
 top:H l=some (.lst (es.map fun e=>V.ref e.1))
 row:Paired (UnT H) es U
end L2
set_option maxRecDepth 100000
namespace L2
open PySem PySem.Spec PyProof.Rows
section
variable {prog:Program} {w:World} {K:Type} [DecidableEq K] {knd:KeyKind prog w K}
end
section
variable {prog:Program} {w:World} {A:Around} {R:Result->Shared->Prop} {I:Addr} {fp wr:List Addr} {G:Array GenState->Array GenState->Prop} {n:Nat} {P:Nat->Value->Prop} {St:Nat->Shared->Prop}
variable {K:Type} [DecidableEq K] {knd:KeyKind prog w K}
end
section
variable {prog:Program} {w:World} {A:Around} {E:Value->Shared->Prop} {s:Shared} {K:Type} [DecidableEq K] {knd:KeyKind prog w K}
end
section
variable {prog:Program} {w:World} {A:Around} {E:Value->Shared->Prop} {s:Shared} {K:Type} [DecidableEq K] {knd:KeyKind prog w K}
end
section
variable {prog:Program} {w:World} {A:Around} {E:Value->Shared->Prop} {s:Shared} {K:Type} [DecidableEq K] {knd:KeyKind prog w K}
end
end L2
set_option maxRecDepth 100000
namespace L2
open PySem PySem.Spec PyProof.Rows
section
variable {X:Cx} {P:Program} {w:World} {K:PySem.W.Frag} {calm:Bool}
end
end L2
set_option maxRecDepth 100000
namespace L2
open PySem PySem.Spec PyProof.Rows
noncomputable def ajP:V->List V->Hp->VK->Prop:=fun x vs H Q=>∃ (l:Addr) (zs:List Int) (z:Int),x=.ref l/\vs=[.int z]/\H l=some (.lst (zs.map V.int))/\z∈zs/\Q (.int (zs.idxOf z:Nat)) H
theorem ajQ : jA X "list.index" ajP:=by
 intro pins s Y H x vs v us Q I rx rv h;obtain ⟨l,zs,zz,rfl,rfl,hH,hm,q⟩:=h
 cases rx
 obtain ⟨u,rfl,ru⟩:=rv.one;obtain ⟨t,rfl⟩:=ru;obtain ⟨z,its,n,r,hl,e⟩:=I.lstM hH;have sa:=qY r;have hj:zs.idxOf zz<zs.length:=eY.mpr hm;rw [A4] at hl z;have J3:∀ (j:Nat) (hj:j<its.toArray.size),∃ y t',zs[j]?=some y/\its.toArray[j]=.int y t':=fun j kZ=>by
  have pK:j<zs.length:=by rw [hl];simpa using kZ
  obtain ⟨t',ht⟩:=sY sa (j:=j) (z:=zs[j]) (by simp);refine ⟨zs[j],t',by simp,?_⟩
  have:=(J4.mp ht).2
  simpa using this
 have hsz:zs.idxOf zz<its.toArray.size:=by rw [J7,<- hl];exact hj
 rw [sizeLine_eq] at z;refine call_meets F.slot_list_index ⟨_,e,rfl⟩ F.entry_list_index (F.args_list_index_2 _ _)
  (MeetsSeq.list_index l its.toArray n (.int zz t) (isInt zz) (fun y hy=>eq_isInt zz t sa y (by simpa using hy)) (zs.idxOf zz) hsz (by lia) ?_ (fun m Z5 C1=>?_)) ⟨e,?_⟩
 .obtain ⟨y,t',h1,h2⟩:=J3 _ hsz;rw [h2]
  have:y=zz:=by
   have:=fC hj
   rw [G8 hj,this] at h1;exact (Option.some.inj h1).symm
  subst this;simp [isInt]
 .obtain ⟨y,t',h1,h2⟩:=J3 _ Z5;rw [h2]
  have:y≠zz:=fun q=>by
   obtain ⟨h3,h4⟩:=J4.mp h1
   have:=List.not_of_lt_findIdx (show m<zs.findIdx (· == zz) from C1)
   rw [h4] at this;simp [q] at this
  simp [isInt,this]
 .exact ⟨.int (zs.idxOf zz:Nat),H,I.tok _,⟨_,rfl⟩,q⟩
theorem alE : QMt X "list.index" ajP:=⟨fun pins s Y H x xs v us Q I rx rv h=>ajQ pins s Y H x xs v us Q I rx rv h⟩
end L2
set_option maxRecDepth 100000
namespace L2
open PySem PySem.Spec PyProof.Rows
section
variable {prog:Program} {w:World} {A:Around} {E:Value->Shared->Prop} {h:Heap} {g:Array GenState} {d:Drawn} {t:Nat} {os:OsState}
variable {nm q:Str} {C N:Addr} {bs bm bmB:List Value} {P1:Bool} {sn:List Str} {sub:List Value} {ab:Bool} {col:Option Bool} {dd:Option Addr} {k0 k1 k2 k3 k5:Option Value} {B Bn newId nid initId inN:String} {bmN:List Value}
theorem alF(Fn:ExcBaseFacts Bn newId inN bmN)(hBn:bmB.contains (.type Bn)=true)(F:ExcBaseFacts B nid initId bmB)(T:OwnTail h bmB bm){mN:Str->Option Value}{rest:List Value}{of:Obj}{Q:Value->Shared->Prop}(hC:h.get? C=some (excClassObj nm q C N bs bm P1 sn sub ab col dd k0 k1 k2 k3 k5 newId))(hn:h.Ns N mN)(wD:mN "__init__"=some (.ref f))(wE:h.get? f=some of)(wF:of.cls=.type "function")(W5:rest.length<=sizeLine)(hq:codeAny (model prog w) (A.under (.builtin "type.__call__" ⟨.ref C::rest,[]⟩)) (.call (.ref f) ⟨.ref (h.objs.size+1)::rest,[]⟩) (fun r s'=>match r with | .ok (.ret v)=>v=.none/\Q (.ref (h.objs.size+1)) s' | .ok _=>False | .error e=>E e s')
   ⟨(h.push { cls:=.type "tuple",data:=.seq rest.toArray }).push { cls:=.ref C,data:=.fields #[.ref h.objs.size,.none,.none,.none,.bool false,.none] },g,d,t,os⟩) :
  wpAny (model prog w) A (call (.ref C) rest) Q E ⟨h,g,d,t,os⟩:=by
 have f1:=tc_lookup;have f2:=tc_bind (.ref C);have hT:(⟨h,g,d,t,os⟩:Shared).TypeIs (.ref C) "type":=⟨_,hC,rfl⟩
 refine wpAny_call (codeAny_of_tree ?_);show wpAny _ _ (callAny (.ref C) _) _ _ _
 repeat (any_goals (first | assumption | with_reducible refine wpAny_loadPart_at hC ?_ | wp_step))
 refine ⟨rfl,?_⟩;refine codeAny_call_builtin_at (Code.quiet_builtin _ (by decide +kernel)) entry_typeCall (wpAny_check_type_call_sub hC ?_)
 repeat (first | with_reducible refine wpAny_loadPart_at hC ?_ | with_reducible refine wpAny_madeBy_exc hC ?_ | wp_step)
 refine codeAny_call_builtin_code (Code.quiet_builtin _ Fn.quiet) (wpAny_check_new_subU Fn hBn T hC ?_);refine codeAny_exc_new_subU Fn hBn F T hC ?_ W5;show wpAny _ _ _ _ _ ⟨(h.push { cls:=.type "tuple",data:=.seq rest.toArray }).push { cls:=.ref C,data:=.fields #[.ref h.objs.size,.none,.none,.none,.bool false,.none] },g,d,t,os⟩;generalize hh1:((h.push { cls:=.type "tuple",data:=.seq rest.toArray }).push { cls:=.ref C,data:=.fields #[.ref h.objs.size,.none,.none,.none,.bool false,.none] })=h1 at hq ⊢
 have keep:∀ b o,h.get? b=some o->h1.get? b=some o:=fun b o e=>by rw [<- hh1];exact Heap.get?_push_of_some _ (Heap.get?_push_of_some _ e)
 have hC1:=keep _ _ hC;have cJ:h1.Ns N mN:=let ⟨o,es,ep,e,r⟩:=hn;⟨o,es,ep,keep _ _ e,r⟩
 have wG:h1.get? (h.objs.size+1)=some { cls:=.ref C,data:=.fields #[.ref h.objs.size,.none,.none,.none,.bool false,.none] }:=by rw [<- hh1];heap_get
 have hcC:(Value.ref C::bm).contains (.ref C)=true:=by simp
 have T1:=T.keeps (h':=h1) keep;unfold isInstance
 repeat (first | with_reducible refine wpAny_loadPart_at wG ?_ | (with_reducible refine wpAny_isSubtype_exc hC1 ?_;rw [hcC]) | wp_step)
 show wpAny _ _ (typeLookup (.ref C) _) _ _ _;refine wpAny_typeLookup_tail hC1 cJ T1 F.mroIs F.init.lookup ?_;rw [wD];show wpAny _ _ (holding _ _) _ _ _;refine wpAny_holding (wpAny_bind (wpAny_bindSpecial_def (keep _ _ wE) wF ?_));refine wpAny_bind (wpAny_call (codeAny_mono hq fun r s' hr=>?_))
 match r,hr with
 | .error e,z=>exact z
 | .ok (.ret v),⟨e1,z⟩=>
  subst e1;refine wpAny_pure ?_;show wpAny _ _ (ret _) _ _ _;exact wpAny_pure z
end
end L2
set_option maxRecDepth 100000
namespace L2
open PySem PySem.Spec PyProof.Rows
section
variable {prog:Program} {w:World} {A:Around} {E:Value->Shared->Prop} {h:Heap} {g:Array GenState} {d:Drawn} {t:Nat} {os:OsState}
variable {nm q:Str} {C N:Addr} {bs bm bmB:List Value} {P1:Bool} {sn:List Str} {sub:List Value} {ab:Bool} {col:Option Bool} {dd:Option Addr} {k0 k1 k2 k3 k5:Option Value} {B newId nid initId:String}
noncomputable abbrev R9 (C t0:Addr) (od:Option Addr):Obj:={ cls:=.ref C,dict:=od,data:=.fields #[.ref t0,.none,.none,.none,.bool false,.none] }
theorem afi(F:ExcBaseFacts B nid initId bmB)(T:OwnTail h bmB bm){e a0:Addr}{Q:Value->Shared->Prop}(hC:h.get? C=some (excClassObj nm q C N bs bm P1 sn sub ab col dd k0 k1 k2 k3 k5 newId))(he:h.get? e=some (R9 C a0 od))(hq:∀ h' a1,(∀ b o,b≠e->h.get? b=some o->h'.get? b=some o)->h'.get? e=some (R9 C a1 od)->Q .none ⟨h',g,d,t,os⟩) :
  wpAny (model prog w) A (call (.builtin initId) [.ref e,v]) Q E ⟨h,g,d,t,os⟩:=by
 refine wpAny_call (codeAny_call_builtin F.init.plain F.initEntry (wpAny_check_init_subU F T hC he rfl ?_))
 wp_walk
 refine hq _ h.objs.size (fun b o hb cK=>?_) ?_
 .rw [Heap.get?_update_other _ _ (Ne.symm hb)];exact Heap.get?_push_of_some _ cK
 .rw [Heap.get?_update_self _ (Heap.get?_push_of_some _ he) rfl];rfl
end
end L2
set_option maxRecDepth 100000
namespace L2
open PySem PySem.Spec PyProof.Rows
section
variable {M:Model} {A:Around} {E:Value->Shared->Prop} {env:Env}
theorem ajR{x:Sem Value}{Q:Flow->Shared->Prop}(hh:A.handled=none)(h:wpAny M A x (fun v zw=>∃ (e C t N:Addr) (od:Option Addr) (nm q:Str) (bs bm:List Value) (P1:Bool) (sn:List Str) (sub:List Value) (ab:Bool) (col:Option Bool) (dd:Option Addr) (k0 k1 k2 k3 k5:Option Value) (newId:String),v=.ref e/\
   zw.heap.get? C=some (excClassObj nm q C N bs bm P1 sn sub ab col dd k0 k1 k2 k3 k5 newId)/\bm.contains (.type "BaseException")=true/\zw.heap.get? e=some (R9 C t od)/\E (.ref e) zw) E s) :
  wpAny M A (raiseStmt env (some x) none) Q E s:=by
 unfold raiseStmt;refine wpAny_bind (wpAny_mono h (fun v zw z=>?_) fun _ _ y=>y);obtain ⟨e,C,t,N,od,nm,q,bs,bm,P1,sn,sub,ab,col,dd,k0,k1,k2,k3,k5,newId,rfl,hC,E9,he,hE⟩:=z;have hcB:(Value.ref C::bm).contains (.type "BaseException")=true:=by rw [List.contains_cons,E9,Bool.or_true]
 obtain ⟨hp,g,d,tk,os⟩:=zw
 repeat (first | with_reducible refine wpAny_loadPart_at he ?_ | with_reducible refine wpAny_loadPart_at hC ?_ | (with_reducible refine wpAny_isSubtype_exc hC ?_;rw [hcB]) | wp_step)
 exact wpAny_raiseNew_none hh hE
end
end L2
set_option maxRecDepth 100000
namespace L2
open PySem PySem.Spec PyProof.Rows PySem.W PySem.Builtin PySem.Builtin.ObjectAttr
noncomputable def q9 (bmB:List Value):List Value->Bool
 | []=>bmB==[]
 | v::r=>(v::r)==bmB || match v with
  | .ref _=>q9 bmB r
  | _=>false
theorem aeg{B:String}(SF:StoreFacts B bmB "object.__setattr__" "object")(self:Value):∀ {l:List Value},q9 bmB l=true->refuseLoop self "__setattr__" l=pure ()
 | [],e=>by rw [<- SF.passes self,<- beq_iff_eq.mp e]
 | v::r,e=>by
  unfold q9 at e
  rcases Bool.or_eq_true_iff.mp e with z | z
  .rw [beq_iff_eq.mp z];exact SF.passes self
  .cases v with
   | ref c=>rw [refuseLoop_ref];exact aeg SF self z
   | _=>cases z
theorem ahq{B:String}(SF:StoreFacts B bmB "object.__setattr__" "object"):∀ {l:List Value},q9 bmB l=true->l.contains (.type "object")=true
 | [],e=>by have:=SF.hasOwner;rw [beq_iff_eq.mp e] at this;exact this
 | v::r,e=>by
  unfold q9 at e
  rcases Bool.or_eq_true_iff.mp e with z | z
  .rw [beq_iff_eq.mp z];exact SF.hasOwner
  .cases v with
   | ref c=>rw [List.contains_cons,ahq SF z,Bool.or_true]
   | _=>cases z
section
variable {prog:Program} {w:World} {A:Around} {E:Value->Shared->Prop} {h:Heap} {g:Array GenState} {d:Drawn} {t:Nat} {os:OsState} {K:Frag} {C e t0:Addr} {cd:ClassData} {B:String} {bmB:List Value} {name:Str} {v:Value}
theorem ajS{Q:Unit->Shared->Prop}(SF:StoreFacts B bmB "object.__setattr__" "object")(X:K.In h)(he:h.get? e=some (R9 C t0 none))(hc:clsIn K C=some cd)(hd:cd.hasDict=true)(ho:q9 bmB cd.mro=true)(hs:findIn K (.ref C) "__setattr__"=some (some (.builtin "object.__setattr__")))(ht:findIn K (.ref C) name=some none)(hq:∀ h' dx tk,h.objs.size<=dx->dx≠e->h'.get? e=some (R9 C t0 (some dx))->h'.Ns1 dx (fun y=>if y=name then some v else none)->(∀ b o,b≠e->h.get? b=some o->h'.get? b=some o)->Q () ⟨h',g,d,tk,os⟩) :
  wpAny (model prog w) A (setAttr (.ref e) name v) Q E ⟨h,g,d,t,os⟩:=by
 have I:InstAt h e (R9 C t0 none) C none:=⟨he,rfl,rfl,trivial⟩
 refine set_plain (s:=⟨h,g,d,t,os⟩) X I hs ?_;have ne:cd.mro.isEmpty=false:=by
  cases q:cd.mro with
  | nil=>
   rw [q] at ho
   have:=SF.hasOwner
   rw [beq_iff_eq.mp ho] at this
   cases this
  | cons _ _=>rfl
 have sb:Looks (model prog w) h (isInstance (.ref e) (.type "object")) true:=I.type.andThen (looks_mroIn X (by unfold mroIn;rw [hc,Option.bind_some,if_neg (by rw [ne];decide),ahq SF ho]));refine codeAny_call_builtin SF.slot.plain SF.entry (@check_slot (model prog w) _ _ ⟨h,g,d,t+1,os⟩ "object.__setattr__" "object" "__setattr__" (.ref e) [.str name t,v] [] _ SF.kind SF.split sb (SF.args (.ref e) (.str name t) v) ?_);have hm:Looks (model prog w) h (mroOf (.ref C)) cd.mro:=(looks_clsIn X hc).andThen .now;rw [osa_eq,refuse_eq];refine wpAny_bind (wpAny_bind (I.type.here (s:=⟨h,g,d,t+1,os⟩) (wpAny_bind (hm.here (s:=⟨h,g,d,t+1,os⟩) ?_))));rw [aeg SF _ ho];refine wpAny_pure (wpAny_bind (I.type.here (s:=⟨h,g,d,t+1,os⟩) (wpAny_bind ((looks_findIn X ht).here (s:=⟨h,g,d,t+1,os⟩) (wpAny_bind (m:=storeTaker? none) (wpAny_pure ?_))))));show wpAny _ _ (ownStreamTells (.ref e) (.ref C) >>= _) _ _ _;refine wpAny_bind (m:=ownStreamTells (.ref e) (.ref C)) (wpAny_pure ?_);show wpAny _ _ (ownDictForStores (.ref e) >>= _) _ _ _;refine wpAny_bind ?_;show wpAny _ _ (instanceDict e true) _ _ _;unfold instanceDict;refine wpAny_bind (wpAny_loadPart (s:=⟨h,g,d,t+1,os⟩) he ?_)
 dsimp only
 refine wpAny_bind ((looks_clsIn X hc).here (s:=⟨h,g,d,t+1,os⟩) ?_);rw [hd,if_neg (by decide),if_neg (by simp [typeHasDict])];have zh:(h.push { cls:=.type "dict",data:=.dict #[] }).get? e=some (R9 C t0 none):=Heap.get?_push_of_some _ he;have hW:e≠h.objs.size:=K4 (Heap.lt_size he);refine wpAny_bind (wpAny_alloc' (wpAny_bind (wpAny_update' zh (wpAny_pure ?_))));have hgd:((h.push { cls:=.type "dict",data:=.dict #[] }).update e fun o=>{ cls:=o.cls,dict:=some h.objs.size,data:=o.data,slots:=o.slots }).get? h.objs.size=some { cls:=.type "dict",data:=.dict #[] }:=(Heap.get?_update_ne _ _ _ _ hW.symm).trans (Heap.get?_push_at rfl rfl);have pM:((h.push { cls:=.type "dict",data:=.dict #[] }).update e fun o=>{ cls:=o.cls,dict:=some h.objs.size,data:=o.data,slots:=o.slots }).get? e=some (R9 C t0 (some h.objs.size)):=Heap.get?_update_self _ zh rfl;have hgo:∀ b o,b≠e->h.get? b=some o->((h.push { cls:=.type "dict",data:=.dict #[] }).update e fun o=>{ cls:=o.cls,dict:=some h.objs.size,data:=o.data,slots:=o.slots }).get? b=some o:=fun b o hb z=>(Heap.get?_update_ne _ _ _ _ hb).trans (Heap.get?_push_of_some _ z)
 generalize ((h.push { cls:=.type "dict",data:=.dict #[] }).update e fun o=>{ cls:=o.cls,dict:=some h.objs.size,data:=o.data,slots:=o.slots })=h2 at hgd pM hgo ⊢
 have v1:h2.Ns h.objs.size (fun _=>none):=⟨_,#[],_,hgd,rfl,fun e he=>absurd he (by simp),fun _=>rfl⟩
 show wpAny _ _ (storeInDict h.objs.size (.str name t) name v) _ _ _;unfold storeInDict newKeyGuard;refine wpAny_bind (wpAny_pure (wpAny_bind (wpAny_nsSet1 (Heap.Ns1.of_empty v1) fun h' gU pI=>?_)));obtain ⟨oD,esD,epD,hoD,hdD,hcD⟩:=gU.count (Within.cons name v Within.nil);refine wpAny_bind (wpAny_lookBehind hoD (by rw [hdD];exact pastItsLine_dict (F6 hcD (by rw [E8,T7,sizeLine_eq];lia))) (wpAny_pure ?_));exact hq h' h.objs.size _ (C2 _) hW.symm ((pI.2 e hW).trans pM) gU fun b o hb z=>(pI.2 b (K4 (Heap.lt_size z))).trans (hgo b o hb z)
end
end L2
set_option maxRecDepth 100000
namespace L2
open PySem PySem.Spec PyProof.Rows PySem.W
section
variable {M:Model} {A:Around} {E:Value->Shared->Prop} {s:Shared} {K:Frag} {C D e:Addr} {oe:Obj} {b:Bool}
theorem ajT{Q:Bool->Shared->Prop}(X:K.In s.heap)(he:s.heap.get? e=some oe)(hc:oe.cls=.ref C){cd:ClassData}(hD:clsIn K D=some cd)(hT:typeIn K (.ref D)=some (.type "type"))(hB:mroIn K D (.type "BaseException")=some true)(hm:mroIn K C (.ref D)=some b)(h:Q b s) :
  wpAny M A (excMatches (.ref e) (.ref D)) Q E s:=by
 have t1:Looks M s.heap (isInstance (.ref D) (.type "tuple")) false:=(looks_typeIn X hT).andThen (Looks.of_pure tc_notTuple);have t2:Looks M s.heap (isExcClass (.ref D)) true:=by
  unfold isExcClass;refine Looks.andThen (a:=true) ?_ (by rw [if_pos rfl];exact looks_mroIn X hB);show Looks M s.heap (isType (.ref D)) true;unfold clsIn at hD
  split at hD
  .rename_i ho
   exact (Looks.ld (part:=none) (X _ _ ho)).andThen .now
  .cases hD
 have t3:Looks M s.heap (typeOf (.ref e)) (.ref C):=hc ▸ (Looks.ld he).andThen .now;unfold excMatches;refine wpAny_bind (t1.here ?_);rw [if_neg (by decide)];refine wpAny_bind (wpAny_pure (wpAny_bind ?_));rw [List.forIn_cons];refine wpAny_bind (wpAny_bind (t2.here (wpAny_pure ?_)));refine wpAny_pure (wpAny_bind (t3.here (wpAny_bind ?_)));rw [List.forIn_cons];refine wpAny_bind (wpAny_bind ((looks_mroIn X hm).here ?_))
 cases b with
 | true=>exact wpAny_pure (wpAny_pure (wpAny_pure h))
 | false=>exact wpAny_pure (wpAny_pure (wpAny_pure h))
end
end L2
set_option maxRecDepth 100000
namespace L2
open PySem PySem.Spec PyProof.Rows PySem.W PySem.Builtin PySem.Builtin.ObjectAttr
section
variable {prog:Program} {w:World} {A:Around} {E:Value->Shared->Prop} {K:Frag} {h:Heap} {g:Array GenState} {d:Drawn} {t:Nat} {os:OsState} {C e dx:Addr} {ox od:Obj} {name:Str} {v:Value} {expr:Bool} {Q:Value->Shared->Prop}
theorem an2(X:K.In h)(I:InstAt h e ox C (some od))(aQ:findIn K (.ref C) "__getattribute__"=some (some (.builtin "BaseException.__getattribute__")))(lB:findIn K (.ref C) "__getattr__"=some none)(hB:mroIn K C (.type "BaseException")=some true)(hf:findObj K C (some od) name=some (.value v))(hh:handedIn v=true)(hq:Q v ⟨h,g,d,t+1,os⟩):wpAny (model prog w) A (getAttr (.ref e) name expr) Q E ⟨h,g,d,t,os⟩:=by
 have L0:=I.type (M:=model prog w);have L1:=looks_findIn (M:=model prog w) X aQ;have L2:=looks_findIn (M:=model prog w) X lB;have L3:=looks_find (M:=model prog w) X I hf;have eG:(Value.builtin "BaseException.__getattribute__" == Value.builtin "object.__getattribute__")=false:=by decide +kernel
 have cL:(onTheHeap (Value.ref C)&&Value.builtin "BaseException.__getattribute__" == Value.builtin "object.__getattribute__")=false:=by rw [eG];rfl
 have pN:(expr&&onTheHeap (Value.builtin "BaseException.__getattribute__"))=false:=by cases expr <;> rfl
 unfold getAttr getAttrBy;refine wpAny_bind (wpAny_mkText (wpAny_holding (wpAny_bind (L0.at (wpAny_bind (L1.at ?_))))))
 dsimp only
 rw [cL,if_neg (by decide)];show wpAny _ _ (getAttrByItsOwn _ _ _ _ _ _) _ _ _;unfold getAttrByItsOwn;refine wpAny_bind ?_;show wpAny _ _ (typeLookup (.ref C) "__getattr__") _ _ _;refine L2.at (wpAny_bind (wpAny_attempt (wpAny_holding ?_)));unfold callGetattribute;rw [pN,if_neg (by decide)];unfold boundAndCalled;have FA:ExcAttrFacts "ValueError":=F.attr_ValueError;rw [FA.ga.bind (.ref e)];refine wpAny_bind (wpAny_pure (wpAny_call ?_));have sb:Looks (model prog w) h (isInstance (.ref e) (.type "BaseException")) true:=L0.andThen (looks_mroIn X hB);refine codeAny_call_builtin FA.ga.plain F.entry_bexc_ga (@check_slot (model prog w) _ _ ⟨h,g,d,t+1,os⟩ "BaseException.__getattribute__" "BaseException" "__getattribute__" (.ref e) [.str name t] [] _ (by decide +kernel) (by decide +kernel) sb (F.args_bexc_ga _ _) ?_);unfold Builtin.«object.__getattribute__»;have e0:slotArgs "__getattribute__" 1 ⟨[Value.ref e]++[Value.str name t],[]⟩=pure (.ref e,[.str name t]):=rfl;rw [e0];refine wpAny_bind (wpAny_pure ?_);show wpAny _ _ (attrName (.str name t) >>= _) _ _ _;refine wpAny_bind (m:=attrName (.str name t)) (wpAny_pure ?_);refine wpAny_bind (L0.at (wpAny_bind (L3.at (wpAny_pure ?_))));show wpAny _ _ (handedOut v) _ _ _;rw [handedOut_of hh];exact wpAny_pure hq
end
end L2
set_option maxRecDepth 100000
namespace L2
open PySem PySem.Spec PyProof.Rows PySem.W PySem.Builtin PySem.Builtin.ObjectAttr
section
variable {prog:Program} {w:World} {A:Around} {E:Value->Shared->Prop} {K:Frag} {h:Heap} {g:Array GenState} {d:Drawn} {t:Nat} {os:OsState} {C e dx:Addr} {ox od:Obj} {Q:Option Value->Shared->Prop}
theorem ajU(X:K.In h)(I:InstAt h e ox C (some od))(aQ:findIn K (.ref C) "__getattribute__"=some (some (.builtin "BaseException.__getattribute__")))(lB:findIn K (.ref C) "__getattr__"=some none)(hB:mroIn K C (.type "BaseException")=some true)(hf:findObj K C (some od) "__class__"=some (.bind (.builtin "getset_descriptor.__get__") (.builtin "object.__class__")))(hO:mroIn K C (.type "object")=some true)(hq:Q (some (.ref C)) ⟨h,g,d,t+1,os⟩):wpAny (model prog w) A (getAttr? (.ref e) "__class__") Q E ⟨h,g,d,t,os⟩:=by
 have L0:=I.type (M:=model prog w);have L1:=looks_findIn (M:=model prog w) X aQ;have L2:=looks_findIn (M:=model prog w) X lB;have L3:=looks_find (M:=model prog w) X I hf;have eG:(Value.builtin "BaseException.__getattribute__" == Value.builtin "object.__getattribute__")=false:=by decide +kernel
 have cL:(onTheHeap (Value.ref C)&&Value.builtin "BaseException.__getattribute__" == Value.builtin "object.__getattribute__")=false:=by rw [eG];rfl
 unfold getAttr? getAttrBy? getAttrBy;refine wpAny_bind (wpAny_mkText (wpAny_bind (wpAny_attempt (wpAny_holding (wpAny_bind (L0.at (wpAny_bind (L1.at ?_))))))))
 dsimp only
 rw [cL,if_neg (by decide)];show wpAny _ _ (getAttrByItsOwn _ _ _ _ _ _) _ _ _;unfold getAttrByItsOwn;refine wpAny_bind ?_;show wpAny _ _ (typeLookup (.ref C) "__getattr__") _ _ _;refine L2.at (wpAny_bind (wpAny_attempt (wpAny_holding ?_)));unfold callGetattribute;rw [if_neg (by simp)];unfold boundAndCalled;have FA:ExcAttrFacts "ValueError":=F.attr_ValueError;rw [FA.ga.bind (.ref e)];refine wpAny_bind (wpAny_pure (wpAny_call ?_));have sb:Looks (model prog w) h (isInstance (.ref e) (.type "BaseException")) true:=L0.andThen (looks_mroIn X hB);refine codeAny_call_builtin FA.ga.plain F.entry_bexc_ga (@check_slot (model prog w) _ _ ⟨h,g,d,t+1,os⟩ "BaseException.__getattribute__" "BaseException" "__getattribute__" (.ref e) [.str "__class__" t] [] _ (by decide +kernel) (by decide +kernel) sb (F.args_bexc_ga _ _) ?_);unfold Builtin.«object.__getattribute__»;have e0:slotArgs "__getattribute__" 1 ⟨[Value.ref e]++[Value.str "__class__" t],[]⟩=pure (.ref e,[.str "__class__" t]):=rfl;rw [e0];refine wpAny_bind (wpAny_pure ?_);show wpAny _ _ (attrName (.str "__class__" t) >>= _) _ _ _;refine wpAny_bind (m:=attrName (.str "__class__" t)) (wpAny_pure ?_);refine wpAny_bind (L0.at (wpAny_bind (L3.at ?_)));show wpAny _ _ (bindTo (.builtin "getset_descriptor.__get__") (.builtin "object.__class__") (.ref e) (.ref C)) _ _ _;unfold bindTo;refine wpAny_bind (wpAny_holding (wpAny_call (class_get (s:=⟨h,g,d,t+1,os⟩) (ox:=ox) (od:=some od) X I hO ?_)));refine wpAny_pure ?_;show wpAny _ _ (handedOut (.ref C)) _ _ _;rw [handedOut_of rfl];exact wpAny_pure (wpAny_pure hq)
theorem ahr(P1:hasDictIn K C=true)(aQ:findIn K (.ref C) "__getattribute__"=some (some (.builtin "BaseException.__getattribute__")))(lB:findIn K (.ref C) "__getattr__"=some none)(hB:mroIn K C (.type "BaseException")=some true)(ha:findIn K (.ref C) "__class__"=some (some (.builtin "object.__class__")))(hn:specialIn K (.builtin "object.__class__") "__get__"=some (some (.builtin "getset_descriptor.__get__")))(pA:takesIn K (.builtin "object.__class__")=some true)(hO:mroIn K C (.type "object")=some true) :
  KitX K (.ref e) (.ref C) (fun h=>InstAt h e ox C (some od)) where
 ty:=fun _ _ _ I=>I.type
 it:=fun _ _ X _=>by
  obtain ⟨cdD,hcD,_⟩:=any_some P1;unfold clsIn at hcD
  split at hcD
  .rename_i ho
   exact (Looks.ld (part:=none) (X _ _ ho)).andThen .now
  .cases hcD
 ne:=fun h tp dd its n sl X htp=>by
  obtain ⟨cdD,hcD,_⟩:=any_some P1;refine Bool.eq_false_iff.mpr fun q=>?_
  have e1:C=tp:=Value.ref.inj (beq_iff_eq.mp q);subst e1;unfold clsIn at hcD
  split at hcD
  .rename_i ho
   cases (X _ _ ho).symm.trans htp
  .cases hcD
 ca:=fun {_ _ _ _ _ s} X I k=>by
  obtain ⟨h,g,d,t,os⟩:=s;exact ajU X I aQ lB hB (findObj_data (by obtain ⟨cd,hc,_⟩:=any_some P1;rw [hc];rfl) ha hn pA) hO k
end
end L2
set_option maxRecDepth 100000
namespace L2
open PySem PySem.Spec PyProof.Rows PySem.W
noncomputable def Flies (h:Heap) (x C dx T:Addr):Prop:=∃ (vs:Array Value) (oT:Obj) (ts:Array Value),h.get? x=some { cls:=.ref C,dict:=some dx,data:=.fields vs }/\vs[1]?=some (.ref T)/\T≠x/\h.get? T=some oT/\oT.data=.fields ts/\ts[3]?=some .none
section
variable {M:Model} {A:Around} {E:Value->Shared->Prop} {s:Shared} {base:Heap} {env:Env} {outer:List Env} {L x C dx:Addr} {Q:Unit->Shared->Prop}
theorem af5{vs:Array Value}{l:List Env}(hl:s.heap.FunFrames base l)(he:s.heap.get? x=some o)(hd:o.data=.fields vs):x∉l.filterMap (·.frame):=fun hm=>by
 obtain ⟨_,o',ho,hn⟩:=hl.mem hm;rw [he] at ho;cases ho;exact hn vs hd
theorem af6{oe:Obj}{vs:Array Value}{head:Value}{hadNext:Bool}(P0:A.frames=some (env::outer))(hl:s.heap.FunFrames base (env::outer))(hf:env.frame=some L)(he:s.heap.get? x=some { cls:=.ref C,dict:=some dx,data:=.fields vs })(hsz:1<vs.size)(h:∀ h' T,s.heap.objs.size<=T->Flies h' x C dx T->(∀ b o,b≠x->b∉(env::outer).filterMap (·.frame)->s.heap.get? b=some o->h'.get? b=some o)->(∀ b o,b≠x->s.heap.get? b=some o->∃ sl,h'.get? b=some { o with slots:=sl })->Q () { s with heap:=h' }) :
  wpAny M A (do let a <- frameOf env;let pl <- entryPlaceOf L hadNext;let b <- EntryCells.newEntry head a .none (rawInt L) .none pl;setField (.ref x) 1 b) (fun _ s'=>wpAny M A (setFlight (.ref x) none) Q E s') E s:=by
 have hxf:=af5 hl he rfl;refine wpAny_bind (wpAny_frameOf_fun P0 hl hf fun zr zg=>wpAny_bind (wpAny_entryPlaceOf fun pl Q8=>?_));unfold EntryCells.newEntry newFields;refine wpAny_bind (wpAny_newObj_type ?_ (Q8.sizeOk5 _ _ _ _ _));have zf:zr.get? x=some { cls:=.ref C,dict:=some dx,data:=.fields vs }:=(zg.2.1 x hxf).trans he;generalize hoT:({ cls:=.type "traceback",dict:=none,data:=.fields ([head,.ref L,.none,rawInt L,.none]++(if pl.isEmpty then O3 6 Value.none else pl)).toArray } : Obj)=oT;have hTd:∃ ts:Array Value,oT.data=.fields ts/\3<ts.size:=⟨_,by rw [<- hoT],by simp only [J7,E3,E8,T7] <;> lia⟩
 obtain ⟨ts,hTd,hT3⟩:=hTd;have hTf:oT.isFreed=false:=by rw [<- hoT];rfl
 have hTe:zr.objs.size≠x:=x4 (Heap.lt_size zf);have ze:=Heap.get?_push_of_some (h:=zr) oT zf;have zd:(zr.push oT).get? zr.objs.size=some oT:=Heap.get?_push_size zr hTf;refine wpAny_setField ze rfl hsz ?_;have zc:=Obj.data_mapFields (o:={ cls:=.ref C,dict:=some dx,data:=.fields vs }) rfl (·.setIfInBounds 1 (Value.ref zr.objs.size));have zb:=Heap.get?_update_self (Obj.mapFields (·.setIfInBounds 1 (Value.ref zr.objs.size))) ze (Obj.isFreed_of_fields zc);have za:=(Heap.get?_update_other (zr.push oT) (Obj.mapFields (·.setIfInBounds 1 (Value.ref zr.objs.size))) (Ne.symm hTe)).trans zd;unfold setFlight;refine wpAny_bind (wpAny_field zb zc (x:=.ref zr.objs.size) (by simp [hsz]) ?_);rw [if_pos (show (Value.ref zr.objs.size != Value.none)=true from by simp)];refine wpAny_setField za hTd hT3 (h _ zr.objs.size ?_ ?_ (fun b o hb wH z=>?_) fun b o hb z=>?_)
 .rw [zg.1];exact C2 _
 .refine ⟨_,_,_,(by rw [Heap.get?_update_other _ _ hTe];exact zb),?_,hTe,Heap.get?_update_self _ za (Obj.isFreed_of_fields (Obj.data_mapFields hTd _)),Obj.data_mapFields hTd _,?_⟩
  .simp [hsz]
  .simp [hT3]
 .have hbT:zr.objs.size≠b:=x4 (by rw [zg.1];exact Heap.lt_size z);rw [Heap.get?_update_other _ _ hbT,Heap.get?_update_other _ _ (Ne.symm hb)];exact Heap.get?_push_of_some _ ((zg.2.1 b wH).trans z)
 .have hbT:zr.objs.size≠b:=x4 (by rw [zg.1];exact Heap.lt_size z);obtain ⟨sl,z'⟩:=zg.2.2 b o z;refine ⟨sl,?_⟩;rw [Heap.get?_update_other _ _ hbT,Heap.get?_update_other _ _ (Ne.symm hb)];exact Heap.get?_push_of_some _ z'
theorem ajV(P0:A.frames=some (env::outer))(hl:s.heap.FunFrames base (env::outer))(hf:env.frame=some L)(he:s.heap.get? x=some (R9 C t0 (some dx)))(h:∀ h' T,s.heap.objs.size<=T->Flies h' x C dx T->(∀ b o,b≠x->b∉(env::outer).filterMap (·.frame)->s.heap.get? b=some o->h'.get? b=some o)->(∀ b o,b≠x->s.heap.get? b=some o->∃ sl,h'.get? b=some { o with slots:=sl })->Q () { s with heap:=h' }) :
  wpAny M A (noteFrame (.ref x) env) (fun _ s'=>wpAny M A (setFlight (.ref x) none) Q E s') E s:=by
 unfold noteFrame;simp only [hf];refine wpAny_bind (wpAny_field he rfl (x:=.none) rfl ?_);rw [if_neg (by decide)];exact af6 (oe:=R9 C t0 (some dx)) P0 hl hf he (by simp) h
theorem af7(P0:A.frames=some (env::outer))(hl:s.heap.FunFrames base (env::outer))(hf:env.frame=some L)(fl:Flies s.heap x C dx T)(h:∀ h' T',s.heap.objs.size<=T'->Flies h' x C dx T'->(∀ b o,b≠x->b≠T->b∉(env::outer).filterMap (·.frame)->s.heap.get? b=some o->h'.get? b=some o)->(∀ b o,b≠x->b≠T->s.heap.get? b=some o->∃ sl,h'.get? b=some { o with slots:=sl })->Q () { s with heap:=h' }) :
  wpAny M A (noteFrame (.ref x) env) (fun _ s'=>wpAny M A (setFlight (.ref x) none) Q E s') E s:=by
 obtain ⟨vs,oT,ts,he,h1,hTx,hT,hTd,h3⟩:=fl;unfold noteFrame;simp only [hf];refine wpAny_bind (wpAny_field he rfl h1 ?_);rw [if_pos (show (Value.ref T != Value.none)=true from by simp)];refine wpAny_bind (wpAny_field hT hTd h3 ?_);rw [if_neg (show ¬ ((Value.none==rawInt L)=true) from by simp [rawInt])];refine wpAny_bind (wpAny_setField hT hTd (mD.mp h3).1 ?_);have oth:∀ b,b≠T->(s.heap.update T (Obj.mapFields (·.setIfInBounds 3 Value.none))).get? b=s.heap.get? b:=fun b hb=>Heap.get?_update_other _ _ (Ne.symm hb)
 have hTf:T∉(env::outer).filterMap (·.frame):=af5 hl hT hTd;have hTn:∀ b o,s.heap.get? b=some o->(∀ vs,o.data≠.fields vs)->b≠T:=fun b o hb hn q=>by rw [q,hT] at hb;cases hb;exact hn ts hTd
 refine af6 (oe:=oT) P0 (hl.of_keeps fun b o hb hn=>⟨o,(oth b (hTn b o hb hn)).trans hb,rfl⟩) hf ((oth x (Ne.symm hTx)).trans he) (mD.mp h1).1 fun h' T' n' fl' k1 k2=>h h' T' ?_ fl' (fun b o hb hbT wH z=>k1 b o hb wH ((oth b hbT).trans z)) fun b o hb hbT z=>k2 b o hb ((oth b hbT).trans z)
 exact F6 (Nat.le_of_eq (Heap.size_update ..).symm) n'
theorem alG(fl:Flies s.heap x C dx T)(h:∀ h',Flies h' x C dx T->(∀ b o,b≠T->s.heap.get? b=some o->h'.get? b=some o)->Q () { s with heap:=h' }):wpAny M A (setFlight (.ref x) none) Q E s:=by
 obtain ⟨vs,oT,ts,he,h1,hTx,hT,hTd,h3⟩:=fl;have h3s:3<ts.size:=(mD.mp h3).1;unfold setFlight;refine wpAny_bind (wpAny_field he rfl h1 ?_);rw [if_pos (show (Value.ref T != Value.none)=true from by simp)];refine wpAny_setField hT hTd h3s (h _ ⟨vs,_,_,(Heap.get?_update_other _ _ hTx).trans he,h1,hTx,Heap.get?_update_self _ hT (Obj.isFreed_of_fields (Obj.data_mapFields hTd _)),Obj.data_mapFields hTd _,?_⟩ fun b o hb z=>(Heap.get?_update_other _ _ (Ne.symm hb)).trans z);simp [h3s]
end
end L2
set_option maxRecDepth 100000
namespace L2
open PySem PySem.Spec PyProof.Rows
noncomputable def xm (m:Nat) (x C:Addr):HO:=.ext fun h=>m<=x/\∃ t0,h.get? x=some (R9 C t0 none)
noncomputable def xo (m:Nat) (x C dx:Addr):HO:=.ext fun h=>m<=x/\∃ t0,h.get? x=some (R9 C t0 (some dx))
noncomputable def xc (x C dx:Addr):HO:=.ext fun h=>∃ o,h.get? x=some o/\o.cls=.ref C/\o.dict=some dx/\PySem.W.notCls o=true
theorem xm_ok{P:Program}{w:World}{x:Addr}(hm:m<=x)(e:h.get? x=some (R9 C t0 none)):ObjOk P w H h x (xm m x C):=⟨⟨hm,t0,e⟩,⟨_,e⟩,fun _ _ z k=>⟨z.1,z.2.elim fun t a=>⟨t,k _ a⟩⟩⟩
theorem xo_ok{P:Program}{w:World}{x:Addr}(hm:m<=x)(e:h.get? x=some (R9 C t0 (some dx))):ObjOk P w H h x (xo m x C dx):=⟨⟨hm,t0,e⟩,⟨_,e⟩,fun _ _ z k=>⟨z.1,z.2.elim fun t a=>⟨t,k _ a⟩⟩⟩
theorem xc_ok{P:Program}{w:World}{x:Addr}(e:h.get? x=some o)(h1:o.cls=.ref C)(h2:o.dict=some dx)(h3:PySem.W.notCls o=true):ObjOk P w H h x (xc x C dx):=
 ⟨⟨o,e,h1,h2,h3⟩,⟨_,e⟩,fun _ _ z k=>z.elim fun t a=>⟨t,k _ a.1,a.2⟩⟩
theorem uad{P:Program}{w:World}{o:HO}(x:K1 P w H h)(hn:H a=none)(new:ObjOk P w (A0 H a o) h a o):K1 P w (A0 H a o) h:=fun b u e=>by
 by_cases hb:b=a
 .subst hb;rw [A1] at e;cases e;exact new
 .rw [A3 hb] at e;exact (x b u e).stay (fun c v _ q=>q) (fun c q=>by rw [A3 (M6 q hn)];exact q) fun c xs q=>by rw [A3 (M6 q hn)];exact q
theorem aqU{N:Addr}{m:Str->Option Value}{n:Str}(X:K.In h)(G:h.Ns N m)(e:E2 K N n=some (some v)):m n=some v:=by
 obtain ⟨o,es,ep,ho,hd,_,hf⟩:=G;unfold E2 at e
 split at e
 .rename_i es' n' q
  rw [X _ _ q] at ho;cases ho;cases hd
  split at e
  .rename_i y hy
   cases e;rw [<- hf];unfold nsFind findBy;rw [<- Array.find?_toList,hy];rfl
  .exfalso
   split at e <;> cases e
 .cases e
noncomputable abbrev dG:List Value:=[.type "ValueError",.type "Exception",.type "BaseException",.type "object"]
structure ErrC(K:PySem.W.Frag)(C f:Addr):Prop where
 ex:∃ (nm q:Str) (N:Addr) (bs bm:List Value) (sn:List Str) (sub:List Value) (ab:Bool) (col:Option Bool) (dd:Option Addr) (k0 k1 k2 k3 k5:Option Value),
  K.lookup C=some (excClassObj nm q C N bs bm true sn sub ab col dd k0 k1 k2 k3 k5 "ValueError.__new__")/\cW K dG bm=true/\q9 dG (.ref C::bm)=true/\fH K N=true/\E2 K N "__init__"=some (some (.ref f))
 fn:V4 K (.ref f)=true
 sa:F8 K (.ref C) "__setattr__"=some (some (.builtin "object.__setattr__"))
 ga:F8 K (.ref C) "__getattribute__"=some (some (.builtin "BaseException.__getattribute__"))
 gt:F8 K (.ref C) "__getattr__"=some none
 cl:F8 K (.ref C) "__class__"=some (some (.builtin "object.__class__"))
 bx:N0 K C (.type "BaseException")=some true
 ob:N0 K C (.type "object")=some true
 kp:N4 K (.ref C)=true
theorem ErrC.cls(M:ErrC K C f):∃ cd,fI K C=some cd/\cd.hasDict=true/\q9 dG cd.mro=true:=by
 obtain ⟨nm,q,N,bs,bm,sn,sub,ab,col,dd,k0,k1,k2,k3,k5,l,_,o,_,_⟩:=M.ex;exact ⟨_,by unfold fI;rw [l],rfl,o⟩
section
variable {X:Cx} {k:Nat} {f C:Addr} {fd:FuncData} {ps:List Str} {sp:Sp} {x:Str} {p pos:Pos} {e:Expr} {es:List Expr} {t:TA}
noncomputable def tErr (m:Nat) (C:Addr) (sp:Sp) (t:TA):TE:=fun Y H Q=>t Y H fun vs H1=>vs.length<=1000/\∀ x,H1 x=none->sp (.ref x::vs) (A0 H1 x (xm m x C)) (fun v H2=>v=.non/\Q (.ref x) H2) E0
theorem an3(M:ErrC X.K C f)(F:FnOk X.prog X.w X.K X.mg X.base D9 k f fd ps sp)(hr:Room (k+1) X.A)(hb:Binds X.K fd ps [])(I:Inv X pins Y H s)(r:Vals vs us)(A9:vs.length<=1000)(h:∀ x,H x=none->sp (.ref x::vs) (A0 H x (xm X.s₀.heap.objs.size x C)) (fun v H2=>v=.non/\Q (.ref x) H2) E0) :
  wpAny (model X.prog X.w) X.A (call (.ref C) us) (EP X pins Y Q) X.xe s:=by
 have hq:=h (s.heap.objs.size+1) (I.hok.fresh (Nat.le_succ _));obtain ⟨nm,q,N,bs,bm,sn,sub,ab,col,dd,k0,k1,k2,k3,k5,l,ht,ho,hok,hi⟩:=M.ex;have hC:=I.kIn _ _ l;have hN:s.heap.Ns N (s.heap.nsMap N):=.of_isNs (PySem.W.isNs_of_in I.kIn hok);have wD:=aqU I.kIn hN hi;have hf:∃ o,s.heap.get? f=some o/\o.cls=.type "function":=by
  obtain ⟨o,ho,hc⟩:=Option.map_eq_some_iff.mp (beq_iff_eq.mp M.fn);exact ⟨o,I.kIn _ _ ho,hc⟩
 obtain ⟨of,wE,wF⟩:=hf;have pF:=r.length;have r2:Vals (V.ref (s.heap.objs.size+1)::vs) (Value.ref (s.heap.objs.size+1)::us):=.cons rfl r;have hl:(Value.ref (s.heap.objs.size+1)::us++[]).length=ps.length:=by
  have e:=r2.length;rw [F.len _ _ _ _ hq] at e;rw [M9];exact e.symm
 obtain ⟨h0,g,d,tk,os⟩:=s;refine alF PySem.F.excBase_ValueError (by decide) PySem.F.excBase_ValueError (PySem.W.tail_of_in I.kIn ht) hC hN wD wE wF (by rw [<- pF];exact F6 A9 (by decide)) ?_;have I2:Inv X pins Y (A0 H (h0.objs.size+1) (xm X.s₀.heap.objs.size (h0.objs.size+1) C)) ⟨(h0.push { cls:=.type "tuple",data:=.seq us.toArray }).push (R9 C h0.objs.size none),g,d,tk,os⟩:=
  I.laid (t':=tk) (fun b u z=>Heap.get?_push_of_some _ (Heap.get?_push_of_some _ z)) (Nat.le_succ _) (xm_ok (t0:=h0.objs.size) (Nat.le_succ_of_le I.sz) (by
   have:=Heap.get?_push_size (h0.push { cls:=.type "tuple",data:=.seq us.toArray }) (o:=R9 C h0.objs.size none) rfl
   rwa [Heap.size_push] at this))
 refine codeAny_mono (F.run _ X.stack _ _ ⟨Value.ref (h0.objs.size+1)::us,[]⟩ (Value.ref (h0.objs.size+1)::us) _ _ E0 (hr.make C us []) (I2.env0.make C us []) (by have:=hb _ (Value.ref (h0.objs.size+1)::us) I2.kIn hl;rwa [M9] at this) r2 hq) fun r s' Y9=>?_
 cases r with
 | error e=>exact Y9.elim
 | ok fl=>
  cases fl with
  | ret u=>
   obtain ⟨v,H',I3,rv,ev,q3⟩:=I2.after Y9;subst ev;exact ⟨rv,⟨V.ref (h0.objs.size+1),H',I3,rfl,q3⟩⟩
  | next=>exact False.elim Y9
  | brk=>exact False.elim Y9
  | cont=>exact False.elim Y9
theorem aqV(M:ErrC X.K C f)(F:FnOk X.prog X.w X.K X.mg X.base D9 k f fd ps sp)(hr:Room (k+1) X.A)(hg:Gl X x)(hm:X.mg x=some (.ref C))(hb:Binds X.K fd ps [])(ha:PA X (e::es) t)(K2:(x==("__debug__" : Str))=false:=by decide)(he:starEach (e::es) X.env=(false,eval e X.env)::starEach es X.env:=by rfl)(Q8:(backTo pos (starEach es X.env)).any (·.1)=false:=by rfl) :
  PE X (.Call (.Name x p) (e::es) [] pos) (tErr X.s₀.heap.objs.size C sp t):=by
 intro pins s Y H Q I h;refine wpAny_Call_Name_kw (fO I hg hm ?_ K2);refine iP (h₀:=X.base) I.ok.mod.kin M.kp (A8 (ha pos pins s Y H _ I h) fun us s1 ⟨vs,H1,I1,r,q0,q⟩=>⟨I1.kIn,an3 M F hr hb I1 r q0 q⟩) he Q8
end
theorem alH{o:HO}(h:H a=some o):A0 H a o=H:=by
 funext b;unfold A0;split
 .rename_i e;rw [e,h]
 .rfl
structure LoreC(K:PySem.W.Frag)(L:Addr):Prop where
 sp:x5 K (.ref L) "__getattribute__"=some (some (.builtin "type.__getattribute__"))
 rd:PySem.W.readsIn K L (.type "type")=true
 fc:PySem.W.findCls K (.ref L) (.type "type") "__init__"=some (.val (.builtin "ValueError.__init__"))
noncomputable def tInit (K:PySem.W.Frag) (ta tb:TE):TE:=fun Y H Q=>ta Y H fun x H1=>tb Y H1 fun _ H2=>∃ a m C f,x=.ref a/\H2 a=some (xm m a C)/\ErrC K C f/\Q .non H2
section
variable {X:Cx} {L:Addr} {x:Str} {np ap cp:Pos} {a b:Expr} {ta tb:TE} {pl:Sem Bool}
theorem an4(N:LoreC X.K L)(hg:Gl X x)(hm:X.mg x=some (.ref L))(ha:PE X a ta)(hb:PE X b tb)(K2:(x==("__debug__" : Str))=false:=by decide)(wI:backTo cp (starEach [a,b] X.env)=[(false,eval a X.env),(false,eval b X.env)]:=by rfl)(ht:eval (.Call (.Attribute (.Name x np) "__init__" ap) [a,b] [] cp) X.env=(do
   let ov <- eval (.Name x np) X.env
   standAt ap.atName
   let (f,first) <- holding [ov] (getMethod ov "__init__" pl)
   callWith cp f first (backTo cp (starEach [a,b] X.env)) (backToKw cp (keywordEach [] X.env))):=by rfl) :
  PE X (.Call (.Attribute (.Name x np) "__init__" ap) [a,b] [] cp) (tInit X.K ta tb):=by
 intro pins s Y H Q I h;refine PySem.W.methodCall_KW (pl:=pl) (fO I hg hm ?_ K2) ht;refine PySem.W.method_cls I.kIn N.sp (PySem.W.cls_value I.kIn N.rd N.fc rfl ?_);rw [wI];have I0:=I.tok (s.toks+1);refine Calls.callWith_builtin rfl (Calls.evalArgs_plain (Calls.spliced_cons (A8 (ha pins _ Y H _ I0 h) fun u s1 ⟨v,H1,I1,rv,q1⟩=>Calls.spliced_cons (A8 (hb pins s1 Y H1 _ I1 q1) fun z s2 ⟨y,H2,I2,ry,e,m,C,f,ex,he,M,q2⟩=>Calls.spliced_nil ?_))));subst ex;obtain rfl:u=Value.ref e:=rv;obtain ⟨nm,q,N',bs,bm,sn,sub,ab,col,dd,k0,k1,k2,k3,k5,l,cI,ho,hok,hi⟩:=M.ex;obtain ⟨wJ,t0,hx⟩:=(I2.hok _ _ he).1;obtain ⟨h2,g,d,tk,os⟩:=s2;refine afi PySem.F.excBase_ValueError (PySem.W.tail_of_in I2.kIn cI) (I2.kIn _ _ l) hx fun h' t1 keep iA=>?_
 have I3:=I2.write (x:=e) (e:=e) (t':=tk) (by rw [he];exact True.intro) (.inl rfl) (fun b u hb z=>keep b u hb z) ⟨_,iA⟩ (xm_ok wJ iA);rw [alH he] at I3;exact ⟨.non,H2,I3,rfl,q2⟩
end
end L2
set_option maxRecDepth 100000
namespace L2
open PySem PySem.Spec PyProof.Rows
noncomputable def tFmtI (te:TE):TE:=fun Y H Q=>te Y H fun v H1=>∃ i:Int,v=.int i/\i.natAbs<10 ^ 9/\∀ z:Str,z.length<=100->Q (.str z) H1
noncomputable def dH:List TE->TE
 | [],_,H,Q=>∀ z:Str,Q (.str z) H
 | t::ts,Y,H,Q=>t Y H fun v H1=>∃ y:Str,v=.str y/\y.length<=100000/\dH ts Y H1 Q
section
variable {X:Cx} {e:Expr} {te:TE} {pos:Pos}
inductive PFs (X:Cx):List Expr->List TE->Prop
 | nil:PFs X [] []
 | cons {e:Expr} {te:TE} {es:List Expr} {ts:List TE} : PE X e te->PFs X es ts->PFs X (e::es) (te::ts)
theorem ahs : ∀ {es:List Expr} {ts:List TE} (acc:Str) (n:Nat) (s:Shared) (H:Hp),PFs X es ts->Inv X pins Y H s->acc.length+100000*es.length<=sizeLine->dH ts Y H Q->
  Joins (model X.prog X.w) X.A X.xe (evalEach es X.env) acc (fun out zw=>out.length<=sizeLine/\EP X pins Y Q (.str out zw.toks) { zw with toks:=zw.toks+1 }) s
 | [],_,acc,n,s,H,.nil,I,hl,h=>⟨by simpa using hl,.str acc,H,I.tok _,⟨_,rfl⟩,h acc⟩
 | e::es,_,acc,n,s,H,.cons he hr,I,hl,h=>A8 (he pins s Y H _ I h) fun u s1 ⟨v,H1,I1,rv,y,ev,hy,q⟩=>by
  subst ev;obtain ⟨t,rfl⟩:=rv;rw [E8] at hl;have e1:(acc++y).length=acc.length+y.length:=strLen_append ..;exact ⟨y,t,rfl,by lia,ahs (acc++y) n s1 H1 hr I1 (by lia) q⟩
theorem ajW{e1 e2:Expr}{ts:List TE}(h:PFs X (e1::e2::es) ts)(hn:es.length<=2):PE X (.JoinedStr (e1::e2::es) pos) (dH ts):=by
 intro pins s Y H Q I hq;refine wpAny_JoinedStr (ahs Str.empty 0 s H h I ?_ hq)
 have:Str.empty.length=0:=rfl
 rw [this,E8,E8,sizeLine_eq];lia
end
noncomputable def sXFld (K:PySem.W.Frag) (ta tv:TE) (f:Str):TS:=fun D Y H=>tv Y H fun y H1=>ta Y H1 fun x H2=>∃ a m C g,x=.ref a/\H2 a=some (xm m a C)/\ErrC K C g/\NoAttr K C f/\∀ dx,H2 dx=none->dx≠a->D.nx Y (A0 (A0 H2 a (xo m a C dx)) dx (.xd [(f,y)]))
section
variable {X:Cx} {o value:Expr} {ta tv:TE} {f:Str} {ap pos:Pos}
theorem Inv.xstore(I:Inv X pins Y H s)(e:H a=some (xm m a C))(hd:s.heap.objs.size<=dx)(ne:dx≠a)(hx:h'.get? a=some (R9 C t0 (some dx)))(hn:h'.Ns1 dx (fun z=>if z=f then some u else none))(k:∀ b o,b≠a->s.heap.get? b=some o->h'.get? b=some o)(ry:RelV y u) :
  Inv X pins Y (A0 (A0 H a (xo m a C dx)) dx (.xd [(f,y)])) { s with heap:=h',toks:=t' }:=by
 have hdn:H dx=none:=I.hok.fresh hd;have wJ:m<=a:=(I.hok _ _ e).1.1;have mu:fM (H a):=by rw [e];exact True.intro
 have aR:A0 H a (xo m a C dx) dx=none:=by rw [A3 ne];exact hdn
 have w1:Un X.fs [] H (A0 H a (xo m a C dx)) s.heap h':=Un.write mu (.inl rfl) k ⟨_,hx⟩;have old:∀ b o,s.heap.get? b=some o->b≠dx:=fun b o z q=>by rw [q] at z;exact absurd (Heap.lt_size z) (Nat.not_lt.mpr hd)
 refine I.un ⟨w1.keep,w1.slot,fun b o z n hb=>?_,w1.there,fun b xs z=>?_,fun b o v z=>?_,fun b ps z=>?_⟩ (uad (I.hok.write mu (.inl rfl) k ⟨_,hx⟩ (xo_ok wJ hx)) aR ⟨_,hn,fun g=>?_⟩)
 .rw [A3 (old b o z)];exact w1.free b o z n hb
 .rw [A3 (M6 (w1.tups b xs z) aR)];exact w1.tups b xs z
 .rw [A3 (M6 (w1.frzs b o v z) aR)];exact w1.frzs b o v z
 .obtain ⟨more,q⟩:=w1.tbls b ps z;exact ⟨more,by rw [A3 (M6 q aR)];exact q⟩
 .show RelO ([(f,y)].lookup g) (if g=f then some u else none)
  by_cases q:g=f
  .rw [if_pos q,q,List.lookup_cons_self];exact ry
  .rw [if_neg q,List.lookup_cons,show (g==f)=false from beq_eq_false_iff_ne.mpr q];exact True.intro
theorem an5(ha:PE X o ta)(hv:PE X value tv)(hs:swapsWith value (some (.Attribute o f ap)) pos.line X.env=pure false):PS X (.Assign [.Attribute o f ap] value pos) (sXFld X.K ta tv f):=by
 intro pins s Y H D I h;refine plainObj_wpAny_Assign_Attribute (A8 (hv pins s Y H _ I h) fun u s1 ⟨y,H1,I1,ry,q⟩=>A8 (ha pins s1 Y H1 _ I1 q) fun ov s2 ⟨x,H2,I2,rx,a,m,C,g,ex,he,M,n,q2⟩=>?_) hs;subst ex;obtain rfl:ov=Value.ref a:=rx;obtain ⟨cd,hc,hd,ho⟩:=M.cls;obtain ⟨_,t0,hx⟩:=(I2.hok _ _ he).1;obtain ⟨h2,gg,d,tk,os⟩:=s2;refine ajS PySem.F.store_ValueError I2.kIn hx hc hd ho M.sa n fun h' dx tk' n1 n2 iA hn keep=>?_
 have I3:=I2.xstore (t':=tk') he n1 n2 iA hn keep ry;exact ⟨Y,_,I3,q2 dx (I2.hok.fresh n1) n2⟩
end
end L2
set_option maxRecDepth 100000
namespace L2
open PySem PySem.Spec PyProof.Rows
noncomputable def U1 (H:Hp) (x:Addr):Hp:=fun b=>if b=x then none else H b
theorem aht{x:Addr} : U1 H x x=none:=by unfold U1;rw [if_pos rfl]
theorem Y3{x:Addr}(h:b≠x):U1 H x b=H b:=by unfold U1;rw [if_neg h]
theorem alI{x:Addr}{o:HO}(h:U1 H x b=some o):b≠x/\H b=some o:=by
 by_cases e:b=x
 .rw [e,aht] at h;cases h
 .rw [Y3 e] at h;exact ⟨e,h⟩
noncomputable def Y4 (P:Program) (w:World):V6:=fun outer H s E e s'=>∃ (x C dx T:Addr) (H':Hp),e=.ref x/\s'.os=s.os/\AllBare s'.gens/\Un (P8 outer) [] H H' s.heap s'.heap/\K1 P w H' s'.heap/\s.heap.objs.size<=x/\s.heap.objs.size<=T/\H' x=none/\H' T=none/\Flies s'.heap x C dx T/\E (.ref C) (some dx) H'
section
variable {P:Program} {w:World} {K:PySem.W.Frag} {mg:Str->Option Value} {base:Heap} {N:List Str} {qual:Str} {scope:Scope} {f:Addr} {cd:Value} {A:Around} {outer:List Env} {s s1:Shared} {H H1:Hp} {E:XK} {pins:List (Addr×Obj)} {Y:St} {x C dx:Addr}
theorem amq(I:Inv (cxOf (Y4 P w) P w K mg base N qual scope f cd A outer s H E) pins Y H1 s1)(e:H1 x=some (xo s.heap.objs.size x C dx))(hE:E (.ref C) (some dx) (U1 H1 x)) :
  (cxOf (Y4 P w) P w K mg base N qual scope f cd A outer s H E).xe (.ref x) s1:=by
 obtain ⟨hm,t0,hx⟩:=(I.hok _ _ e).1;have B:Un (P8 outer) [] H H1 s.heap s1.heap:=I.base;have old:∀ b o,s.heap.get? b=some o->b≠x:=fun b o z q=>by rw [q] at z;exact absurd (Heap.lt_size z) (Nat.not_lt.mpr hm)
 have P0:∀ b o,s.heap.get? b=some o->b∉P8 outer->b∉P8 ((envOfC qual scope s.heap.objs.size f cd)::outer):=fun b o z n q=>by
  have z1:b∈(envOfC qual scope s.heap.objs.size f cd).locals::P8 outer:=I.stkSub b q
  rcases D7.mp z1 with r | r
  .have:b<(envOfC qual scope s.heap.objs.size f cd).locals:=Q6 (Heap.lt_size z) I.ok.above
   rw [r] at this;exact absurd this (X6 _)
  .exact n r
 show wpAny _ _ (leaving _ _) _ _ _;unfold leaving;refine wpAny_bind (ajV (s:=s1) I.ok.frames I.stack (L:=s.heap.objs.size) rfl hx fun h' T nT fl k1 k2=>?_);have szl:s.heap.objs.size<=s1.heap.objs.size:=I.sz;refine ⟨x,C,dx,T,U1 H1 x,rfl,I.os,I.bare,⟨fun b o z n hb M5=>?_,fun b o z n hb M5=>?_,fun b o z n M5=>?_,fun b o z M5=>?_,fun b xs z=>?_,fun b o v z=>?_,fun b ps z=>?_⟩,fun b u q=>?_,hm,F6 szl nT,aht,?_,fl,hE⟩
 .exact k1 b o (old b o z) (P0 b o z hb) (B.keep b o z n hb M5)
 .obtain ⟨sl,q⟩:=B.slot b o z n hb M5;obtain ⟨sl',q'⟩:=k2 b _ (old b o z) q;exact ⟨sl',q'⟩
 .rw [Y3 (old b o z)];exact B.free b o z n M5
 .obtain ⟨o',q⟩:=B.there b o z M5;obtain ⟨sl',q'⟩:=k2 b o' (old b o z) q;exact ⟨_,q'⟩
 .have q:=B.tups b xs z;rw [Y3 (fun r=>by rw [r,e] at q;cases q)];exact q
 .have q:=B.frzs b o v z;rw [Y3 (fun r=>by rw [r,e] at q;cases q)];exact q
 .obtain ⟨more,q⟩:=B.tbls b ps z;exact ⟨more,by rw [Y3 (fun r=>by rw [r,e] at q;cases q)];exact q⟩
 .obtain ⟨n1,q1⟩:=alI q;refine (I.hok b u q1).stay (fun c v hc z=>?_) (fun c z=>by rw [Y3 (fun r=>by rw [r,e] at z;cases z)];exact z) fun c xs z=>by rw [Y3 (fun r=>by rw [r,e] at z;cases z)];exact z
  have hcH:∃ o,H1 c=some o:=by
   rcases hc with r | r
   .rw [r];exact ⟨_,q1⟩
   .exact ⟨_,r⟩
  obtain ⟨oc,hcH⟩:=hcH;refine k1 c v (fun r=>?_) (fun r=>?_) z
  .rcases hc with r' | r'
   .exact n1 (r'.symm.trans r)
   .rw [r,e] at r';cases r'
  .have:=I.stkFree c r
   rw [hcH] at this;cases this
 .rw [Y3 (fun r=>by
   have C1:=Heap.lt_size hx;rw [<- r] at C1;exact absurd C1 (Nat.not_lt.mpr nT))]
  exact I.hok.fresh nT
end
noncomputable def tK (K:PySem.W.Frag) (m:Nat) (E:XK) (te:TE):TS:=fun _ Y H=>te Y H fun v H1=>∃ x C dx f,v=.ref x/\H1 x=some (xo m x C dx)/\ErrC K C f/\E (.ref C) (some dx) (U1 H1 x)
section
variable {X:Cx} {m:Nat} {E:XK} {e:Expr} {te:TE} {pos:Pos}
theorem alJ(hx:∀ (pins:List (Addr×Obj)) (Y:St) (H:Hp) (s:Shared) (x C dx:Addr),Inv X pins Y H s->H x=some (xo m x C dx)->E (.ref C) (some dx) (U1 H x)->X.xe (.ref x) s)(hc:X.calm=true)(he:PE X e te):PS X (.Raise (some e) none pos) (tK X.K m E te):=by
 intro pins s Y H D I h;rw [arm_exec_Raise];refine wpAny_bind (wpAny_standAt (ajR (I.ok.hd hc) (wpAny_bind (A8 (he pins s Y H _ I h) fun u s1 z=>wpAny_bind (wpAny_standAt (wpAny_pure ?_))))));obtain ⟨v,H1,I1,rv,x,C,dx,f,ev,ex,M,hE⟩:=z;subst ev;obtain rfl:u=Value.ref x:=rv;obtain ⟨nm,q,N,bs,bm,sn,sub,ab,col,dd,k0,k1,k2,k3,k5,l,cI,ho,hok,hi⟩:=M.ex;obtain ⟨_,t0,iA⟩:=(I1.hok _ _ ex).1;exact ⟨x,C,t0,N,some dx,nm,q,bs,bm,true,sn,sub,ab,col,dd,k0,k1,k2,k3,k5,_,rfl,I1.kIn _ _ l,(PySem.W.tail_of_in I1.kIn cI).hasType (by decide),iA,hx pins Y H1 s1 x C dx I1 ex hE⟩
end
section
variable {P:Program} {w:World} {K:PySem.W.Frag} {mg:Str->Option Value} {base:Heap}
theorem FunD.okX{x:Str}(F:FunD K x qual st f fd)(S:FnScope N ps (C3 st))(len:∀ vs H Q E,sp vs H Q E->vs.length=ps.length)(T3:∀ (cdv:Value) (A:Around) (outer:List Env) (s:Shared) (H:Hp) (vs:List V) (Q:VK) (E:XK),Room k (A.deeper (envOfC qual (C3 st) s.heap.objs.size f cdv))->sp vs H Q E->
   ∃ t,U0 (cxOf (Y4 P w) P w K mg base N qual (C3 st) f cdv A outer s H E) (O5 st) t/\t { nx:=fun _ H'=>Q .non H',rt:=Q } (start N vs) H):FnOk P w K mg base (Y4 P w) (k+1) f fd ps sp:=by
 obtain ⟨oc,od,dV,kV,doc,pm,an,cdv,ct,osl,rfl,lk,U2⟩:=F.ex;exact fn_of lk U2 S len fun A outer s H vs Q E hr U3=>T3 cdv A outer s H vs Q E hr U3
end
section
variable {P:Program} {w:World} {K:PySem.W.Frag} {mg:Str->Option Value} {base:Heap} {N:List Str} {qual:Str} {scope:Scope} {f:Addr} {cd:Value} {A:Around} {outer:List Env} {s s1:Shared} {H H1:Hp} {E:XK} {pins:List (Addr×Obj)} {Y:St}
theorem ajY:bM (Y4 P w) (cxOf (Y4 P w) P w K mg base N qual scope f cd A outer s H E) E:=by
 intro pins Y H1 s1 e s' I ⟨x,C,dx,T,H',ee,os',bare',un,hok,nx,nT,hx,hT,fl,hE⟩;subst ee;have I':=I.call' (ch:=[]) os' un hok bare' (fun b z=>absurd z (by simp));have B:Un (P8 outer) [] H H' s.heap s'.heap:=I'.base;have szl:s.heap.objs.size<=s1.heap.objs.size:=I.sz;have old:∀ (y:Addr),s1.heap.objs.size<=y->∀ b o,s.heap.get? b=some o->b≠y:=fun y hy b o z q=>by rw [q] at z;exact absurd (Heap.lt_size z) (Nat.not_lt.mpr (F6 szl hy))
 have P0:∀ b o,s.heap.get? b=some o->b∉P8 outer->b∉P8 ((envOfC qual scope s.heap.objs.size f cd)::outer):=fun b o z n q=>by
  have z1:b∈(envOfC qual scope s.heap.objs.size f cd).locals::P8 outer:=I.stkSub b q
  rcases D7.mp z1 with r | r
  .have:b<(envOfC qual scope s.heap.objs.size f cd).locals:=Q6 (Heap.lt_size z) I.ok.above
   rw [r] at this;exact absurd this (X6 _)
  .exact n r
 show wpAny _ _ (leaving _ _) _ _ _;unfold leaving;refine wpAny_bind (af7 (s:=s') I'.ok.frames I'.stack (L:=s.heap.objs.size) rfl fl fun h' T' nT' fl' k1 k2=>?_);refine ⟨x,C,dx,T',H',rfl,I'.os,I'.bare,⟨fun b o z n hb M5=>?_,fun b o z n hb M5=>?_,fun b o z n M5=>B.free b o z n M5,fun b o z M5=>?_,B.tups,B.frzs,B.tbls⟩,fun b u q=>?_,F6 szl nx,?_,hx,I'.hok.fresh nT',fl',hE⟩
 .exact k1 b o (old x nx b o z) (old T nT b o z) (P0 b o z hb) (B.keep b o z n hb M5)
 .obtain ⟨sl,q⟩:=B.slot b o z n hb M5;obtain ⟨sl',q'⟩:=k2 b _ (old x nx b o z) (old T nT b o z) q;exact ⟨sl',q'⟩
 .obtain ⟨o',q⟩:=B.there b o z M5;obtain ⟨sl',q'⟩:=k2 b o' (old x nx b o z) (old T nT b o z) q;exact ⟨_,q'⟩
 .refine (I'.hok b u q).stay (fun c v hc z=>?_) (fun c z=>z) fun c xs z=>z
  have hcH:∃ o,H' c=some o:=by
   rcases hc with r | r
   .rw [r];exact ⟨_,q⟩
   .exact ⟨_,r⟩
  obtain ⟨oc,hcH⟩:=hcH;refine k1 c v (fun r=>?_) (fun r=>?_) (fun r=>?_) z
  .rw [r,hx] at hcH;cases hcH
  .rw [r,hT] at hcH;cases hcH
  .have:=I'.stkFree c r
   rw [hcH] at this;cases this
 .exact F6 I'.sz nT'
end
end L2
set_option maxRecDepth 100000
namespace L2
open PySem PySem.Spec PyProof.Rows
noncomputable abbrev Cx.inExc (X:Cx) (x:Addr) (xe:Value->Shared->Prop):Cx:={ X with A:=X.A.mark (some (.ref x)),calm:=false,xe:=xe }
section
variable {X:Cx} {pins:List (Addr×Obj)} {Y:St} {H:Hp} {s:Shared}
theorem Inv.inExc(I:Inv X pins Y H s)(x:Addr)(xe:Value->Shared->Prop):Inv (X.inExc x xe) pins Y H s:=
 ⟨⟨I.ok.mod,I.ok.kind,I.ok.glob,I.ok.blt,I.ok.above,I.ok.inj,I.ok.has,I.ok.cab,(fun z=>by cases z),I.ok.frames,I.ok.stk,I.ok.exf,I.ok.bs,I.ok.bsz,I.ok.noex,I.ok.exfs,I.ok.funs,I.ok.frf⟩,I.os,I.bare,I.base,I.loc,I.cell,I.free,I.freeC,I.pin,I.hok,I.len⟩
theorem Inv.outExc{x:Addr}{xe:Value->Shared->Prop}(hd:X.calm=true->X.A.handled=none)(I:Inv (X.inExc x xe) pins Y H s):Inv X pins Y H s:=
 ⟨⟨I.ok.mod,I.ok.kind,I.ok.glob,I.ok.blt,I.ok.above,I.ok.inj,I.ok.has,I.ok.cab,hd,I.ok.frames,I.ok.stk,I.ok.exf,I.ok.bs,I.ok.bsz,I.ok.noex,I.ok.exfs,I.ok.funs,I.ok.frf⟩,I.os,I.bare,I.base,I.loc,I.cell,I.free,I.freeC,I.pin,I.hok,I.len⟩
theorem Inv.beyond{s':Shared}(I:Inv X pins Y H s)(h:s.heap.objs.size<=b):(b∈X.ex\/X.s₀.heap.objs.size<=b)/\b≠X.env.locals/\(∀ x c,X.env.cells.lookup x=some c->c≠b)/\∀ p∈X.pn++pins,p.1≠b:=by
 refine ⟨.inr (F6 I.sz h),fun e=>?_,fun x c z e=>?_,fun p hp e=>?_⟩
 .have:=I.lt
  rw [<- e] at this;exact absurd this (Nat.not_lt.mpr h)
 .obtain ⟨v,o,ho,_⟩:=I.cell x c z
  have:=Heap.lt_size ho
  rw [e] at this;exact absurd this (Nat.not_lt.mpr h)
 .have:=Heap.lt_size (I.pin p hp).1
  rw [e] at this;exact absurd this (Nat.not_lt.mpr h)
theorem ajZ{M:Model}{n:Str}{pos:Pos}{Q:Unit->Shared->Prop}(I:Inv X pins Y H s)(hN:X.N.Nodup)(hi:X.N[i]?=some n)(hk:X.env.kindOf n=some .local)(h:∀ s',Inv X pins (Y.set i none) H s'->Q () s'):wpAny M A (do bindName X.env n .none;unbindBehindTheSuite X.env n pos) Q E s:=by
 obtain ⟨m,hn,hl⟩:=I.loc;have dQ:(X.env.scope.kind == .class || (X.env.scope.kind == .module&&X.env.locals != X.env.globals))=false:=by rw [I.ok.kind];rfl
 refine wpAny_nameGoes_keeps hk hn dQ fun h' v gU hs=>h _ ?_
 have cne:=I.cne;have k:∀ b o,b≠X.env.locals->s.heap.get? b=some o->h'.get? b=some o:=fun b o hb z=>(hs.2 b hb).trans z
 have neL:∀ b o,X.s₀.heap.get? b=some o->b≠X.env.locals:=fun b o e=>K4 (Q6 (Heap.lt_size e) I.ok.above)
 have B:=I.base;refine ⟨I.ok,I.os,I.bare,⟨fun b o z n hb hx=>k b o (neL b o z) (B.keep b o z n hb hx),fun b o z n hb hx=>?_,B.free,fun b o z hx=>?_,B.tups,B.frzs,B.tbls⟩,⟨_,gU,fun j y u h1 h2 h3=>?_⟩,fun y c z=>?_,I.free,I.freeC,fun p hp=>?_,fun b u e=>?_,?_⟩
 .obtain ⟨sl,q⟩:=B.slot b o z n hb hx;exact ⟨sl,k b _ (neL b o z) q⟩
 .obtain ⟨o',q⟩:=B.there b o z hx;exact ⟨o',k b o' (neL b o z) q⟩
 .have pJ:i≠j:=fun e=>by
   subst e;rw [List.getElem?_set_self (by rw [I.len];exact (J4.mp hi).1)] at h2;cases h2
  rw [List.getElem?_set_ne pJ] at h2;obtain ⟨u',r,lk⟩:=hl j y u h1 h2 h3;have hyn:y≠n:=fun e=>pJ (qJ hN (by rw [hi,<- e]) h1)
  refine ⟨u',r,?_⟩
  rcases lk with ⟨a,b⟩ | ⟨a,c,b,d⟩
  .exact .inl ⟨a,by show (if y=n then v else m y)=_;rw [if_neg hyn];exact b⟩
  .obtain ⟨o,ho,hd⟩:=d;exact .inr ⟨a,c,b,o,k c o (cne y c b) ho,hd⟩
 .obtain ⟨v',o,ho,hd⟩:=I.cell y c z;exact ⟨v',o,k c o (cne y c z) ho,hd⟩
 .obtain ⟨a,b,c,d,e⟩:=I.pin p hp;exact ⟨k _ _ c a,b,c,d,e⟩
 .refine (I.hok b u e).stay (fun c v' hc z=>k c v' (fun r=>?_) z) (fun _ z=>z) fun _ _ z=>z
  have:=I.free
  rcases hc with r' | r'
  .rw [<- r,r',e] at this;cases this
  .rw [<- r,r'] at this;cases this
 .rw [List.length_set];exact I.len
end
end L2
set_option maxRecDepth 100000
namespace L2
open PySem PySem.Spec PyProof.Rows
section
variable {X:Cx} {pins:List (Addr×Obj)} {Y:St} {H:Hp} {s s':Shared} {E:XK} {e:Value} {Dn n:Str} {dp hp:Pos} {i:Nat} {yz:Stmt} {suite:List Stmt} {ts:TS} {D:Ends} {DC:Addr} {cd:ClassData}
theorem Inv.held{x T2:Addr}(I1:Inv X pins Y H' s')(hbx:(x∈X.ex\/X.s₀.heap.objs.size<=x)/\x≠X.env.locals/\(∀ y c,X.env.cells.lookup y=some c->c≠x)/\∀ p∈X.pn++pins,p.1≠x)(hbT:(T∈X.ex\/X.s₀.heap.objs.size<=T)/\T≠X.env.locals/\(∀ y c,X.env.cells.lookup y=some c->c≠T)/\∀ p∈X.pn++pins,p.1≠T)(hx:H' x=none)(hT:H' T=none)(lC:Flies h2 x C dx T2)(k1:∀ b o,b≠x->b≠T->b∉X.stack.filterMap (·.frame)->s'.heap.get? b=some o->h2.get? b=some o)(k2:∀ b o,b≠x->b≠T->s'.heap.get? b=some o->∃ sl,h2.get? b=some { o with slots:=sl }) :
  Inv X pins Y (A0 H' x (xc x C dx)) { s' with heap:=h2 }:=by
 obtain ⟨vs,oT,tsl,he,h1,hTx,hT2,hTd,h3⟩:=lC;have fr:∀ b,b≠X.env.locals->b∉X.fs->b∉X.stack.filterMap (·.frame):=fun b hL hf q=>by
  rcases D7.mp (I1.stkSub b q) with r | r
  .exact hL r
  .exact hf r
 refine I1.step (g':=s'.gens) (d':=s'.drawn) (t':=s'.toks) (ch:=[x,T]) (fun b hb=>?_) (fun b o hL hf hc z _=>k1 b o (fun r=>hc (by simp [r])) (fun r=>hc (by simp [r])) (fr b hL hf) z) (fun b o hL hf hc z _=>k2 b o (fun r=>hc (by simp [r])) (fun r=>hc (by simp [r])) z) (fun b o hc z n=>?_) (fun b o hc z=>?_) (fun b xs z=>?_) (fun b o u z=>?_) (fun b ps z=>?_) (fun m hm=>?_) (uad (fun b u q=>?_) hx (xc_ok he rfl rfl rfl)) I1.bare
 .rcases D7.mp hb with r | r
  .rw [r];exact hbx
  .rw [K7.mp r];exact hbT
 .rw [A3 (fun r=>hc (by simp [r]))];exact n
 .obtain ⟨sl,q⟩:=k2 b o (fun r=>hc (by simp [r])) (fun r=>hc (by simp [r])) z;exact ⟨_,q⟩
 .rw [A3 (M6 z hx)];exact z
 .rw [A3 (M6 z hx)];exact z
 .exact ⟨#[],by rw [A3 (M6 z hx),z];simp⟩
 .obtain ⟨o,es,ep,ho,r⟩:=hm;obtain ⟨sl,q⟩:=k2 _ o (Ne.symm hbx.2.1) (Ne.symm hbT.2.1) ho;exact ⟨_,es,ep,q,r⟩
 .refine (I1.hok b u q).stay (fun c v hc z=>?_) (fun c z=>z) fun c xs z=>z
  have hcH:∃ o,H' c=some o:=by
   rcases hc with r | r
   .rw [r];exact ⟨_,q⟩
   .exact ⟨_,r⟩
  obtain ⟨oc,hcH⟩:=hcH;refine k1 c v (M6 hcH hx) (M6 hcH hT) (fun r=>?_) z
  have:=I1.stkFree c r
  rw [hcH] at this;cases this
theorem Inv.other(I:Inv X pins Y H s)(hb:(T∈X.ex\/X.s₀.heap.objs.size<=T)/\T≠X.env.locals/\(∀ y c,X.env.cells.lookup y=some c->c≠T)/\∀ p∈X.pn++pins,p.1≠T)(hT:H T=none)(k:∀ b o,b≠T->s.heap.get? b=some o->h2.get? b=some o):Inv X pins Y H { s with heap:=h2 }:=
 I.turned (t':=s.toks) k hT hb.2.1 hb.1 hb.2.2.1 hb.2.2.2
end
end L2
set_option maxRecDepth 100000
namespace L2
open PySem PySem.Spec PyProof.Rows
section
variable {X:Cx} {pins:List (Addr×Obj)} {Y:St} {H:Hp} {s:Shared} {E:XK} {k:Nat} {f:Addr} {fd:FuncData} {ps:List Str} {sp:Sp} {g:Str} {gp cp:Pos} {e:Expr} {es:List Expr} {t:TA} {Q:VK} {XE:Value->Shared->Prop} {dvs:List V} {ds:List Value}
end
noncomputable def bW (K:PySem.W.Frag) (DC:Addr) (i:Nat) (ts:TS) (D:Ends) (Y:St):XK:=fun cls dx H'=>∃ C d,cls=.ref C/\dx=some d/\N0 K C (.ref DC)=some true/\∀ x,H' x=none->ts { nx:=fun σ' H''=>D.nx (σ'.set i none) H'',rt:=fun _ _=>False } (Y.set i (some (.ref x))) (A0 H' x (xc x C d))
noncomputable def tTryE (K:PySem.W.Frag) (sp:Sp) (dvs:List V) (t:TA) (DC:Addr) (i:Nat) (ts:TS):TS:=fun D Y H=>t Y H fun vs H1=>sp (vs++dvs) H1 (fun _ H2=>D.nx Y H2) (bW K DC i ts D Y)
noncomputable def tTryA (K:PySem.W.Frag) (sp:Sp) (dvs:List V) (t:TA) (j:Nat) (DC:Addr) (i:Nat) (ts:TS):TS:=fun D Y H=>t Y H fun vs H1=>sp (vs++dvs) H1 (fun v H2=>D.nx (Y.set j (some v)) H2) (bW K DC i ts D Y)
structure CatchC(K:PySem.W.Frag)(DC:Addr):Prop where
 cl:∃ cd,fI K DC=some cd
 ty:PySem.W.typeIn K (.ref DC)=some (.type "type")
 bx:N0 K DC (.type "BaseException")=some true
section
variable {X:Cx} {k:Nat} {f DC:Addr} {fd:FuncData} {ps:List Str} {sp:Sp} {g Dn n y:Str} {gp cp ep dp hp pos yp:Pos} {e:Expr} {es:List Expr} {t:TA} {i j:Nat} {yz:Stmt} {suite:List Stmt} {ts:TS} {dvs:List V} {ds:List Value}
end
noncomputable def tXGet (K:PySem.W.Frag) (ta:TE) (f:Str):TE:=fun Y H Q=>ta Y H fun x H1=>∃ a C dx g fs v,x=.ref a/\H1 a=some (xc a C dx)/\H1 dx=some (.xd fs)/\ErrC K C g/\NoAttr K C f/\fs.lookup f=some v/\Q v H1
noncomputable def clsV:V->Option Value
 | .ref a=>some (.ref a)
 | .ty t=>some (.type t)
 | _=>none
noncomputable def rIsX (K:PySem.W.Frag):List V->Hp->VK->Prop:=fun xs H Q=>∃ a C dx g fs c cv b,xs=[.ref a,c]/\H a=some (xc a C dx)/\H dx=some (.xd fs)/\ErrC K C g/\clsV c=some cv/\D8 K (.ref C) cv=some b/\Q (.bl b) H
section
variable {X:Cx} {e:Expr} {te:TE} {f:Str} {pos:Pos}
theorem tL{fs:List (Str×V)}(I:Inv X pins Y H s)(h1:H a=some (xc a C dx))(h2:H dx=some (.xd fs)) :
  ∃ (ox od:Obj) (mA:Str->Option Value),PySem.W.InstAt s.heap a ox C (some od)/\(∀ name,PySem.W.lookIn name od=some (mA name))/\∀ g,RelO (fs.lookup g) (mA g):=by
 obtain ⟨o,ho,hc,hd,hn⟩:=(I.hok _ _ h1).1;obtain ⟨mA,ns,rel⟩:=I.hok _ _ h2;obtain ⟨od,hU,hl⟩:=yM ns;refine ⟨o,od,mA,⟨ho,hc,hn,?_⟩,hl,rel⟩;rw [hd];exact hU
theorem an6(he:PE X e te)(hb:attributeBase e f X.env (eval e X.env)=eval e X.env):PE X (.Attribute e f pos) (tXGet X.K te f):=by
 intro pins s Y H Q I h;refine yR hb (A8 (he pins s Y H _ I h) fun u s1 z=>?_);obtain ⟨x,H1,I1,rx,a,C,dx,g,fs,v,ex,h1,h2,M,n,l,q⟩:=z;subst ex;obtain rfl:u=Value.ref a:=rx;obtain ⟨ox,od,mA,J,hl,rel⟩:=tL I1 h1 h2;obtain ⟨u,hu,ru⟩:=iX (v:=v) (o:=mA f) (by rw [<- l];exact rel f);obtain ⟨cd,hc,hd,_⟩:=M.cls;obtain ⟨hh,g',d,tk,os⟩:=s1;refine an2 I1.kIn J M.ga M.gt M.bx (PySem.W.findObj_own (by unfold bF;rw [hc];exact hd) n rfl (by rw [hl,hu])) (yN ru) ?_;exact ⟨v,H1,I1.tok _,ru,q⟩
theorem alK(hn:x5 X.K (.builtin "object.__class__") "__get__"=some (some (.builtin "getset_descriptor.__get__")))(ht:cV X.K (.builtin "object.__class__")=some true):CallR X (.builtin "isinstance") (rIsX X.K):=by
 intro pins s Y H xs us Q I r h;obtain ⟨a,C,dx,g,fs,c,cv,b,rfl,h1,h2,M,lD,hk,q⟩:=h;obtain ⟨u1,u2,rfl,r1,r2⟩:=vals2 r
 cases r1
 have e2:u2=cv:=by
  cases c with
  | ref D=>cases lD;exact r2
  | ty t=>cases lD;exact r2
  | _=>cases lD
 subst e2;obtain ⟨ox,od,mA,J,hl,rel⟩:=tL I h1 h2;obtain ⟨cd,hc,hd,_⟩:=M.cls;exact c9 (ahr (ox:=ox) (od:=od) (by unfold bF;rw [hc];exact hd) M.ga M.gt M.bx M.cl hn ht M.ob) I.kIn J hk (by intro z;cases z) fun tk=>⟨.bl b,H,I.tok _,rfl,q⟩
end
end L2
set_option maxRecDepth 100000
namespace L2
open PySem PySem.Spec PyProof.Rows
noncomputable def EO (P:Program) (w:World) (K:PySem.W.Frag) (mg:Str->Option Value) (base:Heap) (k:Nat) (C:Addr) (x:Str) (ps:List Str) (sp:Sp):Prop:=
 ∃ f fd,FnOk P w K mg base D9 k f fd ps sp/\mg x=some (.ref C)/\ErrC K C f/\Binds K fd ps []
section
variable {X:Cx} {K:PySem.W.Frag} {k:Nat} {C:Addr} {ps:List Str} {sp:Sp} {x:Str} {p pos np ap cp ep dp hp yp gp:Pos} {e a b:Expr} {es:List Expr} {t:TA} {te ta tb tv:TE} {m:Nat} {E:XK}
theorem amr(G:EO X.prog X.w X.K X.mg X.base k C x ps sp)(hr:Room (k+1) X.A)(ha:QA X (e::es) t)(hg:Gl X x:=by rfl)(hm:X.s₀.heap.objs.size=m:=by rfl)(K2:(x==("__debug__" : Str))=false:=by decide)(he:starEach (e::es) X.env=(false,eval e X.env)::starEach es X.env:=by rfl)(Q8:(backTo pos (starEach es X.env)).any (·.1)=false:=by rfl):QE X (.Call (.Name x p) (e::es) [] pos) (tErr m C sp t):=by
 subst hm;obtain ⟨f,fd,F,dW,M,hb⟩:=G;exact ⟨aqV M F hr hg dW hb ha.out K2 he Q8⟩
theorem aj1{L:Addr}{pl:Sem Bool}(N:LoreC X.K L)(hm:X.mg x=some (.ref L))(ha:QE X a ta)(hb:QE X b tb)(hK:X.K=K:=by rfl)(hg:Gl X x:=by rfl)(K2:(x==("__debug__" : Str))=false:=by decide)(wI:backTo cp (starEach [a,b] X.env)=[(false,eval a X.env),(false,eval b X.env)]:=by rfl)(ht:eval (.Call (.Attribute (.Name x np) "__init__" ap) [a,b] [] cp) X.env=(do
   let ov <- eval (.Name x np) X.env
   standAt ap.atName
   let (f,first) <- holding [ov] (getMethod ov "__init__" pl)
   callWith cp f first (backTo cp (starEach [a,b] X.env)) (backToKw cp (keywordEach [] X.env))):=by rfl):QE X (.Call (.Attribute (.Name x np) "__init__" ap) [a,b] [] cp) (tInit K ta tb):=by
 subst hK;exact ⟨an4 N hg hm ha.out hb.out K2 wI ht⟩
theorem aeU{t2:TE}(h1:QE X a t1)(h2:QE X b t2):QE X (.JoinedStr [a,b] pos) (dH [t1,t2]):=⟨ajW (.cons h1.out (.cons h2.out .nil)) (by decide)⟩
theorem aj2{f:Str}(ha:QE X a ta)(hv:QE X b tv)(hK:X.K=K:=by rfl)(hs:swapsWith b (some (.Attribute a f ap)) pos.line X.env=pure false:=by rfl):QS X (.Assign [.Attribute a f ap] b pos) (sXFld K ta tv f):=by
 subst hK;exact ⟨an5 ha.out hv.out hs⟩
theorem ahu(hx:∀ (pins:List (Addr×Obj)) (Y:St) (H:Hp) (s:Shared) (x C dx:Addr),Inv X pins Y H s->H x=some (xo m x C dx)->E (.ref C) (some dx) (U1 H x)->X.xe (.ref x) s)(he:QE X e te)(hK:X.K=K:=by rfl)(hc:X.calm=true:=by rfl):QS X (.Raise (some e) none pos) (tK K m E te):=by
 subst hK;exact ⟨alJ hx hc he.out⟩
theorem aj3{f:Str}(he:QE X e te)(hK:X.K=K:=by rfl)(hb:attributeBase e f X.env (eval e X.env)=eval e X.env:=by rfl):QE X (.Attribute e f pos) (tXGet K te f):=by
 subst hK;exact ⟨an6 he.out hb⟩
theorem q_isX(hn:x5 X.K (.builtin "object.__class__") "__get__"=some (some (.builtin "getset_descriptor.__get__")))(ht:cV X.K (.builtin "object.__class__")=some true)(hK:X.K=K:=by rfl):QCall X (.builtin "isinstance") (rIsX K):=by
 subst hK;exact ⟨alK hn ht⟩
variable {DC:Addr} {Dn n y:Str} {i j:Nat} {yz:Stmt} {suite:List Stmt} {ts:TS} {dvs:List V} {N:List Str} {S:Scope}
end
section
variable {Y:St} {H:Hp} {Q:VK} {D:Ends} {m:Nat} {C DC:Addr} {sp:Sp} {t:TA} {te ta tb tv:TE} {K:PySem.W.Frag} {E:XK} {f:Str} {i j:Nat} {ts:TS} {dvs:List V} {tl:List TE}
theorem aqW:tErr m C sp t Y H Q=t Y H fun vs H1=>vs.length<=1000/\∀ x,H1 x=none->sp (.ref x::vs) (A0 H1 x (xm m x C)) (fun v H2=>v=.non/\Q (.ref x) H2) E0:=rfl
theorem alL:tK K m E te D Y H=te Y H fun v H1=>∃ x C dx f,v=.ref x/\H1 x=some (xo m x C dx)/\ErrC K C f/\E (.ref C) (some dx) (U1 H1 x):=rfl
theorem an7:tInit K ta tb Y H Q=ta Y H fun x H1=>tb Y H1 fun _ H2=>∃ a m C f,x=.ref a/\H2 a=some (xm m a C)/\ErrC K C f/\Q .non H2:=rfl
theorem an8:tFmtI te Y H Q=te Y H fun v H1=>∃ i:Int,v=.int i/\i.natAbs<10 ^ 9/\∀ z:Str,z.length<=100->Q (.str z) H1:=rfl
theorem aj4:dH [] Y H Q=∀ z:Str,Q (.str z) H:=rfl
theorem alM:dH (te::tl) Y H Q=te Y H fun v H1=>∃ y:Str,v=.str y/\y.length<=100000/\dH tl Y H1 Q:=rfl
theorem an9:sXFld K ta tv f D Y H=tv Y H fun y H1=>ta Y H1 fun x H2=>∃ a m C g,x=.ref a/\H2 a=some (xm m a C)/\ErrC K C g/\NoAttr K C f/\∀ dx,H2 dx=none->dx≠a->D.nx Y (A0 (A0 H2 a (xo m a C dx)) dx (.xd [(f,y)])):=rfl
theorem aoa:tXGet K ta f Y H Q=ta Y H fun x H1=>∃ a C dx g fs v,x=.ref a/\H1 a=some (xc a C dx)/\H1 dx=some (.xd fs)/\ErrC K C g/\NoAttr K C f/\fs.lookup f=some v/\Q v H1:=rfl
theorem aob:tTryE K sp dvs t DC i ts D Y H=t Y H fun vs H1=>sp (vs++dvs) H1 (fun _ H2=>D.nx Y H2) (bW K DC i ts D Y):=rfl
theorem aoc:tTryA K sp dvs t j DC i ts D Y H=t Y H fun vs H1=>sp (vs++dvs) H1 (fun v H2=>D.nx (Y.set j (some v)) H2) (bW K DC i ts D Y):=rfl
end
theorem afj:bootBuiltins "ValueError"=some (.type "ValueError"):=by decide +kernel
theorem nsOk_of{N:Addr}{c:Value}{d:Option Addr}{es:Array DictEntry}{sl:Array (Option Value)}(h:K.lookup N=some ⟨c,d,.dict es n,sl⟩)(ha:(es.toList.all fun e=>match e.key with | .str _ _=>true | _=>false)=true):fH K N=true:=by
 unfold fH;rw [h];show (es.all _)=true;rw [<- Array.all_toList];exact ha
theorem tail_one{A:Addr}{c:Value}{d:Option Addr}{cd:ClassData}{sl:Array (Option Value)}(h:K.lookup A=some ⟨c,d,.cls cd,sl⟩)(h1:fH K cd.ns=true)(h2:E2 K cd.ns "__init__"=some none):cW K bmB (.ref A::bmB)=true:=by
 unfold cW
 dsimp only
 rw [h];have h3:cW K bmB bmB=true:=by
  cases bmB with
  | nil=>rfl
  | cons v r=>
   unfold cW;rw [beq_self_eq_true];rfl
 simp only [h1,h2,h3,beq_self_eq_true,Bool.and_self,Bool.or_true]
end L2
set_option maxRecDepth 100000
namespace L2
open PySem PySem.Spec PyProof.Rows
open PySem.Builtin PySem.Builtin.Str PySem.StrLaws
end L2
set_option maxRecDepth 100000
namespace L2
open PySem PySem.Spec PyProof.Rows
open PySem.Builtin PySem.Builtin.Str PySem.StrLaws
theorem tM{t:Value} : ∀ {cs:List Value},(∀ c∈cs,D8 K t c=some false)->PySem.W.kitAny K t cs=some false
 | [],_=>rfl
 | c::r,h=>by
  unfold PySem.W.kitAny;rw [h c G9];exact tM fun d hd=>h d (G5 _ hd)
noncomputable def clsA:List V->Option (List Value)
 | []=>some []
 | c::r=>(clsV c).bind fun v=>(clsA r).map (v :: ·)
theorem ahv:∀ {cs:List V} {us vs:List Value},Vals cs us->clsA cs=some vs->us=vs
 | [],_,_,.nil,h=>by cases h;rfl
 | c::r,_,vs,.cons (b:=u) r1 r2,h=>by
  unfold clsA at h;cases e:clsV c with
  | none=>rw [e] at h;cases h
  | some v=>
   rw [e] at h;cases e2:clsA r with
   | none=>rw [e2] at h;cases h
   | some ws=>
    rw [e2] at h;cases h;rw [ahv r2 e2]
    have:u=v:=by
     cases c with
     | ref D=>cases e;exact r1
     | ty t=>cases e;exact r1
     | _=>cases e
    rw [this]
noncomputable def rIsXT (K:PySem.W.Frag):List V->Hp->VK->Prop:=fun xs H Q=>∃ a C dx g fs t cs cvs b,xs=[.ref a,.ref t]/\H a=some (xc a C dx)/\H dx=some (.xd fs)/\ErrC K C g/\C8 K H t cs/\clsA cs=some cvs/\PySem.W.kitAny K (.ref C) cvs=some b/\Q (.bl b) H
theorem aj5(hn:x5 X.K (.builtin "object.__class__") "__get__"=some (some (.builtin "getset_descriptor.__get__")))(ht:cV X.K (.builtin "object.__class__")=some true):CallR X (.builtin "isinstance") (rIsXT X.K):=by
 intro pins s Y H xs us Q I r h;obtain ⟨a,C,dx,g,fs,t,cs,cvs,b,rfl,h1,h2,M,h3,lD,hk,q⟩:=h;obtain ⟨u1,u2,rfl,r1,r2⟩:=vals2 r
 cases r1
 cases r2
 obtain ⟨its,rv,⟨o,e,ec,n,ed⟩,_⟩:=I.tuple h3;have aO:=ahv rv lD;subst aO;obtain ⟨ox,od,mA,J,hl,rel⟩:=tL I h1 h2;obtain ⟨cd,hc,hd,_⟩:=M.cls;refine PySem.W.kia_tup (dd:=o.dict) (n:=n) (sl:=o.slots) (ahr (ox:=ox) (od:=od) (by unfold bF;rw [hc];exact hd) M.ga M.gt M.bx M.cl hn ht M.ob) I.kIn J ?_ hk (by intro z;cases z) fun tk=>⟨.bl b,H,I.tok _,rfl,q⟩
 rw [e];obtain ⟨oc,odt,oda,osl⟩:=o;cases ec;cases ed;rfl
theorem aqX(hn:x5 X.K (.builtin "object.__class__") "__get__"=some (some (.builtin "getset_descriptor.__get__")))(ht:cV X.K (.builtin "object.__class__")=some true)(hK:X.K=K:=by rfl):QCall X (.builtin "isinstance") (rIsXT K):=by
 subst hK;exact ⟨aj5 hn ht⟩
noncomputable def aqY:V->List V->Hp->VK->Prop:=fun x vs H Q=>∃ z:Str,x=.str z/\vs=[]/\tooLong (Txt.upper z).length=false/\Q (.str (Txt.upper z)) H
theorem aod : QMt X "str.upper" aqY:=⟨by
 intro pins s Y H x vs v us Q I rx rv h;obtain ⟨z,rfl,rfl,h1,q⟩:=h;obtain ⟨t,rfl⟩:=rx
 cases rv
 exact call_gives F.slot_str_upper (typeIs_str _ _ _) F.entry_str_upper (F.args_str_upper_1 _) (gives_str_upper z t h1) ⟨fit_le h1,⟨.str _,H,I.tok _,⟨_,rfl⟩,q⟩⟩⟩
end L2
set_option maxRecDepth 100000
namespace L2
open PySem PySem.Spec PyProof.Rows
open PySem.Builtin PySem.Builtin.Str PySem.StrLaws
noncomputable def tFmtR (te:TE):TE:=fun Y H Q=>te Y H fun v H1=>∃ y:Str,v=.str y/\y.length<=1000/\R0 y=true/\∀ z:Str,z.length<=20000->Q (.str z) H1
theorem aoe : tFmtR te Y H Q=te Y H fun v H1=>∃ y:Str,v=.str y/\y.length<=1000/\R0 y=true/\∀ z:Str,z.length<=20000->Q (.str z) H1:=rfl
theorem aof{pos:Pos}(he:PE X e te):PE X (.FormattedValue e 114 none pos) (tFmtR te):=by
 intro pins s Y H Q I h;refine wpAny_FormattedValue_repr (A8 (he pins s Y H _ I h) fun u s1 ⟨v,H1,I1,rv,y,ev,hy,ho,q⟩=>?_);subst ev;obtain ⟨t,rfl⟩:=rv;have hc:∀ c∈y.cps.toList,c<16 ^ 8:=fun c hc=>by
  unfold R0 at ho;rw [<- Array.all_toList,b0] at ho
  have:=ho c hc
  simp only [decide_eq_true_eq] at this;exact Nat.lt_trans this (by decide)
 have hl:(reprText y).length<=20000:=F6 (reprText_len y hc) (by lia);have hz:(reprText y).length<=sizeLine:=F6 hl (by decide);exact wpAny_pyReprObj_str (wpAny_formatField_str ⟨.str _,H1,I1.tok _,⟨_,rfl⟩,q _ hl⟩ ⟨.str _,H1,I1.tok _,⟨_,rfl⟩,q _ hl⟩ hz) hz
theorem aog{pos:Pos}(he:QE X e te):QE X (.FormattedValue e 114 none pos) (tFmtR te):=⟨aof he.out⟩
end L2
set_option maxRecDepth 100000
namespace L2
open PySem PySem.Spec PyProof.Rows
open PySem.Builtin PySem.Builtin.Str PySem.StrLaws
noncomputable def V0 (z:Str):Prop:=z.length<=10/\R0 z=true
noncomputable def tFmtL (K:PySem.W.Frag) (te:TE):TE:=fun Y H Q=>te Y H fun v H1=>∃ (a:Addr) (zs:List Str),v=.ref a/\H1 a=some (.lst (zs.map V.str))/\zs.length<=500/\(∀ z∈zs,V0 z)/\∀ z:Str,z.length<=100000->Q (.str z) H1
theorem aoh : tFmtL K te Y H Q=te Y H fun v H1=>∃ (a:Addr) (zs:List Str),v=.ref a/\H1 a=some (.lst (zs.map V.str))/\zs.length<=500/\(∀ z∈zs,V0 z)/\∀ z:Str,z.length<=100000->Q (.str z) H1:=rfl
theorem aej:∀ {zs:List Str},(∀ z∈zs,V0 z)->piled (PyData.shownAll (zs.map V5))<=104*zs.length
 | [],_=>C2 _
 | z::zs,h=>by
  have ih:=aej fun y hy=>h y (G5 _ hy)
  obtain ⟨h1,h2⟩:=h z G9;have hc:∀ c∈z.cps.toList,c<16 ^ 8:=fun c hc=>by
   unfold R0 at h2;rw [<- Array.all_toList,b0] at h2
   have:=h2 c hc
   simp only [decide_eq_true_eq] at this;exact Nat.lt_trans this (by decide)
  have hl:=reprText_len z hc;rw [D0,show PyData.shownAll (V5 z::zs.map V5)=reprText z::PyData.shownAll (zs.map V5) from by simp only [PyData.shownAll,PyData.shown],piled_cons,E8];lia
theorem aey(ts:List Str):(listText ts).length<=piled ts+2:=by
 cases ts with
 | nil=>rw [listText_nil];decide
 | cons t r=>
  have h:=textFrom_length_pos r 1 (("[" : Str)++(if (0:Nat) > 0 then ", " else "" : String)++t) (Nat.succ_pos 0);have e:((("[" : Str)++(if (0:Nat) > 0 then ", " else "" : String)++t)).length=1+t.length:=by
   rw [strLen_append,strLen_append];rfl
  have hX:(listText (t::r)).length=(textFrom 0 "[" (t::r)).length+1:=by
   show (textFrom 0 "[" (t::r)++"]").length=_;rw [strLen_append];rfl
  have hY:(textFrom 0 "[" (t::r)).length=(textFrom 1 (("[" : Str)++(if (0:Nat) > 0 then ", " else "" : String)++t) r).length:=rfl;rw [hX,hY,h,e,piled_cons];lia
theorem nK:∀ zs:List Str,PyData.showableAll (zs.map V5)=true/\PyData.hasDictAll (zs.map V5)=false
 | []=>⟨by simp only [i7,PyData.showableAll],by simp only [i7,PyData.hasDictAll]⟩
 | z::zs=>⟨by simp only [D0,PyData.showableAll,PyData.showable,(nK zs).1,Bool.and_self],by simp only [D0,PyData.hasDictAll,PyData.hasDict,(nK zs).2,Bool.or_self]⟩
theorem aek:∀ zs:List Str,e9 (zs.map V5)=0
 | []=>by simp only [i7,e9]
 | z::zs=>by simp only [D0,e9,bI,aek zs];rfl
theorem aoi{pos:Pos}(hr:Room k X.A)(he:PE X e te):PE X (.FormattedValue e 114 none pos) (tFmtL X.K te):=by
 intro pins s Y H Q I h;refine wpAny_FormattedValue_repr (A8 (he pins s Y H _ I h) fun u s1 ⟨v,H1,I1,rv,a,zs,ev,ha,hn,hs,q⟩=>?_);subst ev;have hl:(PyData.list (zs.map V5)).shown.length<=100000:=by
  simp only [PyData.shown];have h1:=aey (PyData.shownAll (zs.map V5));have h2:=aej hs;lia
 have hz:(PyData.list (zs.map V5)).shown.length<=sizeLine:=F6 hl (by decide);obtain ⟨_,as,rd⟩:=Dn.reads I1 rfl (Dn.lst (K:=X.K) (.of ha) (rL fun z hz=>(hs z hz).2)) rv;obtain rfl:u=Value.ref a:=rv;have hu:=hr.units;refine pyReprObj_of_reads rd (by simp only [PyData.showable];exact (nK zs).1) (PyData.noDict_hsm (by simp only [PyData.hasDict];exact (nK zs).2)) hr.gd (by rw [bI,aek];lia) (fun _ _ z=>z) (fun h' u tk hk=>?_) hz;have I2:Inv X pins Y H1 { s1 with heap:=h',toks:=tk }:=I1.kept hk;exact wpAny_formatField_str ⟨.str _,H1,I2,⟨_,rfl⟩,q _ hl⟩ ⟨.str _,H1,I2.tok _,⟨_,rfl⟩,q _ hl⟩ hz
theorem aoj{pos:Pos}(hr:Room k X.A)(he:QE X e te):QE X (.FormattedValue e 114 none pos) (tFmtL X.K te):=⟨aoi hr he.out⟩
end L2
set_option maxRecDepth 100000
namespace L2
open PySem PySem.Spec PyProof.Rows
section
variable {X:Cx} {K:PySem.W.Frag} {hh:ExceptHandler} {bs sa sb:List Stmt} {t u:TS} {pos:Pos} {c:Expr} {tA:TT}
end
section
variable {X:Cx} {K:PySem.W.Frag} {k:Nat} {DC:Addr} {ps:List Str} {sp:Sp} {x Dn n:Str} {gp cp ep dp hp:Pos} {e:Expr} {es:List Expr} {t:TA} {i:Nat} {yz:Stmt} {suite:List Stmt} {ts:TS} {dvs:List V}
end
end L2
set_option maxRecDepth 100000
namespace L2
open PySem PySem.Spec PyProof.Rows
structure QEx(X:Cx)(e:Expr)(t:XK->TE):Prop where
 out:∀ (XE:Value->Shared->Prop) (E:XK) (pins:List (Addr×Obj)) (s:Shared) (Y:St) (H:Hp) (Q:VK),(∀ H1 s1 e' s',Inv X pins Y H1 s1->Y4 X.prog X.w X.stack H1 s1 E e' s'->XE e' s')->Inv X pins Y H s->t E Y H Q->wpAny (model X.prog X.w) X.A (eval e X.env) (EP X pins Y Q) XE s
section
variable {X:Cx} {k:Nat} {f C:Addr} {fd:FuncData} {ps:List Str} {sp:Sp} {x m:Str} {p pos apos:Pos} {e o:Expr} {es:List Expr} {ta:XK->TE} {t:TA} {E:XK} {XE:Value->Shared->Prop}
theorem qx_cB{id:String}{rc:List V->Hp->VK->Prop}(hc:∀ XE,QCall (X.wish XE) (.builtin id) rc)(hm:X.mg x=none)(hv:bootBuiltins x=some (.builtin id))(he:QEx X e ta)(hg:Gl X x:=by rfl)(h1:J2 e=false:=by rfl)(hn:x≠"__name__":=by decide)(K2:(x==("__debug__" : Str))=false:=by decide) :
  QEx X (.Call (.Name x p) [e] [] pos) (fun E=>bN rc (tCons (ta E) tNil)):=by
 refine ⟨fun XE E pins s Y H Q hx I h=>?_⟩;refine wpAny_Call_Name_kw (x8 I hg hm hv ?_ hn K2);refine PyProof.Rows.callWith_builtin1 ?_ (L8 h1) (p9 rfl);rw [L8 h1];show wpAny _ _ (spliced ((false,eval e X.env)::backTo pos (starEach [] X.env))) _ _ s;refine Calls.spliced_cons (A8 (he.out XE E pins s Y H _ hx I h) fun u s1 z=>?_);obtain ⟨x,H1,I1,r1,q1⟩:=z;refine Calls.spliced_nil ?_;refine A8 ((hc XE).out pins s1 Y H1 [x] [u] Q (I1.wish XE) (.cons r1 .nil) q1) fun v s2 z=>?_
 obtain ⟨y,H2,I2,r2,q2⟩:=z;exact ⟨y,H2,I2.unwish,r2,q2⟩
end
noncomputable def tTryX (K:PySem.W.Frag) (te:XK->TE) (j:Nat) (DC:Addr) (i:Nat) (ts:TS):TS:=fun D Y H=>te (bW K DC i ts D Y) Y H fun v H2=>D.nx (Y.set j (some v)) H2
noncomputable def aqZ (K:PySem.W.Frag) (te:XK->TE) (DC:Addr) (i:Nat) (ts:TS):TS:=fun D Y H=>te (bW K DC i ts D Y) Y H fun _ H2=>D.nx Y H2
section
variable {X:Cx} {K:PySem.W.Frag} {DC:Addr} {Dn n y:Str} {ep dp hp yp:Pos} {e:Expr} {te:XK->TE} {i j:Nat} {yz:Stmt} {suite:List Stmt} {ts:TS}
end
section
variable {K:PySem.W.Frag} {te:XK->TE} {DC C:Addr} {i j:Nat} {ts:TS} {D:Ends} {Y:St} {H:Hp} {sp:Sp} {E:XK} {t:TA} {Q:VK}
theorem aok:tTryX K te j DC i ts D Y H=te (bW K DC i ts D Y) Y H fun v H2=>D.nx (Y.set j (some v)) H2:=rfl
theorem alN:aqZ K te DC i ts D Y H=te (bW K DC i ts D Y) Y H fun _ H2=>D.nx Y H2:=rfl
theorem alO:tMake C sp [] E t Y H Q=t Y H fun vs H1=>∀ x dx,H1 x=none->H1 dx=none->dx≠x->sp (.ref x::(vs++[])) (A0 (A0 H1 dx (.own x)) x (.ins C dx [])) (fun v H2=>v=.non/\Q (.ref x) H2) E:=rfl
end
end L2
set_option maxRecDepth 100000
namespace L2
open PySem PySem.Spec PyProof.Rows
noncomputable abbrev TC:=Ends->St->Addr->Addr->Hp->Prop
structure QHs(X:Cx)(hs:List ExceptHandler)(tc:TC):Prop where
 out:∀ (pins:List (Addr×Obj)) (s:Shared) (Y:St) (H:Hp) (D:Ends) (x C dx T:Addr),Inv X pins Y (A0 H x (xc x C dx)) s->H x=none->((T∈X.ex\/X.s₀.heap.objs.size<=T)/\T≠X.env.locals/\(∀ y c,X.env.cells.lookup y=some c->c≠T)/\∀ p∈X.pn++pins,p.1≠T)->A0 H x (xc x C dx) T=none->Flies s.heap x C dx T->tc D Y C dx H->
  wpAny (model X.prog X.w) X.A (handleBy (.ref x) X.env hs) (SP X pins D) X.xe s
noncomputable def tcNil:TC:=fun _ _ _ _ _=>False
noncomputable def tcAs (K:PySem.W.Frag) (DC:Addr) (i:Nat) (ts:TS) (r:TC):TC:=fun D Y C dx H=>∃ b,N0 K C (.ref DC)=some b/\if b=true then ∀ x,H x=none->ts { nx:=fun σ' H''=>D.nx (σ'.set i none) H'',rt:=fun _ _=>False } (Y.set i (some (.ref x))) (A0 H x (xc x C dx)) else r D Y C dx H
noncomputable def j8 (tc:TC) (D:Ends) (Y:St):XK:=fun cls dx H=>∃ C d,cls=.ref C/\dx=some d/\tc D Y C d H
section
variable {X:Cx} {K:PySem.W.Frag} {DC:Addr} {Dn n:Str} {dp hp:Pos} {i:Nat} {yz:Stmt} {suite:List Stmt} {ts:TS} {hs:List ExceptHandler} {r:TC}
theorem ams:QHs X [] tcNil:=⟨fun _ _ _ _ _ _ _ _ _ _ _ _ _ _ z=>z.elim⟩
theorem qh_as(hmD:X.mg Dn=some (.ref DC))(CC:CatchC X.K DC)(hN:X.N.Nodup)(hi:X.N[i]?=some n)(hk:X.env.kindOf n=some .local)(h:∀ x xe,QSs (X.inExc x xe) (yz::suite) ts)(hr:QHs X hs r)(hK:X.K=K:=by rfl)(hg:Gl X Dn:=by rfl)(K2:(Dn==("__debug__" : Str))=false:=by decide):QHs X (.ExceptHandler (some (.Name Dn dp)) (some n) (yz::suite) hp::hs) (tcAs K DC i ts r):=by
 subst hK;obtain ⟨cd,U2⟩:=CC.cl;refine ⟨fun pins s Y H D x C dx T I hx bT hT fl z=>?_⟩;obtain ⟨b,wK,z⟩:=z;refine wpAny_handleBy_cons (codeAny_handlers_test ?_) (by intro q;cases q);have I3:=I.inExc x X.xe;refine fO I3 hg hmD ?_ K2;obtain ⟨vs,oT,tsl,he2,r2⟩:=id fl;refine ajT (s:=s) I.kIn he2 rfl U2 CC.ty CC.bx wK ?_
 cases b with
 | false=>exact hr.out pins s Y H D x C dx T I hx bT hT fl z
 | true=>
  refine codeAny_handlers_suite_as (alG (s:=s) fl fun h3 fl3 k3=>?_);have I4:=I.other bT hT k3;refine iU I4 hN hi (.inl hk) (v:=.ref x) rfl (fun s5 I5=>?_) (.inr hk);refine wpAny_mono ((h x _).out pins s5 _ _ _ (I5.inExc x _) (z x hx)) (fun f s6 q=>?_) fun _ _ z=>z
  cases f with
  | next=>
   obtain ⟨σ6,H6,I6,q6⟩:=q;exact ajZ (I6.outExc I.ok.hd) hN hi hk fun s7 I7=>⟨_,H6,I7,q6⟩
  | ret u=>obtain ⟨_,_,_,_,_,z⟩:=q;exact z.elim
  | brk=>obtain ⟨_,_,_,z⟩:=q;exact z.elim
  | cont=>obtain ⟨_,_,_,z⟩:=q;exact z.elim
end
noncomputable def XHn (X:Cx) (pins:List (Addr×Obj)) (D:Ends) (hs:List ExceptHandler):Value->Shared->Prop:=fun e s'=>wpAny (model X.prog X.w) X.A (noteFrame e X.env) (fun _ zv=>wpAny (model X.prog X.w) X.A (setFlight e none) (fun _ zu=>wpAny (model X.prog X.w) X.A (handleBy e X.env hs) (SP X pins D) X.xe zu) X.xe zv) X.xe s'
theorem amt{e:Value}{hs:List ExceptHandler}{tc:TC}(hh:QHs X hs tc)(V2:X.stack=X.env::X.outer)(lE:X.env.frame=some X.env.locals)(I:Inv X pins Y H s)(c:Y4 X.prog X.w X.stack H s (j8 tc D Y) e s'):XHn X pins D hs e s':=by
 obtain ⟨x,C,dx,T,H',ee,os',bare',un,hok,nx,nT,hx,hT,fl,hE'⟩:=c;subst ee;obtain ⟨C',d',e1,e2,h1⟩:=hE';cases e1;cases e2;have I1:=I.call' (ch:=[]) os' un hok bare' (fun b z=>absurd z (by simp));have bx:=I.beyond (s':=s) nx;have bT:=I.beyond (s':=s) nT;have P0:X.A.frames=some (X.env::X.outer):=by rw [<- V2];exact I.ok.frames
 have l9:s'.heap.FunFrames X.base (X.env::X.outer):=by rw [<- V2];exact I1.stack
 refine af7 (s:=s') P0 l9 lE fl fun h2 T2 nT2 lC k1 k2=>?_
 rw [<- V2] at k1;have I2:=I1.held bx bT hx hT lC k1 k2;have bT2:=I1.beyond (s':=s) nT2;have hT2:A0 H' x (xc x C dx) T2=none:=by
  obtain ⟨_,_,_,_,_,hTx,_⟩:=lC;rw [A3 hTx];exact I1.hok.fresh nT2
 exact hh.out pins { s' with heap:=h2 } Y H' D x C dx T2 I2 hx bT2 hT2 lC h1
structure QTN(X:Cx)(hs:List ExceptHandler)(bs:List Stmt)(t:TS):Prop where
 out:∀ (pins:List (Addr×Obj)) (s:Shared) (Y:St) (H:Hp) (D:Ends),Inv X pins Y H s->t D Y H->wpAny (model X.prog X.w) X.A (execs bs X.env) (SP X pins D) (XHn X pins D hs) s
noncomputable def tTnE (sp:Sp) (dvs:List V) (t:TA) (tc:TC):TS:=fun D Y H=>t Y H fun vs H1=>sp (vs++dvs) H1 (fun _ H2=>D.nx Y H2) (j8 tc D Y)
noncomputable def tTnA (sp:Sp) (dvs:List V) (t:TA) (j:Nat) (tc:TC):TS:=fun D Y H=>t Y H fun vs H1=>sp (vs++dvs) H1 (fun v H2=>D.nx (Y.set j (some v)) H2) (j8 tc D Y)
noncomputable def tTnX (te:XK->TE) (j:Nat) (tc:TC):TS:=fun D Y H=>te (j8 tc D Y) Y H fun v H2=>D.nx (Y.set j (some v)) H2
noncomputable def tTnXE (te:XK->TE) (tc:TC):TS:=fun D Y H=>te (j8 tc D Y) Y H fun _ H2=>D.nx Y H2
section
variable {X:Cx} {h0:ExceptHandler} {hs:List ExceptHandler} {bs sa sb:List Stmt} {t u:TS} {pos:Pos} {c:Expr} {tA:TT}
theorem aj6(h:QTN X (h0::hs) bs t):QS X (.Try bs (h0::hs) [] [] pos) t:=
 ⟨fun pins s Y H D I z=>wpAny_Try_except (wpAny_mono (h.out pins s Y H D I z) (fun f s1 z=>by cases f <;> first | exact wpAny_execs_nil z | exact z) fun _ _ z=>z)⟩
end
section
variable {X:Cx} {k:Nat} {ps:List Str} {sp:Sp} {x y:Str} {gp cp ep yp:Pos} {e:Expr} {es:List Expr} {t:TA} {j:Nat} {dvs:List V} {hs:List ExceptHandler} {tc:TC} {te:XK->TE}
theorem alP(hh:QHs X hs tc)(he:QEx X e te)(hN:X.N.Nodup)(hj:X.N[j]?=some y)(hy:p6 X.env.scope y)(V2:X.stack=X.env::X.outer:=by rfl)(lE:X.env.frame=some X.env.locals:=by rfl)(eA:swapsWith e (some (.Name y yp)) ep.line X.env=pure false:=by rfl)(hf:X.fn y=true\/X.env.scope.names.lookup y=some .local:=by first | exact .inl rfl | exact .inr rfl | assumption) :
  QTN X hs [.Assign [.Name y yp] e ep] (tTnX te j tc):=by
 refine ⟨fun pins s Y H D I h=>?_⟩;refine wpAny_execs_cons (wpAny_Assign_Name (wpAny_mono (he.out _ (j8 tc D Y) pins s Y H _ (fun H1 s1 e' s' I1 c=>amt hh V2 lE I1 c) I h) (fun u s1 z=>?_) fun _ _ z=>z) eA);obtain ⟨v,H1,I1,rv,q⟩:=z;exact iU I1 hN hj hy rv (fun s2 I2=>wpAny_execs_nil ⟨_,H1,I2,q⟩) hf
theorem aj7(hh:QHs X hs tc)(he:QEx X e te)(V2:X.stack=X.env::X.outer:=by rfl)(lE:X.env.frame=some X.env.locals:=by rfl)(eA:swapsWith e none ep.line X.env=pure false:=by rfl):QTN X hs [.Expr e ep] (tTnXE te tc):=by
 refine ⟨fun pins s Y H D I h=>?_⟩;refine wpAny_execs_cons (wpAny_Expr_any (wpAny_mono (he.out _ (j8 tc D Y) pins s Y H _ (fun H1 s1 e' s' I1 c=>amt hh V2 lE I1 c) I h) (fun u s1 z=>?_) fun _ _ z=>z) I.quiet eA);obtain ⟨v,H1,I1,rv,q⟩:=z;exact wpAny_execs_nil ⟨Y,H1,I1,q⟩
end
section
variable {K:PySem.W.Frag} {te:XK->TE} {DC C dx:Addr} {i j:Nat} {ts:TS} {D:Ends} {Y:St} {H:Hp} {sp:Sp} {t:TA} {tc r:TC} {dvs:List V}
theorem aq0:tTnE sp dvs t tc D Y H=t Y H fun vs H1=>sp (vs++dvs) H1 (fun _ H2=>D.nx Y H2) (j8 tc D Y):=rfl
theorem aq1:tTnA sp dvs t j tc D Y H=t Y H fun vs H1=>sp (vs++dvs) H1 (fun v H2=>D.nx (Y.set j (some v)) H2) (j8 tc D Y):=rfl
theorem aq2:tTnX te j tc D Y H=te (j8 tc D Y) Y H fun v H2=>D.nx (Y.set j (some v)) H2:=rfl
theorem aol:tTnXE te tc D Y H=te (j8 tc D Y) Y H fun _ H2=>D.nx Y H2:=rfl
end
end L2
set_option maxRecDepth 100000
namespace L2
open PySem PySem.Spec PyProof.Rows
noncomputable def z9 (P:Program) (w:World) (K:PySem.W.Frag) (mg:Str->Option Value) (base:Heap) (k:Nat) (C:Addr) (m:Str) (ps:List Str) (sp:Sp):Prop:=
 ∃ f fd,FnOk P w K mg base (Y4 P w) k f fd ps sp/\Cls K C/\Meth K C m f/\Binds K fd ps []
section
variable {X:Cx} {k:Nat} {C:Addr} {ps:List Str} {sp:Sp} {m:Str} {pos apos:Pos} {e o:Expr} {es:List Expr} {ta:TE} {t:TA} {E:XK}
theorem ahw(ho:QE X o ta)(G:z9 X.prog X.w X.K X.mg X.base k C m ps sp)(hr:Room k X.A)(hx:bM (Y4 X.prog X.w) X E)(ha:QA X (e::es) t)(h1:J2 e=false:=by rfl)(h2:R3 es=true:=by rfl){pl:Sem Bool}(ht:eval (.Call (.Attribute o m apos) (e::es) [] pos) X.env=(do
   let ov <- eval o X.env
   standAt apos.atName
   let (f,first) <- holding [ov] (getMethod ov m pl)
   callWith pos f first (backTo pos (starEach (e::es) X.env)) (backToKw pos (keywordEach [] X.env))):=by rfl) :
  QE X (.Call (.Attribute o m apos) (e::es) [] pos) (tMeth C m sp [] E ta t):=by
 obtain ⟨f,fd,F,c,hm,hb⟩:=G;exact ⟨yT ho.out c hm F hr hb .nil hx ha.out (L8 h1) (p9 h2) ht⟩
theorem aj8(ho:∀ XE,QE (X.wish XE) o ta)(G:z9 X.prog X.w X.K X.mg X.base k C m ps sp)(hr:Room k X.A)(ha:∀ XE,QA (X.wish XE) (e::es) t)(h1:J2 e=false:=by rfl)(h2:R3 es=true:=by rfl){pl:Sem Bool}(ht:eval (.Call (.Attribute o m apos) (e::es) [] pos) X.env=(do
   let ov <- eval o X.env
   standAt apos.atName
   let (f,first) <- holding [ov] (getMethod ov m pl)
   callWith pos f first (backTo pos (starEach (e::es) X.env)) (backToKw pos (keywordEach [] X.env))):=by rfl) :
  QEx X (.Call (.Attribute o m apos) (e::es) [] pos) (fun E=>tMeth C m sp [] E ta t):=by
 obtain ⟨f,fd,F,c,hm,hb⟩:=G;refine ⟨fun XE E pins s Y H Q hx I h=>?_⟩;refine PySem.W.methodCall_KW (pl:=pl) (A8 ((ho XE).out pins s Y H _ (I.wish XE) h) fun u s1 z=>?_) ht;obtain ⟨x,H1,I1,rx,a,dx,fs,ex,ea,l,q⟩:=z;subst ex;obtain rfl:u=Value.ref a:=rx;have I1:=I1.unwish;refine yP I1 ea c hm l ?_;refine iP (first:=[.ref a]) (h₀:=X.base) I.ok.mod.kin hm.kp (A8 ((ha XE).out pos pins s1 Y H1 _ (I1.wish XE) q) fun us s2 z=>?_) (L8 h1) (p9 h2);obtain ⟨vs,H2,I2,r,q2⟩:=z;have I2:=I2.unwish;refine ⟨I2.kIn,?_⟩;have r2:Vals (V.ref a::(vs++[])) (Value.ref a::(us++[])):=.cons rfl (r.append .nil);have hl:(Value.ref a::us++[]).length=ps.length:=by
  have e:=r2.length;rw [F.len _ _ _ _ q2] at e;exact e.symm
 refine wpAny_call (codeAny_mono (F.run X.A X.stack s2 H2 ⟨Value.ref a::us,[]⟩ (Value.ref a::us++[]) (V.ref a::(vs++[])) Q E hr I2.env0 (hb s2 (Value.ref a::us) I2.kIn hl) r2 q2) fun r s' hq=>?_)
 cases r with
 | error e'=>exact hx H2 s2 e' s' I2 hq
 | ok fl=>
  cases fl with
  | ret u=>exact I2.after hq
  | next=>exact False.elim hq
  | brk=>exact False.elim hq
  | cont=>exact False.elim hq
theorem aom{a:Expr}{t2:XK->TE}{x1}(ha:∀ XE,QE (X.wish XE) a t1)(he:QEx X e t2)(h1:J2 a=false:=by rfl)(h2:J2 e=false:=by rfl):QEx X (.Tuple [a,e] x1 pos) (fun E=>tTup (tCons t1 (tCons (t2 E) tNil))):=by
 refine ⟨fun XE E pins s Y H Q hx I h=>?_⟩;refine wpAny_Tuple_spliced ?_;rw [L8 h1,L8 h2];show wpAny _ _ (spliced ((false,eval a X.env)::(false,eval e X.env)::backTo pos (starEach [] X.env))) _ _ s;refine Calls.spliced_cons (A8 ((ha XE).out pins s Y H _ (I.wish XE) h) fun u s1 z=>?_);obtain ⟨v,H1,I1,rv,q1⟩:=z;have I1:=I1.unwish;refine Calls.spliced_cons (A8 (he.out XE E pins s1 Y H1 _ hx I1 q1) fun u2 s2 z=>?_);obtain ⟨v2,H2,I2,hV,q2⟩:=z;refine Calls.spliced_nil ?_;obtain ⟨z,q3⟩:=q2;have hf:H2 s2.heap.objs.size=none:=I2.hok.fresh (C2 _);refine ⟨z,.ref s2.heap.objs.size,A0 H2 s2.heap.objs.size (.tup [v,v2]),I2.laid (t':=s2.toks) (fun b u e=>Heap.get?_push_of_some _ e) (C2 _) ?_,rfl,q3 _ hf⟩;exact ⟨z,[u,u2],.cons rv (.cons hV .nil),⟨_,Heap.get?_push_size _ rfl,rfl,_,rfl⟩⟩
end
section
variable {C:Addr} {m:Str} {sp:Sp} {ta:TE} {t:TA} {Y:St} {H:Hp} {Q:VK} {E:XK}
theorem alQ:tMeth C m sp [] E ta t Y H Q=ta Y H fun x H1=>∃ a dx fs,x=.ref a/\H1 a=some (.ins C dx fs)/\fs.lookup m=none/\t Y H1 fun vs H2=>sp (x::(vs++[])) H2 Q E:=rfl
end
end L2
open L2 in
local macro_rules | `(tactic| walk_at "rd")=>`(tactic| simp only [↓zV,↓ap_c,↓ang,↓aqh,↓ak3,↓anh,↓ani,↓aqi,↓anj,↓aqj,↓aqk,↓ank,↓ap_op,↓ana,↓ap_tB,↓aqf,↓aqe,↓ap_or,↓ane,↓aqg,↓anf,↓anc,↓ap_if,↓ak2,↓ap_cb,↓ano,↓aqn,↓anp,↓aqo,↓aqp,↓ap_sl,↓ai3,↓anq,↓aqs,↓anB,↓ak7,↓anz,↓anA,↓ak8,↓ak9,↓ap_bm,↓aqq,↓aql,↓anm,↓anl,↓ak5,↓ann,↓ap_un,↓ap_rU,↓aqm,↓aqr,↓anr,↓ans,↓ant,↓anu,↓ak4,↓anv,↓ak6,↓anw,↓anb,anx,anC,ala,alb,alc,↓ad_ii,↓ad_ss,↓ad_rr,↓mu_ii,↓mu_ri,↓eq_ii,↓eq_ss,↓eq_bb,↓eq_rx,↓eq_xr,↓ne_ii,↓ne_ss,↓ne_bb,↓ne_rx,↓ne_xr,↓L2.lt_ii,↓L2.lt_ss,↓le_ii,↓le_ss,↓gt_ii,↓gt_ss,↓ge_ii,↓ge_ss,↓in_xs,↓in_xr,↓sl_s,↓sl_r,↓len_s,↓len_r,↓aqw,↓all_r,↓isi_t,↓ord_s,↓aqy,↓alf,kV_str,↓alg,↓tup_r,↓anH,↓aqz,↓aqA,↓anI,↓anJ,↓alh,↓ali,↓anD,↓anE,↓ajE,↓rng_r,↓anV,↓aqS,↓alQ,↓aqW,↓alL,↓an7,↓an8,↓aoe,↓aoh,↓alA,↓aqT,↓aj4,↓alM,↓an9,↓aoa,↓aob,↓aoc,↓aq0,↓aq1,↓aq2,↓aol,↓aok,↓alN,↓alO,↓aqQ,↓anS,↓ajy,↓int_b,↓any_r,↓alt,↓anP,↓anQ,↓aqH,↓anR,↓alu,↓anL,↓alo,↓anN,↓aln,ald,afL,cxK,cxKn,cxKb,cxC,cxCn,cxCb,D0,i7,E8,T7,Nat.sub_self,Nat.reduceAdd,Nat.reduceSub,Nat.zero_add,Nat.add_one_sub_one,List.replicate_zero,fB,M9,fE,List.cons_append,List.getElem?_cons_zero,List.getElem?_cons_succ,List.set_cons_zero,List.set_cons_succ,Option.some.injEq,Option.join_some,Option.join_none,exists_eq_left',exists_eq_left,exists_eq',exists_eq,reduceCtorEq,false_and,and_false,exists_false,exists_const,false_or,or_false,true_and,and_true,V.str.injEq,V.int.injEq,V.bl.injEq,V.ref.injEq,V.ty.injEq,List.cons.injEq,exists_and_left,exists_and_right,and_assoc,if_true,if_false,Bool.false_eq_true,Bool.not_true,Bool.not_false,ite_true,ite_false,Int.reduceLT,Int.reduceLE,K8])
namespace K87
open PySem PySem.Spec PyProof.Rows L2
set_option maxRecDepth 100000
set_option maxHeartbeats 4000000
noncomputable def top (i:Nat):Stmt:=PySem.Challenge.pw_sortlore_k87_rings_and_no_names.main.body.getD i (.Pass ⟨0,0,0,0⟩)
noncomputable abbrev bX:Stmt:=p7 (top 10) 0
noncomputable abbrev bY:Stmt:=p7 (top 11) 0
noncomputable abbrev r8:Stmt:=top 14
noncomputable abbrev W1:Stmt:=top 15
noncomputable abbrev s0:Stmt:=top 18
noncomputable abbrev O0:Stmt:=top 21
noncomputable abbrev nM:Stmt:=top 26
noncomputable abbrev jT:Stmt:=top 32
noncomputable abbrev nN:Stmt:=top 33
noncomputable abbrev bZ:Stmt:=top 34
noncomputable abbrev g4:Stmt:=top 35
noncomputable abbrev aA:Stmt:=top 36
noncomputable abbrev aB:Stmt:=top 37
noncomputable abbrev jU:Stmt:=top 38
noncomputable abbrev cA:Stmt:=top 39
noncomputable abbrev N6:Stmt:=top 40
noncomputable abbrev cB:Stmt:=p7 (top 41) 0
noncomputable abbrev nO:Stmt:=top 24
noncomputable abbrev jV:Stmt:=top 25
noncomputable abbrev dI:Stmt:=top 46
noncomputable abbrev gJ:Stmt:=top 47
noncomputable abbrev t6:Stmt:=top 48
noncomputable abbrev t7:Stmt:=top 49
noncomputable abbrev Y5:Stmt:=top 50
noncomputable abbrev jW:Stmt:=top 52
noncomputable abbrev nP:Stmt:=top 53
noncomputable abbrev t8:Stmt:=p7 (top 54) 2
noncomputable abbrev t9:Stmt:=p7 (top 54) 3
noncomputable abbrev u0:Stmt:=p7 (top 54) 1
noncomputable abbrev u3:Stmt:=p7 (top 54) 0
noncomputable abbrev g6:Stmt:=p7 (top 54) 5
noncomputable abbrev g7:Stmt:=p7 (top 54) 6
noncomputable abbrev cC:Stmt:=p7 (top 54) 7
noncomputable abbrev jX:Stmt:=top 56
noncomputable abbrev O1:Stmt:=top 57
noncomputable abbrev Y6:Stmt:=top 58
noncomputable abbrev j9:Stmt:=top 59
noncomputable abbrev u4:Stmt:=top 60
noncomputable abbrev aD:Stmt:=top 61
noncomputable abbrev aE:Stmt:=top 62
noncomputable abbrev dJ:Stmt:=top 63
noncomputable abbrev s_law:Stmt:=top 64
noncomputable def visB (S:Scope) (x:Str):Bool:=decide (S.names.lookup x=some .local) || decide (S.names.lookup x=some .cell) || decide (S.names.lookup x=some .free)
theorem qvd{pos:Pos}{S:Scope}{x:Str}(hN:X.N=N)(hs:X.env.scope=S)(h:(decide (N[n]?=some x)&&visB S x && !(x==("__debug__" : Str)) && !(x==("__classdict__" : Str)))=true):QE X (.Name x pos) (tVar n):=by
 subst hN hs;simp only [visB,P3,Bool.or_eq_true,decide_eq_true_eq,Bool.not_eq_true'] at h;exact qe_v h.1.1.1 (h.1.1.2.elim (fun z=>z.elim .inl fun z=>.inr (.inl z)) fun z=>.inr (.inr z)) h.1.2 h.2
theorem len1{α:Type}{F:List α->Prop}(h:∀ a,F [a]):∀ us:List α,us.length=1->F us
 | [a],_=>h a
theorem len2{α:Type}{F:List α->Prop}(h:∀ a b,F [a,b]):∀ us:List α,us.length=2->F us
 | [a,b],_=>h a b
theorem len3{α:Type}{F:List α->Prop}(h:∀ a b c,F [a,b,c]):∀ us:List α,us.length=3->F us
 | [a,b,c],_=>h a b c
theorem len4{α:Type}{F:List α->Prop}(h:∀ a b c d,F [a,b,c,d]):∀ us:List α,us.length=4->F us
 | [a,b,c,d],_=>h a b c d
theorem len5{α:Type}{F:List α->Prop}(h:∀ a b c d e,F [a,b,c,d,e]):∀ us:List α,us.length=5->F us
 | [a,b,c,d,e],_=>h a b c d e
theorem G1{Q:List Str}{sc:Scope}(h1:sc.kind=.function:=by rfl)(h2:sc.isCoroutine=false:=by rfl)(h3:sc.isGenerator=false:=by rfl)(h4:N.Nodup:=by decide +kernel)(h5:N.take Q.length=Q:=by rfl)(h6:∀ x∈Q,sc.names.lookup x=some .local\/sc.names.lookup x=some .cell:=by decide +kernel)(h7:∀ y∈sc.names,y.2≠.free:=by decide +kernel):FnScope N Q sc:=⟨h1,h2,h3,h4,h5,h6,h7⟩
theorem T0{kn:List (Str×NameKind)}{sc:Scope}(h1:sc.kind=.function:=by rfl)(h2:∀ x∈sc.names,x.2≠.cell:=by decide +kernel)(h3:∀ x∈sc.names,x.2=.local->sc.names.lookup x.1=some .local:=by decide +kernel)(h4:∀ x∈sc.names,x.2=.free->kn.lookup x.1=some .cell\/kn.lookup x.1=some .free:=by decide +kernel)(h5:∀ x∈sc.names,x.2=.free->sc.names.lookup x.1=some .free:=by decide +kernel)(h6:N'.length=k+ixs.length:=by rfl)(h7:ixs.map (fun i=>N[i]?)=(N'.drop k).map some:=by decide +kernel)(h8:∀ x∈N'.drop k,(x,NameKind.free)∈sc.names:=by decide +kernel):CompOk N kn sc N' k ixs:=⟨h1,h2,h3,h4,h5,h6,h7,h8⟩
theorem hm(r:Room k A)(h:j<=k:=by decide):Room j A:=r.mono h
structure DF(K:PySem.W.Frag)(n:Str)(s:Stmt):Prop where
 ex:∃ (f:Addr) (oc:Value) (od:Option Addr) (kV dc pm:Value) (an:Option Addr) (cd ct:Value) (sl:Array (Option Value)),E2 K mainGlobals n=some (some (.ref f))/\K.lookup f=some ⟨oc,od,.func (O4 n n (Q7 s) (O5 s) (C3 s) .none kV dc pm an cd ct),sl⟩/\R5 K cd n=true/\N4 K (.ref f)=true
theorem df_mk{n:Str}{s:Stmt}{kV dc:Value}{sl:Array (Option Value)}(a:E2 K mainGlobals n=some (some (.ref f)))(l:K.lookup f=some ⟨oc,od,.func (O4 n n (Q7 s) (O5 s) (C3 s) .none kV dc pm an cd ct),sl⟩)(c:R5 K cd n=true)(k:N4 K (.ref f)=true):DF K n s:=⟨f,oc,od,kV,dc,pm,an,cd,ct,sl,a,l,c,k⟩
theorem DF.go{P:Program}{w:World}{base:Heap}{n:Str}{s:Stmt}(d:DF K n s)(X:K.In h)(G:h.Ns mainGlobals mg)(_:K.In base)(ok:∀ {f fd},FunD K n n s f fd->FnOk P w K mg base D9 k f fd ps sp)(hl:∀ (kV dc pm:Value) (an:Option Addr) (cd ct:Value) (us:List Value),us.length=ps.length->bindArgs (O4 n n (Q7 s) (O5 s) (C3 s) .none kV dc pm an cd ct) ⟨us,[]⟩=pure (ps.zip us):=by first | exact fun _ _ _ _ _ _=>len1 fun _=>rfl | exact fun _ _ _ _ _ _=>len2 fun _ _=>rfl | exact fun _ _ _ _ _ _=>len3 fun _ _ _=>rfl | exact fun _ _ _ _ _ _=>len4 fun _ _ _ _=>rfl | exact fun _ _ _ _ _ _=>len5 fun _ _ _ _ _=>rfl):FO P w K mg base k n ps [] sp:=by
 obtain ⟨f,oc,od,kV,dc,pm,an,cd,ct,sl,a,l,c,kp⟩:=d.ex;exact ⟨_,_,ok (f7 (st:=s) l c),L6 X G a,kp,[],.all (hl kV dc pm an cd ct),.nil⟩
structure Txt(P:Program)(w:World)(K:PySem.W.Frag)(mg:Str->Option Value)(C:Addr)(C_Book:Addr)(C_NoName:Addr)(C_Ring:Addr):Prop where
 cl:Cls K C
 na_figures:NoAttr K C "figures"
 na_behind:NoAttr K C "behind"
 na_jobs:NoAttr K C "jobs"
 na_letter_line:NoAttr K C "letter_line"
 na_mark_line:NoAttr K C "mark_line"
 na_made:NoAttr K C "made"
 cl_Book:Cls K C_Book
 na_own:NoAttr K C_Book "own"
 na_elders:NoAttr K C_Book "elders"
 na_newest:NoAttr K C_Book "newest"
 na_length:NoAttr K C_Book "length"
 lore:∃ L,mg "LoreError"=some (.ref L)/\LoreC K L
 na_NoName:NoAttr K C_NoName "name"
 er_NoName:∃ f,ErrC K C_NoName f
 na_Ring:NoAttr K C_Ring "around"
 er_Ring:∃ f,ErrC K C_Ring f
 cn:x5 K (.builtin "object.__class__") "__get__"=some (some (.builtin "getset_descriptor.__get__"))
 ct:cV K (.builtin "object.__class__")=some true
 c_LoreError:∃ a,mg "LoreError"=some (.ref a)/\CatchC K a/\N0 K C_NoName (.ref a)=some true/\N0 K C_Ring (.ref a)=some true
 c_NoName:∃ a,mg "NoName"=some (.ref a)/\CatchC K a/\N0 K C_NoName (.ref a)=some true/\N0 K C_Ring (.ref a)=some false
 c_Ring:∃ a,mg "Ring"=some (.ref a)/\CatchC K a/\N0 K C_NoName (.ref a)=some false/\N0 K C_Ring (.ref a)=some true
 x_Clash:∃ a,mg "Clash"=some (.ref a)/\D8 K (.ref C_NoName) (.ref a)=some false/\D8 K (.ref C_Ring) (.ref a)=some false
 x_NoDeed:∃ a,mg "NoDeed"=some (.ref a)/\D8 K (.ref C_NoName) (.ref a)=some false/\D8 K (.ref C_Ring) (.ref a)=some false
 x_NoLetter:∃ a,mg "NoLetter"=some (.ref a)/\D8 K (.ref C_NoName) (.ref a)=some false/\D8 K (.ref C_Ring) (.ref a)=some false
 x_NoRule:∃ a,mg "NoRule"=some (.ref a)/\D8 K (.ref C_NoName) (.ref a)=some false/\D8 K (.ref C_Ring) (.ref a)=some false
 x_NoSign:∃ a,mg "NoSign"=some (.ref a)/\D8 K (.ref C_NoName) (.ref a)=some false/\D8 K (.ref C_Ring) (.ref a)=some false
 x_NotPlain:∃ a,mg "NotPlain"=some (.ref a)/\D8 K (.ref C_NoName) (.ref a)=some false/\D8 K (.ref C_Ring) (.ref a)=some false
 x_NoText:∃ a,mg "NoText"=some (.ref a)/\D8 K (.ref C_NoName) (.ref a)=some false/\D8 K (.ref C_Ring) (.ref a)=some false
 x_Round:∃ a,mg "Round"=some (.ref a)/\D8 K (.ref C_NoName) (.ref a)=some false/\D8 K (.ref C_Ring) (.ref a)=some false
 x_Twice:∃ a,mg "Twice"=some (.ref a)/\D8 K (.ref C_NoName) (.ref a)=some false/\D8 K (.ref C_Ring) (.ref a)=some false
 x_Ring:∃ a,mg "Ring"=some (.ref a)/\D8 K (.ref C_NoName) (.ref a)=some false/\D8 K (.ref C_Ring) (.ref a)=some true
 x_NoName:∃ a,mg "NoName"=some (.ref a)/\D8 K (.ref C_NoName) (.ref a)=some true/\D8 K (.ref C_Ring) (.ref a)=some false
 y_ValueError:D8 K (.ref C_NoName) (.type "ValueError")=some true
 y_ValueError_Ring:D8 K (.ref C_Ring) (.type "ValueError")=some true
 b_ValueError:mg "ValueError"=none
 b_all:mg "all"=none
 b_any:mg "any"=none
 b_dict:mg "dict"=none
 b_enumerate:mg "enumerate"=none
 b_isinstance:mg "isinstance"=none
 b_len:mg "len"=none
 b_list:mg "list"=none
 b_min:mg "min"=none
 b_ord:mg "ord"=none
 b_range:mg "range"=none
 b_reversed:mg "reversed"=none
 b_str:mg "str"=none
 b_tuple:mg "tuple"=none
 b_zip:mg "zip"=none
 g_MARK:∃ t,mg "MARK"=some (.int 0 t)
 g_LETTER:∃ t,mg "LETTER"=some (.int 2 t)
 g_PER_CENT:∃ t,mg "PER_CENT"=some (.int 37 t)
 x_JOBS:∃ a,mg "JOBS"=some (.ref a)/\ModD P w K a [((Sum.inr ("row" : Str):B5),V.str "letter"),((Sum.inr ("marks" : Str):B5),V.str "mark"),((Sum.inr ("great" : Str):B5),V.str "great"),((Sum.inr ("as" : Str):B5),V.str "as"),((Sum.inr ("over" : Str):B5),V.str "over")]
 x_AGAIN:∃ a,mg "AGAIN"=some (.ref a)/\∀ H:Hp,C8 K H a [V.str "letter",V.str "mark",V.str "over"]
 x_FEWEST:∃ a,mg "FEWEST"=some (.ref a)/\ModD P w K a [((Sum.inr ("row" : Str):B5),V.int 1),((Sum.inr ("marks" : Str):B5),V.int 1),((Sum.inr ("great" : Str):B5),V.int 2),((Sum.inr ("as" : Str):B5),V.int 2),((Sum.inr ("over" : Str):B5),V.int 1),((Sum.inr ("forget" : Str):B5),V.int 1)]
 x_BARE:∃ a,mg "BARE"=some (.ref a)/\∀ H:Hp,C8 K H a [V.str "figures",V.str "blanks",V.str "behind"]
 x_STAYING:∃ a,mg "STAYING"=some (.ref a)/\ModD P w K a [((Sum.inr ("row" : Str):B5),V.int 1),((Sum.inr ("marks" : Str):B5),V.int 1),((Sum.inr ("over" : Str):B5),V.int 1),((Sum.inr ("great" : Str):B5),V.int 2)]
noncomputable def dL:V->Bool
 | .str z=>O6 z
 | _=>false
noncomputable def ahx:Sp:=fun vs H Q _=>∃ c,vs=[.str ⟨#[c]⟩]/\Q (.bl (signB c)) H
noncomputable def af8:Sp:=fun vs H Q _=>∃ x T,vs=[x]/\cZ H x=some T/\(∀ z,x=.str z->z.length<=1000)/\∀ H',Same H H'->Q (.bl (dL x)) H'
theorem aq3{T:String}(h:cZ H x=some T)(n:∀ z,x≠.str z):fY T "str"=false:=by
 cases x with
 | non=>cases h;rfl
 | bl b=>cases h;rfl
 | int i=>cases h;rfl
 | str z=>exact absurd rfl (n z)
 | ref a=>
  unfold cZ at h
  dsimp only at h
  cases e:H a with
  | none=>rw [e] at h;cases h
  | some o=>
   rw [e] at h
   cases o with
   | lst xs=>cases h;rfl
   | tup xs=>cases h;rfl
   | dK kvs=>cases h;rfl
   | frz ob u=>
    cases u with
    | lst xs=>cases h;rfl
    | _=>cases h
   | _=>cases h
 | _=>cases h
theorem aj9(n:∀ z,x≠.str z):dL x=false:=by
 cases x with
 | str z=>exact absurd rfl (n z)
 | _=>rfl
noncomputable def Good (w:Str) (ps:List Str):Prop:=ps.length<=1000/\(∀ z∈ps,O6 z=true)/\((w∈(["figures", "blanks", "behind"]:List Str)/\ps=[])\/∃ n:Int,(w,n)∈([("row",1),("marks",1),("great",2),("as",2),("over",1),("forget",1)]:List (Str×Int))/\n<=ps.length)
noncomputable def ahy (K:PySem.W.Frag):Sp:=fun vs H Q _=>∃ (a:Addr) (w:Str) (ps:List Str),vs=[.ref a]/\D1 K H a ((w::ps).map V.str)/\Good w ps/\∀ H',Same H H'->Q (.bl true) H'
noncomputable def aeV:Sp:=fun vs H Q _=>∃ (z w:Str) (ps:List Str),vs=[.str z]/\z.length<=100000/\Txt.split z " "=w::ps/\Good w ps/\∀ p H',H p=none->Same H H'->H' p=some (.tup ((w::ps).map V.str))->Q (.ref p) H'
theorem alR(h:O6 z=true):32∉z.cps.toList:=by
 intro hm;unfold O6 at h;simp only [P3,b0] at h;exact absurd (h.2 32 hm) (by decide)
theorem Good.word{w:Str}(h:Good w ps):32∉w.cps.toList/\w.length<=7/\R0 w=true:=by
 rcases h.2.2 with ⟨hw,_⟩ | ⟨n,hw,_⟩
 .simp only [D7,O2,or_false] at hw
  rcases hw with rfl | rfl | rfl <;> decide +kernel
 .simp only [D7,O2,or_false,Prod.mk.injEq] at hw
  rcases hw with ⟨rfl,_⟩ | ⟨rfl,_⟩ | ⟨rfl,_⟩ | ⟨rfl,_⟩ | ⟨rfl,_⟩ | ⟨rfl,_⟩ <;> decide +kernel
theorem aeW:∀ {ps:List Str},(∀ z∈ps,O6 z=true)->(ps.map (·.length)).sum<=2*ps.length
 | [],_=>C2 _
 | z::ps,h=>by
  have h1:=aeW (ps:=ps) fun y hy=>h y (G5 _ hy)
  have h2:=(jC (h z G9)).2.2;rw [D0,p0,E8];lia
theorem Good.sum{w:Str}(h:Good w ps):((w::ps).map (·.length)).sum<=7+2*ps.length:=by
 have h1:=aeW h.2.1;have h2:=h.word.2.1;rw [D0,p0];lia
theorem uap{w:Str}(h:Good w ps):(Str.join " " (w::ps)).length<=4000:=by
 have h1:=PySem.StrLaws.join_length_le " " (w::ps);have h2:=h.sum;have h3:=h.1;rw [show (" " : Str).length=1 from rfl,E8] at h1;lia
noncomputable def Fine (z:Rl):Prop:=Good z.1 z.2
noncomputable abbrev k4:Str:="forget"
noncomputable def goneL (R:List Rl):List Str:=R.foldl (fun acc z=>if z.1=k4 then J0 acc z.2 else acc) []
noncomputable def stay (w:Str):Option Nat:=if w=("row" : Str)\/w=("marks" : Str)\/w=("over" : Str) then some 0 else if w=("great" : Str) then some 1 else none
noncomputable def keepR (g:List Str) (ps:List Str):List Str:=ps.filter fun p=>decide (p∉g)
noncomputable def N7 (g:List Str) (z:Rl):Option Rl:=
 if z.1=("as" : Str) then (if z.2.headD ""∈g then none else some z)
 else match stay z.1 with
  | none=>some z
  | some k=>if keepR g (z.2.drop k)=[] then none else some (z.1,z.2.take k++keepR g (z.2.drop k))
noncomputable def young (M:List Rl):List Rl:=M.filter fun z=>decide (z.1≠k4)
noncomputable def W2 (R M:List Rl):List Rl:=young (R.filterMap (N7 (goneL M))++M)
noncomputable def RelR (H:Hp) (x:V):Option Rl->Prop
 | none=>x=.non
 | some z=>∃ r,x=.ref r/\H r=some (tupR z)
noncomputable def aem:Sp:=fun vs H Q _=>∃ (a:Addr) (rs:List Addr) (R:List Rl),vs=[.ref a]/\IsRules H a rs R/\(∀ z∈R,Fine z)/\R.length<=500/\∀ d H',H d=none->Same H H'->H' d=some (.dK (kvOf (goneL R)))->Q (.ref d) H'
noncomputable def af9:Sp:=fun vs H Q _=>∃ (a d:Addr) (z:Rl) (g:List Str),vs=[.ref a,.ref d]/\H a=some (tupR z)/\H d=some (.dK (kvOf g))/\Fine z/\∀ x H',Same H H'->RelR H' x (N7 g z)->Q x H'
noncomputable def aga:Sp:=fun vs H Q _=>∃ (a b:Addr) (rs ms:List Addr) (R M:List Rl),vs=[.ref a,.ref b]/\IsRules H a rs R/\IsRules H b ms M/\(∀ z∈R,Fine z)/\(∀ z∈M,Fine z)/\R.length<=500/\M.length<=500/\
 ∀ l qs H',H l=none->Same H H'->IsRules H' l qs (W2 R M)->Q (.ref l) H'
theorem ah9{z:Rl}(h:R[i]?=some z):goneL (R.take (i+1))=if z.1=k4 then J0 (goneL (R.take i)) z.2 else goneL (R.take i):=by
 unfold goneL;rw [R4,h];simp [o5]
theorem aka(h:∀ z∈R,Fine z):(goneL R).length<=1000*R.length:=by
 have key:∀ (R:List Rl) (acc:List Str),(∀ z∈R,Fine z)->(R.foldl (fun acc z=>if z.1=k4 then J0 acc z.2 else acc) acc).length<=acc.length+1000*R.length:=by
  intro R
  induction R with
  | nil=>intro acc _;exact C2 _
  | cons z R ih=>
   intro acc h;rw [List.foldl_cons];have h1:=ih (if z.1=k4 then J0 acc z.2 else acc) fun y hy=>h y (G5 _ hy)
   have h2:=dA z.2 acc;have h3:=(h z G9).1;rw [E8]
   by_cases hw:z.1=k4
   .rw [if_pos hw] at h1 ⊢;lia
   .rw [if_neg hw] at h1 ⊢;lia
 have:=key R [] h
 simpa [goneL] using this
theorem aia{lo:Option Int}(hn:k<n):¬ (HT.sIx n 0 lo=0/\HT.sIx n n (some (k:Int))=n):=fun h=>by
 have:=h.2
 rw [HT.sIx_nat] at this;lia
noncomputable abbrev STAY:List (B5×V):=[((Sum.inr ("row" : Str):B5),V.int 1),(Sum.inr ("marks" : Str),V.int 1),(Sum.inr ("over" : Str),V.int 1),(Sum.inr ("great" : Str),V.int 2)]
theorem aib{z:Rl}(h:Fine z):(z.1=("as" : Str)/\stay z.1=none/\valV STAY (Sum.inr z.1)=none/\z.1≠k4/\∃ y ys,z.2=y::ys)\/(z.1≠("as" : Str)/\stay z.1=none/\valV STAY (Sum.inr z.1)=none)\/
  (z.1≠("as" : Str)/\z.1≠k4/\∃ k:Nat,stay z.1=some k/\valV STAY (Sum.inr z.1)=some (V.int ((k+1:Nat):Int))/\k<z.2.length):=by
 obtain ⟨w,ps⟩:=z;obtain ⟨_,_,h⟩:=h
 dsimp only at h ⊢
 rcases h with ⟨hw,rfl⟩ | ⟨n,hw,hn⟩
 .simp only [D7,O2,or_false] at hw
  rcases hw with rfl | rfl | rfl <;> exact .inr (.inl (by decide +kernel))
 .simp only [D7,O2,or_false,Prod.mk.injEq] at hw
  rcases hw with ⟨rfl,rfl⟩ | ⟨rfl,rfl⟩ | ⟨rfl,rfl⟩ | ⟨rfl,rfl⟩ | ⟨rfl,rfl⟩ | ⟨rfl,rfl⟩
  .exact .inr (.inr ⟨by decide +kernel,by decide +kernel,0,by decide +kernel,by rfl,by lia⟩)
  .exact .inr (.inr ⟨by decide +kernel,by decide +kernel,0,by decide +kernel,by rfl,by lia⟩)
  .exact .inr (.inr ⟨by decide +kernel,by decide +kernel,1,by decide +kernel,by rfl,by lia⟩)
  .refine .inl ⟨rfl,by decide +kernel,by rfl,by decide +kernel,?_⟩
   cases ps with
   | nil=>simp at hn
   | cons y ys=>exact ⟨y,ys,rfl⟩
  .exact .inr (.inr ⟨by decide +kernel,by decide +kernel,0,by decide +kernel,by rfl,by lia⟩)
  .exact .inr (.inl (by decide +kernel))
theorem RelR.same(S:Same H H'){o:Option Rl}(h:RelR H x o):RelR H' x o:=by
 cases o with
 | none=>exact h
 | some z=>obtain ⟨r,e,h⟩:=h;exact ⟨r,e,S _ _ h⟩
theorem jY{D:Addr}{z:Rl}(hD:H D=some (.lst xs))(h:H r=some (tupR z)):A0 H D (.lst ys) r=some (tupR z):=by
 rw [A3 (fun e=>by rw [e,hD] at h;cases h)];exact h
theorem RelR.put{D:Addr}(hD:H D=some (.lst xs)){o:Option Rl}(h:RelR H x o):RelR (A0 H D (.lst ys)) x o:=by
 cases o with
 | none=>exact h
 | some z=>obtain ⟨r,e,h⟩:=h;exact ⟨r,e,jY hD h⟩
theorem alS(z:Rl)(k:Nat):cutV ((z.1::z.2).map V.str) (some ((k+1:Nat):Int)) none=(z.2.drop k).map V.str:=by
 rw [z0,D0,iM,w6]
theorem akb(z:Rl)(k:Nat):cutV ((z.1::z.2).map V.str) none (some ((k+1:Nat):Int))=(z.1::z.2.take k).map V.str:=by
 rw [aje,D0,List.take_succ_cons,D0,List.map_take]
theorem Paired.append{α β:Type}{F:α->β->Prop} : ∀ {zx yy:List α} {l₂ yx:List β},Paired F zx l₂->Paired F yy yx->Paired F (zx++yy) (l₂++yx)
 | _,_,_,_,.nil,h=>h
 | _,_,_,_,.cons h t,h'=>.cons h (Paired.append t h')
theorem agb{g:List Str}{z z':Rl}(hF:Fine z)(h:N7 g z=some z'):Fine z':=by
 unfold N7 at h
 split at h
 .split at h
  .cases h
  .cases h;exact hF
 .split at h
  .cases h;exact hF
  .rename_i k hk
   split at h
   .cases h
   .rename_i G4
    cases h;have A9:(keepR g (z.2.drop k)).length<=z.2.length-k:=by
     have:=cU (fun p=>decide (p∉g)) (z.2.drop k)
     rw [o7] at this;exact this
    have Z3:0<(keepR g (z.2.drop k)).length:=List.length_pos_iff.mpr G4;obtain ⟨w,ps⟩:=z;obtain ⟨h1,h2,h3⟩:=hF
    dsimp only at *
    refine ⟨?_,fun y hy=>?_,?_⟩
    .show (ps.take k++keepR g (ps.drop k)).length<=1000;rw [E3,K3];lia
    .rcases J8.mp hy with hm | hm
     .exact h2 y (mB hm)
     .exact h2 y (mC (N8.mp hm).1)
    .rcases h3 with ⟨hw,rfl⟩ | ⟨n,hw,hn⟩
     .simp [keepR] at G4
     .refine .inr ⟨n,hw,?_⟩;show n<=((ps.take k++keepR g (ps.drop k)).length:Int);rw [E3,K3];simp only [D7,O2,or_false,Prod.mk.injEq] at hw
      rcases hw with ⟨rfl,rfl⟩ | ⟨rfl,rfl⟩ | ⟨rfl,rfl⟩ | ⟨rfl,rfl⟩ | ⟨rfl,rfl⟩ | ⟨rfl,rfl⟩
      .lia
      .lia
      .have:k=1:=by
        have e:stay ("great" : Str)=some 1:=by decide +kernel
        rw [e] at hk;cases hk;rfl
       lia
      .have e:stay ("as" : Str)=none:=by decide +kernel
       rw [e] at hk;cases hk
      .lia
      .have e:stay ("forget" : Str)=none:=by decide +kernel
       rw [e] at hk;cases hk
theorem agc{M:List Rl}(hR:∀ z∈R,Fine z)(hM:∀ z∈M,Fine z):∀ z∈W2 R M,Fine z:=fun z hz=>by
 unfold W2 young at hz;have hz:=(N8.mp hz).1
 rcases J8.mp hz with h | h
 .obtain ⟨y,hy,e⟩:=iN.mp h;exact agb (hR y hy) e
 .exact hM z h
noncomputable def nameB (z:Str):Bool:=decide (1<=z.length)&&decide (z.length<=8)&&z.cps.toList.all fun c=>decide (97<=c)&&decide (c<=122)
theorem g8(h:nameB z=true):1<=z.length/\z.length<=8/\∀ c∈z.cps.toList,97<=c/\c<=122:=by
 unfold nameB at h;simp only [P3,decide_eq_true_eq,b0] at h;exact ⟨h.1.1,h.1.2,h.2⟩
inductive Ln where
 | beg (n:Str) (e:Option Str)
 | rule (z:Rl)
noncomputable def Ln.words:Ln->List Str
 | .beg n none=>["order",n]
 | .beg n (some e)=>["order",n, "of",e]
 | .rule z=>z.1::z.2
noncomputable def Ln.text (l:Ln):Str:=Str.join " " l.words
structure Bk where
 names:List Str
 rl:Str->List Rl
 el:Str->Option Str
 nw:Option Str
noncomputable def Bk.nil:Bk:=⟨[],fun _=>[],fun _=>none,none⟩
noncomputable def Bk.step (B:Bk):Ln->Bk
 | .beg n e=>⟨B.names++[n],fun t=>if t=n then [] else B.rl t,fun t=>if t=n then e else B.el t,some n⟩
 | .rule z=>⟨B.names,fun t=>if B.nw=some t then B.rl t++[z] else B.rl t,B.el,B.nw⟩
noncomputable def Bk.Fit (B:Bk):Ln->Prop
 | .beg n e=>n∉B.names/\nameB n=true/\∀ x,e=some x->nameB x=true
 | .rule z=>B.nw≠none/\Fine z
noncomputable def Bk.of (ls:List Ln):Bk:=ls.foldl Bk.step Bk.nil
noncomputable def Fits (ls:List Ln):Prop:=∀ (i:Nat) (l:Ln),ls[i]?=some l->(Bk.of (ls.take i)).Fit l
theorem aF(ls:List Ln)(l:Ln):Bk.of (ls++[l])=(Bk.of ls).step l:=by
 unfold Bk.of;rw [o5];rfl
theorem Fits.nil:Fits []:=fun i l h=>by simp at h
theorem Fits.snoc{ls:List Ln}{l:Ln}(h:Fits ls)(hl:(Bk.of ls).Fit l):Fits (ls++[l]):=fun i x hx=>by
 by_cases hi:i<ls.length
 .rw [Z9 hi] at hx;rw [List.take_append_of_le_length (Nat.le_of_lt hi)];exact h i x hx
 .have eI:i=ls.length:=by
   have:=(J4.mp hx).1
   rw [E3,o0] at this;lia
  subst eI;rw [X2 (C2 _),Nat.sub_self] at hx;have e:l=x:=by simpa using hx
  subst e;rw [List.take_left']
  .exact hl
  .rfl
structure Bk.Good(B:Bk)(n:Nat):Prop where
 nd:B.names.Nodup
 nw:∀ t,B.nw=some t->t∈B.names
 nm:∀ t∈B.names,nameB t=true
 fine:∀ t∈B.names,∀ z∈B.rl t,Fine z
 len:∀ t∈B.names,(B.rl t).length<=n
 cnt:B.names.length<=n
theorem Bk.Good.start:Bk.Good Bk.nil 0:=⟨by simp [Bk.nil],fun t h=>by simp [Bk.nil] at h,fun t h=>by simp [Bk.nil] at h,fun t h=>by simp [Bk.nil] at h,fun t h=>by simp [Bk.nil] at h,by simp [Bk.nil]⟩
theorem Bk.Good.step{B:Bk}(g:B.Good n){l:Ln}(h:B.Fit l):(B.step l).Good (n+1):=by
 cases l with
 | beg m e=>
  obtain ⟨h1,h2,h3⟩:=h;have hm:∀ t,t∈B.names++[m]->t∈B.names/\t≠m\/t=m:=fun t ht=>by
   rcases J8.mp ht with h | h
   .exact .inl ⟨h,fun e=>h1 (by rw [<- e];exact h)⟩
   .exact .inr (K7.mp h)
  refine ⟨?_,fun t ht=>?_,fun t ht=>?_,fun t ht=>?_,fun t ht=>?_,?_⟩
  .show (B.names++[m]).Nodup;rw [o3];refine ⟨g.nd,by simp,fun a ha b hb e=>h1 ?_⟩;rw [<- K7.mp hb,<- e];exact ha
  .have:m=t:=by simpa [Bk.step] using ht
   subst this;show m∈B.names++[m]
   simp
  .rcases hm t ht with ⟨h4,_⟩ | rfl
   .exact g.nm t h4
   .exact h2
  .show ∀ z∈(if t=m then [] else B.rl t),Fine z
   rcases hm t ht with ⟨h4,h5⟩ | rfl
   .rw [if_neg h5];exact g.fine t h4
   .rw [if_pos rfl];simp
  .show (if t=m then [] else B.rl t).length<=n+1
   rcases hm t ht with ⟨h4,h5⟩ | rfl
   .rw [if_neg h5];have:=g.len t h4;lia
   .rw [if_pos rfl];simp
  .show (B.names++[m]).length<=n+1;rw [E3,o0]
   have:=g.cnt
   lia
 | rule z=>
  obtain ⟨h1,h2⟩:=h;refine ⟨g.nd,g.nw,g.nm,fun t ht=>?_,fun t ht=>?_,Nat.le_succ_of_le g.cnt⟩
  .show ∀ y∈(if B.nw=some t then B.rl t++[z] else B.rl t),Fine y
   split
   .intro y hy
    rcases J8.mp hy with h | h
    .exact g.fine t ht y h
    .rw [K7.mp h];exact h2
   .exact g.fine t ht
  .show (if B.nw=some t then B.rl t++[z] else B.rl t).length<=n+1
   have:=g.len t ht
   split
   .rw [E3,o0];lia
   .lia
theorem Fits.good{ls:List Ln}(h:Fits ls):∀ i,i<=ls.length->(Bk.of (ls.take i)).Good i
 | 0,_=>by rw [o9];exact Bk.Good.start
 | i+1,hi=>by
  have C1:i<ls.length:=hi;rw [R4,G8 C1];show (Bk.of (ls.take i++[ls[i]])).Good (i+1);rw [aF];exact (Fits.good h i (Nat.le_of_lt C1)).step (h i _ (G8 C1))
structure DR(H0 H:Hp)(ts:List Str)(ad:Str->Addr)(as:Str->List Addr)(F:Str->List Rl):Prop where
 row:∀ t∈ts,IsRules H (ad t) (as t) (F t)
 inj:∀ t∈ts,∀ u∈ts,ad t=ad u->t=u
 new:∀ t∈ts,H0 (ad t)=none
theorem DR.same{ad:Str->Addr}{as:Str->List Addr}{F:Str->List Rl}(x:DR H0 H ts ad as F)(s:Same H H'):DR H0 H' ts ad as F:=⟨fun t h=>(x.row t h).same s,x.inj,x.new⟩
theorem DR.nil(H0 H:Hp)(ad:Str->Addr)(as:Str->List Addr)(F:Str->List Rl):DR H0 H [] ad as F:=⟨fun t h=>(by cases h),fun t h=>(by cases h),fun t h=>(by cases h)⟩
theorem agd{v:HO}(h:IsRules H a rs R)(cG:a≠b)(hb:∀ z:Rl,H b≠some (tupR z)):IsRules (A0 H b v) a rs R:=by
 refine ⟨by rw [A3 cG];exact h.top,R1 h.row fun r z e=>?_⟩;rw [A3 (fun q=>hb z (by rw [<- q];exact e))];exact e
theorem DR.put{ad:Str->Addr}{as:Str->List Addr}{F:Str->List Rl}(x:DR H0 H ts ad as F){v:HO}(hn:∀ t∈ts,ad t≠b)(hb:∀ z:Rl,H b≠some (tupR z)):DR H0 (A0 H b v) ts ad as F:=
 ⟨fun t h=>agd (x.row t h) (hn t h) hb,x.inj,x.new⟩
theorem DR.congr{ad:Str->Addr}{as:Str->List Addr}{F G:Str->List Rl}(x:DR H0 H ts ad as F)(h:∀ t∈ts,F t=G t):DR H0 H ts ad as G:=⟨fun t ht=>by rw [<- h t ht];exact x.row t ht,x.inj,x.new⟩
theorem DR.base{ad:Str->Addr}{as:Str->List Addr}{F:Str->List Rl}(x:DR H0 H ts ad as F)(s:Same H1 H0):DR H1 H ts ad as F:=⟨x.row,x.inj,fun t ht=>s.free (x.new t ht)⟩
theorem DR.app{ad:Str->Addr}{as:Str->List Addr}{F:Str->List Rl}(x:DR H0 H ts ad as F)(hz:z∈ts){ru:Rl}(hr:H r=some (tupR ru)) :
  DR H0 (A0 H (ad z) (.lst ((as z).map V.ref++[.ref r]))) ts ad (fun t=>if t=z then as z++[r] else as t) fun t=>if t=z then F z++[ru] else F t:=by
 have hl:∀ y:Rl,H (ad z)≠some (tupR y):=fun y e=>by rw [(x.row z hz).top] at e;cases e
 refine ⟨fun t ht=>?_,x.inj,x.new⟩;show IsRules _ (ad t) (if t=z then as z++[r] else as t) (if t=z then F z++[ru] else F t)
 by_cases e:t=z
 .subst e;rw [if_pos rfl,if_pos rfl];refine ⟨by rw [A1,E5];rfl,Paired.append (R1 (x.row t ht).row fun q y e=>?_) (.cons ?_ .nil)⟩
  .rw [A3 (fun w=>hl y (by rw [<- w];exact e))];exact e
  .rw [A3 (fun w=>hl ru (by rw [<- w];exact hr))];exact hr
 .rw [if_neg e,if_neg e];exact agd (x.row t ht) (fun w=>e (x.inj t ht z hz w)) hl
theorem DR.more{ad:Str->Addr}{as:Str->List Addr}{F:Str->List Rl}(x:DR H0 H ts ad as F)(hz:z∉ts)(np:H p=none)(n0:H0 p=none) :
  DR H0 (A0 H p (.lst [])) (ts++[z]) (fun t=>if t=z then p else ad t) (fun t=>if t=z then [] else as t) fun t=>if t=z then [] else F t:=by
 have ne:∀ t∈ts,t≠z:=fun t ht e=>hz (by rw [<- e];exact ht)
 have nad:∀ t∈ts,ad t≠p:=fun t ht e=>by have:=(x.row t ht).top;rw [e,np] at this;cases this
 have cases':∀ t,t∈ts++[z]->(t∈ts/\t≠z)\/t=z:=fun t ht=>by
  rcases J8.mp ht with h | h
  .exact .inl ⟨h,ne t h⟩
  .exact .inr (K7.mp h)
 refine ⟨fun t ht=>?_,fun t ht u hu e=>?_,fun t ht=>?_⟩
 .show IsRules _ (if t=z then p else ad t) (if t=z then [] else as t) (if t=z then [] else F t)
  rcases cases' t ht with ⟨h1,h2⟩ | rfl
  .rw [if_neg h2,if_neg h2,if_neg h2];exact (x.row t h1).same (Same.new np)
  .rw [if_pos rfl,if_pos rfl,if_pos rfl];exact ⟨by rw [A1];rfl,.nil⟩
 .have e:(if t=z then p else ad t)=(if u=z then p else ad u):=e
  rcases cases' t ht with ⟨h1,h2⟩ | rfl <;> rcases cases' u hu with ⟨h3,h4⟩ | rfl
  .rw [if_neg h2,if_neg h4] at e;exact x.inj t h1 u h3 e
  .rw [if_neg h2,if_pos rfl] at e;exact absurd e (nad t h1)
  .rw [if_pos rfl,if_neg h4] at e;exact absurd e.symm (nad u h3)
  .rfl
 .show H0 (if t=z then p else ad t)=none
  rcases cases' t ht with ⟨h1,h2⟩ | rfl
  .rw [if_neg h2];exact x.new t h1
  .rw [if_pos rfl];exact n0
noncomputable def flds (o e:Addr) (nw:V) (n:Int):List (Str×V):=[("own",.ref o),("elders",.ref e),("newest",nw),("length",.int n)]
structure BookAt(C:Addr)(H0 H:Hp)(b dx o e:Addr)(B:Bk)(ad:Str->Addr)(as:Str->List Addr)(n:Int):Prop where
 obj:H b=some (.ins C dx (flds o e (orNon B.nw) n))
 own:H o=some (.dK (C0 B.names fun t=>.ref (ad t)))
 eld:H e=some (.dK (C0 (B.names.filter fun t=>(B.el t).isSome) fun t=>.str ((B.el t).getD "")))
 dr:DR H0 H B.names ad as B.rl
 nb:H0 b=none
 no:H0 o=none
 ne:H0 e=none
 oe:o≠e
 same:Same H0 H
theorem BookAt.keep{o e:Addr}{B:Bk}{ad:Str->Addr}{as:Str->List Addr}{n:Int}(x:BookAt C H0 H b dx o e B ad as n)(s:Same H H'):BookAt C H0 H' b dx o e B ad as n:=
 ⟨s _ _ x.obj,s _ _ x.own,s _ _ x.eld,x.dr.same s,x.nb,x.no,x.ne,x.oe,x.same.trans s⟩
theorem BookAt.base{o e:Addr}{B:Bk}{ad:Str->Addr}{as:Str->List Addr}{n:Int}(x:BookAt C H0 H b dx o e B ad as n)(s:Same H1 H0):BookAt C H1 H b dx o e B ad as n:=
 ⟨x.obj,x.own,x.eld,x.dr.base s,s.free x.nb,s.free x.no,s.free x.ne,x.oe,s.trans x.same⟩
noncomputable def LnOk:Ln->Prop
 | .beg n e=>nameB n=true/\∀ x,e=some x->nameB x=true
 | .rule z=>Fine z
noncomputable def Ln.isBeg:Ln->Bool
 | .beg _ _=>true
 | .rule _=>false
theorem Bk.Fit.ok{B:Bk}{l:Ln}(h:B.Fit l):LnOk l:=by
 cases l with
 | beg n e=>exact ⟨h.2.1,h.2.2⟩
 | rule z=>exact h.2
noncomputable def ahz:Sp:=fun vs H Q _=>∃ z:Str,vs=[.str z]/\z.length<=100000/\∀ H',Same H H'->Q (.bl (nameB z)) H'
noncomputable def akc:Sp:=fun vs H Q _=>∃ (a:Addr) (l:Ln),vs=[.ref a]/\H a=some (.lst (l.words.map V.str))/\LnOk l/\∀ H',Same H H'->Q (.bl l.isBeg) H'
noncomputable def tN (C:Addr):Sp:=fun vs H Q _=>∃ (b w dx o e:Addr) (n:Str) (x:Option Str) (H0:Hp) (B:Bk) (ad:Str->Addr) (as:Str->List Addr) (k:Int),vs=[.ref b,.ref w]/\H w=some (.lst ((Ln.beg n x).words.map V.str))/\BookAt C H0 H b dx o e B ad as k/\B.Fit (.beg n x)/\B.Good 1000/\
 ∀ ad' as' H',BookAt C H0 H' b dx o e (B.step (.beg n x)) ad' as' k->Q .non H'
noncomputable def tO (C:Addr):Sp:=fun vs H Q _=>∃ (b dx o e:Addr) (z:Rl) (H0:Hp) (B:Bk) (ad:Str->Addr) (as:Str->List Addr) (k:Int),vs=[.ref b,.str (Ln.rule z).text]/\BookAt C H0 H b dx o e B ad as k/\B.Fit (.rule z)/\B.Good 1000/\
 ∀ ad' as' H',BookAt C H0 H' b dx o e (B.step (.rule z)) ad' as' k->Q .non H'
noncomputable def tP (C:Addr):Sp:=fun vs H Q _=>∃ (b dx o e:Addr) (l:Ln) (H0:Hp) (B:Bk) (ad:Str->Addr) (as:Str->List Addr) (k:Int),vs=[.ref b,.str l.text]/\BookAt C H0 H b dx o e B ad as k/\B.Fit l/\B.Good 1000/\
 ∀ ad' as' H',BookAt C H0 H' b dx o e (B.step l) ad' as' (k+1)->Q .non H'
noncomputable def tQ (C:Addr):Sp:=fun vs H Q _=>∃ (b dx:Addr) (ls:List Ln) (H0:Hp),vs=[.ref b,.str (Str.join "\n" (ls.map Ln.text))]/\H=A0 (A0 H0 dx (.own b)) b (.ins C dx [])/\H0 b=none/\H0 dx=none/\dx≠b/\Fits ls/\ls.length<=200/\
 ∀ o e ad as H',BookAt C H0 H' b dx o e (Bk.of ls) ad as ls.length->Q .non H'
structure IsChain(B:Bk)(c:List Str):Prop where
 nd:c.Nodup
 nx:∀ (i:Nat) (t:Str),c[i]?=some t->t∈B.names/\B.el t=c[i+1]?
noncomputable def jZ (B:Bk) (c:List Str):List Rl:=c.reverse.foldl (fun R t=>W2 R (B.rl t)) []
theorem agf{c x:Nat} : ∀ {zs:List Str},x∈joinN c zs->x=c\/∃ z∈zs,x∈z.cps.toList
 | [],h=>by cases h
 | [z],h=>.inr ⟨z,G9,h⟩
 | z::y::r,h=>by
  have h:x∈z.cps.toList++c::joinN c (y::r):=h
  rcases J8.mp h with h | h
  .exact .inr ⟨z,G9,h⟩
  .rcases D7.mp h with h | h
   .exact .inl h
   .rcases agf (zs:=y::r) h with h | ⟨w,h1,h2⟩
    .exact .inl h
    .exact .inr ⟨w,G5 _ h1,h2⟩
theorem agg{c:Nat}{r:List Str}(h:0<z.length):0<(joinN c (z::r)).length:=by
 have h2:0<z.cps.toList.length:=by simpa [Str.length] using h
 cases r with
 | nil=>exact h2
 | cons y r=>
  show 0<(z.cps.toList++c::joinN c (y::r)).length;rw [E3];lia
theorem tR:(" " : Str)=⟨#[32]⟩:=by decide +kernel
theorem ake:("\n" : Str)=⟨#[10]⟩:=by decide +kernel
theorem nQ{l:Ln}(h:LnOk l):∀ z∈l.words,0<z.length/\z.length<=10/\∀ c∈z.cps.toList,33<=c:=by
 have nm:∀ {z:Str},nameB z=true->0<z.length/\z.length<=10/\∀ c∈z.cps.toList,33<=c:=fun hz=>by
  obtain ⟨h1,h2,h3⟩:=g8 hz;exact ⟨h1,by lia,fun c hc=>by have:=h3 c hc;lia⟩
 have od:0<("order" : Str).length/\("order" : Str).length<=10/\∀ c∈("order" : Str).cps.toList,33<=c:=by decide +kernel
 have of':0<("of" : Str).length/\("of" : Str).length<=10/\∀ c∈("of" : Str).cps.toList,33<=c:=by decide +kernel
 cases l with
 | beg n e=>
  cases e with
  | none=>
   intro z hz;simp only [Ln.words,D7,O2,or_false] at hz
   rcases hz with rfl | rfl
   .exact od
   .exact nm h.1
  | some x=>
   intro z hz;simp only [Ln.words,D7,O2,or_false] at hz
   rcases hz with rfl | rfl | rfl | rfl
   .exact od
   .exact nm h.1
   .exact of'
   .exact nm (h.2 _ rfl)
 | rule r=>
  have h:Fine r:=h;intro z hz
  rcases D7.mp hz with rfl | hz
  .rcases h.2.2 with ⟨hw,_⟩ | ⟨n,hw,_⟩
   .simp only [D7,O2,or_false] at hw
    rcases hw with hw | hw | hw <;> rw [hw] <;> decide +kernel
   .simp only [D7,O2,or_false,Prod.mk.injEq] at hw
    rcases hw with ⟨hw,_⟩ | ⟨hw,_⟩ | ⟨hw,_⟩ | ⟨hw,_⟩ | ⟨hw,_⟩ | ⟨hw,_⟩ <;> rw [hw] <;> decide +kernel
  .have hp:=h.2.1 z hz;have h2:=jC hp;unfold O6 at hp;simp only [P3,b0,decide_eq_true_eq] at hp;refine ⟨by lia,by lia,fun c hc=>?_⟩
   have:=hp.2 c hc
   unfold signB at this;simp only [P3,decide_eq_true_eq] at this;lia
theorem Ln.words_ne(l:Ln):∃ w ws,l.words=w::ws:=by
 cases l with
 | beg n e=>cases e <;> exact ⟨_,_,rfl⟩
 | rule z=>exact ⟨_,_,rfl⟩
theorem Ln.split{l:Ln}(h:LnOk l):Txt.split l.text " "=l.words:=by
 unfold Ln.text;rw [tR];refine sF (by decide) ?_ fun z hz hm=>?_
 .obtain ⟨w,ws,e⟩:=l.words_ne;rw [e];simp
 .have:=(nQ h z hz).2.2 32 hm
  lia
theorem uah{l:Ln}(h:LnOk l):l.words.length<=1001:=by
 cases l with
 | beg n e=>cases e <;> simp [Ln.words]
 | rule z=>
  have h:Fine z:=h;show (z.1::z.2).length<=1001;rw [E8];exact Nat.succ_le_succ h.1
theorem Ln.len{l:Ln}(h:LnOk l):l.text.length<=4000:=by
 cases l with
 | beg n e=>
  have hs:=nQ h;have h1:=PySem.StrLaws.join_length_le " " (Ln.beg n e).words;rw [show (" " : Str).length=1 from rfl] at h1;have h2:((Ln.beg n e).words.map (·.length)).sum<=40:=by
   cases e with
   | none=>
    have a1:=(hs "order" (by simp [Ln.words])).2.1;have a2:=(hs n (by simp [Ln.words])).2.1;simp [Ln.words] at a1 ⊢
    lia
   | some x=>
    have a1:=(hs "order" (by simp [Ln.words])).2.1;have a2:=(hs n (by simp [Ln.words])).2.1;have a3:=(hs "of" (by simp [Ln.words])).2.1;have a4:=(hs x (by simp [Ln.words])).2.1;simp [Ln.words] at a1 a3 ⊢
    lia
  have h3:(Ln.beg n e).words.length<=4:=by cases e <;> simp [Ln.words]
  unfold Ln.text;lia
 | rule z=>
  have h:Fine z:=h;exact uap h
theorem Ln.pos{l:Ln}(h:LnOk l):0<l.text.length:=by
 have e:l.text.length=l.text.cps.toList.length:=by simp [Str.length]
 rw [e];unfold Ln.text;rw [tR,jK];obtain ⟨w,ws,e⟩:=l.words_ne;rw [e];exact agg (nQ h w (by rw [e];exact G9)).1
theorem uaj{l:Ln}(h:LnOk l):10∉l.text.cps.toList:=fun hm=>by
 unfold Ln.text at hm;rw [tR,jK] at hm
 rcases agf hm with h1 | ⟨z,h1,h2⟩
 .lia
 .have:=(nQ h z h1).2.2 10 h2
  lia
theorem Fits.ok{ls:List Ln}(h:Fits ls):∀ l∈ls,LnOk l:=fun l hl=>by
 obtain ⟨i,hi⟩:=n9.mp hl;exact (h i l hi).ok
theorem gK(o e:Addr)(nw:V)(n:Int):(flds o e nw n).lookup (Str.ofString "own")=some (.ref o):=by rfl
theorem amu(o e:Addr)(nw:V)(n:Int):(flds o e nw n).lookup (Str.ofString "elders")=some (.ref e):=by rfl
theorem amv(o e:Addr)(nw:V)(n:Int):(flds o e nw n).lookup (Str.ofString "newest")=some nw:=by rfl
theorem aq4(o e:Addr)(nw:V)(n:Int):(flds o e nw n).lookup (Str.ofString "length")=some (.int n):=by rfl
theorem aq5(o e:Addr)(nw y:V)(n:Int):putF (Str.ofString "newest") y (flds o e nw n)=flds o e y n:=by rfl
theorem aq6(o e:Addr)(nw:V)(n m:Int):putF (Str.ofString "length") (.int m) (flds o e nw n)=flds o e nw m:=by rfl
theorem BookAt.tick{o e:Addr}{B:Bk}{ad:Str->Addr}{as:Str->List Addr}{n:Int}(x:BookAt C H0 H b dx o e B ad as n)(m:Int):BookAt C H0 (A0 H b (.ins C dx (flds o e (orNon B.nw) m))) b dx o e B ad as m:=by
 have hb:=x.obj;refine ⟨A1,?_,?_,x.dr.put (fun t ht z=>?_) (fun z w=>by rw [hb] at w;cases w),x.nb,x.no,x.ne,x.oe,x.same.put x.nb⟩
 .rw [A3 (fun z=>by rw [<- z,x.own] at hb;cases hb)];exact x.own
 .rw [A3 (fun z=>by rw [<- z,x.eld] at hb;cases hb)];exact x.eld
 .have:=(x.dr.row t ht).top
  rw [z,hb] at this
  cases this
theorem Bk.Good.mono{B:Bk}(g:B.Good n)(h:n<=m):B.Good m:=⟨g.nd,g.nw,g.nm,g.fine,fun t ht=>F6 (g.len t ht) h,F6 g.cnt h⟩
theorem agT(R M:List Rl):(W2 R M).length<=R.length+M.length:=by
 unfold W2 young;refine F6 (cU _ _) ?_;rw [E3]
 have:=List.length_filterMap_le (N7 (goneL M)) R
 lia
theorem ahA{B:Bk} : ∀ (c:List Str) (R:List Rl),(∀ t∈c,∀ z∈B.rl t,Fine z)->(∀ z∈R,Fine z)->(∀ z∈c.foldl (fun R t=>W2 R (B.rl t)) R,Fine z)/\(c.foldl (fun R t=>W2 R (B.rl t)) R).length<=R.length+(c.map fun t=>(B.rl t).length).sum
 | [],R,_,h=>⟨h,C2 _⟩
 | t::c,R,h1,h2=>by
  obtain ⟨a,b⟩:=ahA c (W2 R (B.rl t)) (fun u hu=>h1 u (G5 _ hu)) (agc h2 (h1 t G9));refine ⟨a,?_⟩
  have:=agT R (B.rl t)
  rw [List.foldl_cons,D0,p0];lia
theorem amw{x:Nat} : ∀ {l:List Nat},x∈l->x<=l.sum
 | [],h=>by cases h
 | y::l,h=>by
  rw [p0]
  rcases D7.mp h with h | h
  .lia
  .have:=amw h;lia
theorem ahB(f:Str->Nat):∀ (c:List Str) (i:Nat),((c.take i).map f).sum<=(c.map f).sum
 | [],i=>by simp
 | t::c,0=>by simp
 | t::c,i+1=>by
  have:=ahB f c i
  rw [List.take_succ_cons,D0,D0,p0,p0];lia
theorem aon(f:Str->Nat)(c:List Str):(c.reverse.map f).sum=(c.map f).sum:=by rw [List.map_reverse,List.sum_reverse]
theorem alT{ns:List Str}{el:Str->Option Str}{n:Str}(h:n∉ns):((ns++[n]).filter fun t=>(if t=n then none else el t).isSome)=ns.filter fun t=>(el t).isSome:=by
 rw [o1];have e1:([n].filter fun t=>(if t=n then none else el t).isSome)=[]:=by simp
 rw [e1,M9];exact List.filter_congr fun t ht=>by rw [if_neg (fun e=>h (by rw [<- e];exact ht))]
theorem alU{ns:List Str}{el:Str->Option Str}{n x:Str}(h:n∉ns):((ns++[n]).filter fun t=>(if t=n then some x else el t).isSome)=(ns.filter fun t=>(el t).isSome)++[n]:=by
 rw [o1];have e1:([n].filter fun t=>(if t=n then some x else el t).isSome)=[n]:=by simp
 rw [e1]
 congr 1
 exact List.filter_congr fun t ht=>by rw [if_neg (fun e=>h (by rw [<- e];exact ht))]
noncomputable def LT:Str:=Str.ofString "abcdefghijklmnopqrstuvwxyz"
theorem LT_eq:LT.cps.toList=(M3 26).map (97 + ·):=by decide +kernel
theorem gL:LT.length<=sizeLine:=by decide +kernel
theorem LT_at{i:Int}(h0:0<=i)(h1:i<26):L7 LT.cps.toList i=some (97+i.toNat):=by
 rw [LT_eq,show i=((i.toNat:Nat):Int) by lia];refine N9 ?_;rw [M0,List.getElem?_range (by lia)];rfl
theorem amx{c:Nat}{n:Int}(h0:0<=n)(h1:n<=3):MulOk ⟨#[c]⟩ n/\(Txt.mul ⟨#[c]⟩ n).length<=3/\∀ x∈(Txt.mul ⟨#[c]⟩ n).cps.toList,x=c:=by
 have h:n=0\/n=1\/n=2\/n=3:=by lia
 have l1:(⟨#[c]⟩:Str).length=1:=rfl
 rcases h with rfl | rfl | rfl | rfl
 .exact ⟨⟨by decide,fun h=>absurd (by decide) h,fun h=>absurd (by decide) h⟩,by show 0<=3;decide,fun x hx=>by simp [Txt.mul,Str.empty] at hx⟩
 .exact ⟨⟨by decide,fun _ h=>by simp at h,fun _ h=>by simp at h⟩,by show 1<=3;decide,fun x hx=>by simpa [Txt.mul] using hx⟩
 .refine ⟨⟨by decide,fun _ _=>by rw [l1];decide,fun _ _=>by rw [l1];decide⟩,by show 2<=3;decide,fun x hx=>?_⟩
  have:x∈[c,c]:=hx
  simpa using this
 .refine ⟨⟨by decide,fun _ _=>by rw [l1];decide,fun _ _=>by rw [l1];decide⟩,by show 3<=3;decide,fun x hx=>?_⟩
  have:x∈[c,c,c]:=hx
  simpa using this
theorem alV{n:Int}(hj:j<60)(hk:k<60)(e3:97+((n+7*j) % 676 / 26).toNat=97+((n+7*k) % 676 / 26).toNat/\97+((n+7*j) % 676 % 26).toNat=97+((n+7*k) % 676 % 26).toNat):j=k:=by
 have h1:(n+7*j) % 676=(n+7*k) % 676:=by
  generalize hx:(n+7*j) % 676=x at e3;generalize hy:(n+7*k) % 676=y at e3;have pN:0<=x:=by rw [<- hx];exact U6 _ (by decide)
  have hy0:0<=y:=by rw [<- hy];exact U6 _ (by decide)
  clear hx hy;have a1:x / 26=y / 26:=by lia
  have a2:x % 26=y % 26:=by lia
  have b1:=fK x 26;have b2:=fK y 26;lia
 have c1:=fK (n+7*j) 676;have c2:=fK (n+7*k) 676;rw [h1] at c1;generalize (n+7*(j:Int)) / 676=u at c1;generalize (n+7*(k:Int)) / 676=v at c2;generalize (n+7*(k:Int)) % 676=w at c1 c2;lia
theorem aoo{x:Int}(h0:0<=x)(h1:x<676):97<=97+(x / 26).toNat/\97+(x / 26).toNat<=122/\97<=97+(x % 26).toNat/\97+(x % 26).toNat<=122:=by lia
noncomputable def aG (A Z:Str) (n:Int) (k:Nat):Str:=A++(⟨#[97+((n+7*k) % 676 / 26).toNat]⟩++⟨#[97+((n+7*k) % 676 % 26).toNat]⟩)++Z
theorem tS(A Z:Str)(n:Int)(k:Nat):(aG A Z n k).cps.toList=A.cps.toList++([97+((n+7*k) % 676 / 26).toNat,97+((n+7*k) % 676 % 26).toNat]++Z.cps.toList):=by
 unfold aG;simp only [Str.cps_append,Array.toList_append,i5];rfl
theorem aop{A:Str}{n:Int}(hj:j<60)(hk:k<60)(h:aG A Z n j=aG A Z n k):j=k:=by
 have e:=congrArg (fun z:Str=>z.cps.toList) h;simp only [tS] at e;have e2:=List.append_cancel_left e;have e3:=List.append_cancel_right e2;simp only [List.cons.injEq,and_true] at e3;exact alV hj hk e3
theorem alW{A:Str}(hA:A.length<=3)(hZ:Z.length<=3)(hA2:∀ x∈A.cps.toList,97<=x/\x<=122)(hZ2:∀ x∈Z.cps.toList,97<=x/\x<=122)(n:Int)(k:Nat):nameB (aG A Z n k)=true:=by
 have hl:(aG A Z n k).length=A.length+2+Z.length:=by
  have e:(aG A Z n k).length=(aG A Z n k).cps.toList.length:=by simp [Str.length]
  rw [e,tS];simp [Str.length];lia
 unfold nameB;rw [decide_eq_true (by lia),decide_eq_true (by lia),tS,bH,bH,b0];intro x hx;have key:97<=x/\x<=122:=by
  rcases J8.mp hx with h | h
  .exact hA2 x h
  .rcases J8.mp h with h | h
   .simp only [D7,O2,or_false] at h;have az:=aoo (x:=(n+7*k) % 676) (U6 _ (by decide)) (p5 _ (by decide))
    rcases h with rfl | rfl
    .exact ⟨az.1,az.2.1⟩
    .exact ⟨az.2.2.1,az.2.2.2⟩
   .exact hZ2 x h
 rw [decide_eq_true key.1,decide_eq_true key.2];rfl
theorem ahC(n:Str):Str.ofString "order "++n=(Ln.beg n none).text:=by
 show _=Str.ofString "order"++Str.ofString " "++n;rw [show Str.ofString "order"++Str.ofString " "=Str.ofString "order " by decide +kernel]
theorem akf(n x:Str):Str.ofString "order "++n++Str.ofString " of "++x=(Ln.beg n (some x)).text:=by
 show _=Str.ofString "order"++Str.ofString " "++(n++Str.ofString " "++(Str.ofString "of"++Str.ofString " "++x));rw [show Str.ofString "order"++Str.ofString " "=Str.ofString "order " by decide +kernel,show Str.ofString " of "=Str.ofString " "++(Str.ofString "of"++Str.ofString " ") by decide +kernel];simp only [Str.append_assoc]
noncomputable def tT (K:PySem.W.Frag) (C:Addr) (fld:Str):Sp:=fun vs H Q _=>∃ (m:Nat) (x l f:Addr) (zs:List Str),vs=[.ref x,.ref l]/\H x=some (xm m x C)/\ErrC K C f/\NoAttr K C fld/\H l=some (.lst (zs.map V.str))/\zs.length<=500/\(∀ z∈zs,V0 z)/\
 ∀ p dx,H p=none->A0 H p (.lst (zs.map V.str)) dx=none->dx≠x->Q .non (A0 (A0 (A0 H p (.lst (zs.map V.str))) x (xo m x C dx)) dx (.xd [(fld,.ref p)]))
theorem aoq{x:Addr}{o:HO}(nx:H x=none)(np:A0 H x (xm m x C) p=none)(nd:A0 (A0 H x (xm m x C)) p o dx=none)(ne:dx≠x) :
  A0 (A0 (A0 (A0 H x (xm m x C)) p o) x (xo m x C dx)) dx (.xd [(fld,.ref p)]) x=some (xo m x C dx)/\Same H (U1 (A0 (A0 (A0 (A0 H x (xm m x C)) p o) x (xo m x C dx)) dx (.xd [(fld,.ref p)])) x)/\U1 (A0 (A0 (A0 (A0 H x (xm m x C)) p o) x (xo m x C dx)) dx (.xd [(fld,.ref p)])) x dx=some (.xd [(fld,.ref p)])/\U1 (A0 (A0 (A0 (A0 H x (xm m x C)) p o) x (xo m x C dx)) dx (.xd [(fld,.ref p)])) x p=some o:=by
 have wL:p≠x:=fun e=>by rw [e,A1] at np;cases np
 have lF:dx≠p:=fun e=>by rw [e,A1] at nd;cases nd
 rw [A3 wL] at np;rw [A3 lF,A3 ne] at nd;refine ⟨by rw [A3 ne.symm,A1],fun b o h=>?_,by rw [Y3 ne,A1],by rw [Y3 wL,A3 lF.symm,A3 wL,A1]⟩;have h1:b≠x:=M6 h nx;rw [Y3 h1,A3 (M6 h nd),A3 h1,A3 (M6 h np),A3 h1];exact h
theorem tU{x:Addr}{v:V}(nx:H x=none)(nd:A0 H x (xm m x C) dx=none)(ne:dx≠x) :
  A0 (A0 (A0 H x (xm m x C)) x (xo m x C dx)) dx (.xd [(fld,v)]) x=some (xo m x C dx)/\Same H (U1 (A0 (A0 (A0 H x (xm m x C)) x (xo m x C dx)) dx (.xd [(fld,v)])) x)/\U1 (A0 (A0 (A0 H x (xm m x C)) x (xo m x C dx)) dx (.xd [(fld,v)])) x dx=some (.xd [(fld,v)]):=by
 rw [A3 ne] at nd;refine ⟨by rw [A3 ne.symm,A1],fun b o h=>?_,by rw [Y3 ne,A1]⟩;have h1:b≠x:=M6 h nx;rw [Y3 h1,A3 (M6 h nd),A3 h1,A3 h1];exact h
noncomputable def tV (K:PySem.W.Frag) (C:Addr) (fld:Str):Sp:=fun vs H Q _=>∃ m x z f,vs=[.ref x,.str z]/\H x=some (xm m x C)/\ErrC K C f/\NoAttr K C fld/\z.length<=1000/\R0 z=true/\∀ dx,H dx=none->dx≠x->Q .non (A0 (A0 H x (xo m x C dx)) dx (.xd [(fld,.str z)]))
theorem tW{α:Type}[DecidableEq α]:∀ {l m:List α},l.Nodup->(∀ x∈l,x∈m)->l.length<=m.length
 | [],_,_,_=>K8 _
 | x::l,m,nd,h=>by
  obtain ⟨n1,n2⟩:=i6.mp nd;have hx:=h x G9
  have:=tW (l:=l) (m:=m.erase x) n2 fun y hy=>(List.mem_erase_of_ne (fun e=>n1 (by rw [<- e];exact hy))).mpr (h y (G5 _ hy))
  rw [lX hx] at this;have Z3:=List.length_pos_of_mem hx;rw [E8];lia
theorem kA : ∀ bs:List Bool,DnAll K H (bs.map V.bl) (bs.map PyData.bool)
 | []=>.nil
 | b::bs=>.cons (.bl b) (kA bs)
structure Walk(B:Bk)(n:Str)(c:List Str)(nx:Option Str):Prop where
 nd:c.Nodup
 st:(c++nx.toList).head?=some n
 lk:∀ (i:Nat) (t:Str),c[i]?=some t->t∈B.names/\B.el t=(c++nx.toList)[i+1]?
 en:∀ x,nx=some x->x∉B.names\/x∈c
theorem Walk.mem{B:Bk}{n:Str}{c:List Str}{nx:Option Str}(h:Walk B n c nx):∀ t∈c,t∈B.names:=fun t ht=>by
 obtain ⟨i,hi⟩:=n9.mp ht;exact (h.lk i t hi).1
theorem Walk.chain{B:Bk}{n:Str}{c:List Str}(h:Walk B n c none):IsChain B c/\c.head?=some n:=by
 refine ⟨⟨h.nd,fun i t hi=>?_⟩,by have:=h.st;simpa using this⟩
 have:=h.lk i t hi
 simpa using this
theorem gM(h:nameB z=true):V0 z:=by
 unfold nameB at h;simp only [P3,decide_eq_true_eq] at h;refine ⟨by lia,?_⟩;unfold R0;rw [qH];intro c hc
 have:=b0.mp h.2 c (iT.mpr hc)
 simp only [P3,decide_eq_true_eq] at this;simp only [decide_eq_true_eq];lia
theorem Walk.last{B:Bk}{n x:Str}{c:List Str}(h:Walk B n c (some x))(hn:V0 n)(he:∀ t x,B.el t=some x->nameB x=true):V0 x:=by
 rcases List.eq_nil_or_concat c with e | ⟨c',t,e⟩
 .have:=h.st
  rw [e] at this;obtain rfl:x=n:=by simpa using this
  exact hn
 .have h1:=h.lk c'.length t (by rw [e];simp);rw [e] at h1;have h2:B.el t=some x:=by rw [h1.2];simp
  exact gM (he t x h2)
noncomputable def WalkX (CN CR:Addr) (B:Bk) (c:List Str) (nx:Option Str) (H:Hp) (E:XK):Prop:=
 (∀ x,nx=some x->x∉B.names->∀ dx H',Same H H'->H' dx=some (.xd [("name",.str x)])->E (.ref CN) (some dx) H')/\
 (∀ x,nx=some x->x∈c->∀ dx l H',Same H H'->H' dx=some (.xd [("around",.ref l)])->H' l=some (.lst ((c.drop (c.idxOf x)).map V.str))->E (.ref CR) (some dx) H')
theorem WalkX.same{CN CR:Addr}{B:Bk}{c:List Str}{nx:Option Str}{E:XK}(h:WalkX CN CR B c nx H E)(S:Same H H2):WalkX CN CR B c nx H2 E:=
 ⟨fun x h1 h2 dx H' S'=>h.1 x h1 h2 dx H' (S.trans S'),fun x h1 h2 dx l H' S'=>h.2 x h1 h2 dx l H' (S.trans S')⟩
noncomputable def tX (C CN CR:Addr):Sp:=fun vs H Q E=>∃ (b dx o e:Addr) (H0:Hp) (B:Bk) (ad:Str->Addr) (as:Str->List Addr) (k:Int) (n:Str) (c:List Str) (nx:Option Str),vs=[.ref b,.str n]/\BookAt C H0 H b dx o e B ad as k/\B.Good 100/\(∀ t∈B.names,nameB t=true)/\n.length<=10/\R0 n=true/\(∀ t x,B.el t=some x->nameB x=true)/\Walk B n c nx/\WalkX CN CR B c nx H E/\
 (nx=none->∀ l H',H l=none->Same H H'->H' l=some (.lst (c.map V.str))->Q (.ref l) H')
noncomputable def nR (C CN CR:Addr):Sp:=fun vs H Q E=>∃ (b dx o e:Addr) (H0:Hp) (B:Bk) (ad:Str->Addr) (as:Str->List Addr) (k:Int) (n:Str) (c:List Str) (nx:Option Str),vs=[.ref b,.str n]/\BookAt C H0 H b dx o e B ad as k/\B.Good 100/\(∀ t∈B.names,nameB t=true)/\n.length<=10/\R0 n=true/\(∀ t x,B.el t=some x->nameB x=true)/\Walk B n c nx/\WalkX CN CR B c nx H E/\(c.map fun t=>(B.rl t).length).sum<=400/\
 (nx=none->∀ l qs H',H l=none->Same H H'->IsRules H' l qs (jZ B c)->Q (.ref l) H')
noncomputable def spNms:Sp:=fun vs H Q _=>∃ n m:Int,vs=[.int n,.int m]/\0<=n/\1<=m/\m<=41/\∀ l (nms:List Str) H',H l=none->Same H H'->H' l=some (.lst (nms.map V.str))->nms.length=m.toNat->nms.Nodup->(∀ z∈nms,nameB z=true)->Q (.ref l) H'
theorem aq7{c1 c2:Prop}[Decidable c1][Decidable c2]{d1 d2:Prop}[Decidable d1][Decidable d2]{X zy G:Prop}(x:c1->d1->X)(y:¬ (c1/\d1)->c2->d2->zy)(g:¬ (c1/\d1)->¬ (c2/\d2)->G) :
  if decide c1=true then (if decide d1=true then X else if decide c2=true then (if decide d2=true then zy else G) else G) else if decide c2=true then (if decide d2=true then zy else G) else G:=
 iteD (fun h1=>iteD (fun h2=>x h1 h2) fun h2=>iteD (fun h3=>iteD (fun h4=>y (fun z=>h2 z.2) h3 h4) fun h4=>g (fun z=>h2 z.2) fun z=>h4 z.2) fun h3=>g (fun z=>h2 z.2) fun z=>h3 z.1)
  fun h1=>iteD (fun h3=>iteD (fun h4=>y (fun z=>h1 z.1) h3 h4) fun h4=>g (fun z=>h1 z.1) fun z=>h4 z.2) fun h3=>g (fun z=>h1 z.1) fun z=>h3 z.1
noncomputable def nm86 (A Z:Str) (N sh m:Int) (k:Nat):Str:=if sh=1/\m<=8 then Txt.mul ⟨#[97+(N % 26).toNat]⟩ ((k:Int)+1) else if sh=2/\m<=26 then ⟨#[97+((N+5*(k:Int)) % 26).toNat]⟩ else aG A Z N k
theorem nS{c:Nat} : ∀ {n:Nat},n<=8->MulOk ⟨#[c]⟩ (n:Int)/\(Txt.mul ⟨#[c]⟩ (n:Int)).cps.toList=O3 n c:=by
 intro n hn;have l1:(⟨#[c]⟩:Str).length=1:=rfl;have h:n=0\/n=1\/n=2\/n=3\/n=4\/n=5\/n=6\/n=7\/n=8:=by lia
 rcases h with rfl | rfl | rfl | rfl | rfl | rfl | rfl | rfl | rfl
 .exact ⟨⟨by decide,fun h=>absurd (by decide) h,fun h=>absurd (by decide) h⟩,rfl⟩
 .exact ⟨⟨by decide,fun _ h=>by simp at h,fun _ h=>by simp at h⟩,rfl⟩
 all_goals exact ⟨⟨by decide,fun _ _=>by rw [l1];decide,fun _ _=>by rw [l1];decide⟩,rfl⟩
theorem alX{N:Int}(hj:j<26)(hk:k<26)(h:((N+5*(j:Int)) % 26).toNat=((N+5*(k:Int)) % 26).toNat):j=k:=by
 have h1:(N+5*(j:Int)) % 26=(N+5*(k:Int)) % 26:=by
  have a:=U6 (N+5*(j:Int)) (show (26:Int)≠0 by decide);have b:=U6 (N+5*(k:Int)) (show (26:Int)≠0 by decide);lia
 have c1:=fK (N+5*(j:Int)) 26;have c2:=fK (N+5*(k:Int)) 26;rw [h1] at c1;generalize (N+5*(j:Int)) / 26=u at c1;generalize (N+5*(k:Int)) / 26=v at c2;generalize (N+5*(k:Int)) % 26=w at c1 c2;lia
theorem alY{A:Str}{N m:Int}(hm:m<=41)(hj:(j:Int)<m)(hk:(k:Int)<m)(h:nm86 A Z N sh m j=nm86 A Z N sh m k):j=k:=by
 unfold nm86 at h
 by_cases h1:sh=1/\m<=8
 .rw [if_pos h1,if_pos h1] at h;have e:=congrArg (fun z:Str=>z.cps.toList.length) h;have a:=(nS (c:=97+(N % 26).toNat) (n:=j+1) (by lia)).2;have b:=(nS (c:=97+(N % 26).toNat) (n:=k+1) (by lia)).2;simp only [show ((j:Int)+1)=((j+1:Nat):Int) by lia,show ((k:Int)+1)=((k+1:Nat):Int) by lia,a,b,iK] at e;lia
 .rw [if_neg h1,if_neg h1] at h
  by_cases h2:sh=2/\m<=26
  .rw [if_pos h2,if_pos h2] at h;have e:=congrArg (fun z:Str=>z.cps.toList) h;have e2:[97+((N+5*(j:Int)) % 26).toNat]=[97+((N+5*(k:Int)) % 26).toNat]:=e;simp only [List.cons.injEq,and_true] at e2;exact alX (N:=N) (by lia) (by lia) (Nat.add_left_cancel e2)
  .rw [if_neg h2,if_neg h2] at h;exact aop (by lia) (by lia) h
theorem aic{A:Str}{N m:Int}(hm:m<=41):((M3 m.toNat).map (nm86 A Z N sh m)).Nodup:=by
 rw [i4,List.pairwise_map];refine List.Pairwise.imp_of_mem (fun {x y} hx hy G4 e=>?_) (i4.mp List.nodup_range);rw [b8] at hx hy;exact G4 (alY hm (by lia) (by lia) e)
theorem akk{A:Str}(hA:A.length<=3)(hZ:Z.length<=3)(hA2:∀ x∈A.cps.toList,97<=x/\x<=122)(hZ2:∀ x∈Z.cps.toList,97<=x/\x<=122){N m:Int}(hk:(k:Int)<m):nameB (nm86 A Z N sh m k)=true:=by
 unfold nm86
 by_cases h1:sh=1/\m<=8
 .rw [if_pos h1];have a:=(nS (c:=97+(N % 26).toNat) (n:=k+1) (by lia)).2;rw [show ((k:Int)+1)=((k+1:Nat):Int) by lia];generalize Txt.mul ⟨#[97+(N % 26).toNat]⟩ ((k+1:Nat):Int)=z at a;have hl:z.length=k+1:=by
   have e:z.length=z.cps.toList.length:=by simp [Str.length]
   rw [e,a,iK]
  unfold nameB;rw [decide_eq_true (by lia),decide_eq_true (by lia),a,bH,bH,b0];intro x hx
  have:=List.eq_of_mem_replicate hx
  rw [decide_eq_true (by lia),decide_eq_true (by lia)];rfl
 .rw [if_neg h1]
  by_cases h2:sh=2/\m<=26
  .rw [if_pos h2];unfold nameB;rw [decide_eq_true (by show 1<=1;decide),decide_eq_true (by show 1<=8;decide),bH,bH,b0];intro x hx;have hx:x∈[97+((N+5*(k:Int)) % 26).toNat]:=hx
   have:=K7.mp hx
   rw [decide_eq_true (by lia),decide_eq_true (by lia)];rfl
  .rw [if_neg h2];exact alW hA hZ hA2 hZ2 N k
noncomputable def eldOf (nms:List Str) (el:List Int) (k:Nat):Option Str:=match el[k]? with
 | some e=>if e<0 then none else nms[e.toNat]?
 | none=>none
theorem nU(nd:nms.Nodup){t:Str}(h1:nms[i]?=some t)(h2:nms[j]?=some t):i=j:=by
 obtain ⟨a1,b1⟩:=J4.mp h1;obtain ⟨a2,b2⟩:=J4.mp h2
 have:=i4.mp nd
 rw [eX] at this
 rcases Nat.lt_trichotomy i j with hl | hl | hl
 .exact absurd (b1.trans b2.symm) (this i j a1 a2 hl)
 .exact hl
 .exact absurd (b2.trans b1.symm) (this j i a2 a1 hl)
structure BkIs(B:Bk)(nms:List Str)(el:List Int)(F:Nat->List Rl)(k:Nat):Prop where
 names:B.names=nms.take k
 rl:∀ (i:Nat) (t:Str),i<k->nms[i]?=some t->B.rl t=F i/\B.el t=eldOf nms el i
theorem BkIs.start(nms:List Str)(el:List Int)(F:Nat->List Rl):BkIs Bk.nil nms el F 0:=⟨rfl,fun i t h=>absurd h (Nat.not_lt_zero _)⟩
theorem BkIs.congr{B:Bk}{F G:Nat->List Rl}(x:BkIs B nms el F k)(h:∀ i<k,F i=G i):BkIs B nms el G k:=⟨x.names,fun i t hi ht=>by rw [<- h i hi];exact x.rl i t hi ht⟩
theorem BkIs.beg{B:Bk}{F:Nat->List Rl}{t:Str}(x:BkIs B nms el F i)(nd:nms.Nodup)(ht:nms[i]?=some t):BkIs (B.step (.beg t (eldOf nms el i))) nms el (fun j=>if j=i then [] else F j) (i+1):=by
 refine ⟨?_,fun j u hj hu=>?_⟩
 .show B.names++[t]=_;rw [x.names,L9 ht]
 .show (if u=t then [] else B.rl u)=(if j=i then [] else F j)/\(if u=t then eldOf nms el i else B.el u)=eldOf nms el j
  by_cases e:j=i
  .subst e
   have:u=t:=by rw [hu] at ht;exact Option.some.inj ht
   rw [if_pos this,if_pos rfl,if_pos this];exact ⟨rfl,rfl⟩
  .have G4:u≠t:=fun z=>e (nU nd hu (by rw [z];exact ht))
   rw [if_neg G4,if_neg e,if_neg G4];exact x.rl j u (by lia) hu
theorem BkIs.rule{B:Bk}{F:Nat->List Rl}{t:Str}{z:Rl}(x:BkIs B nms el F k)(nd:nms.Nodup)(ht:nms[i]?=some t)(hn:B.nw=some t):BkIs (B.step (.rule z)) nms el (fun j=>if j=i then F i++[z] else F j) k:=by
 refine ⟨x.names,fun j u hj hu=>?_⟩;show (if B.nw=some u then B.rl u++[z] else B.rl u)=(if j=i then F i++[z] else F j)/\B.el u=eldOf nms el j;obtain ⟨h1,h2⟩:=x.rl j u hj hu;refine ⟨?_,h2⟩;rw [hn]
 by_cases e:j=i
 .subst e
  have:t=u:=by rw [hu] at ht;exact (Option.some.inj ht).symm
  rw [if_pos (by rw [this]),if_pos rfl,h1]
 .have G4:¬ some t=some u:=fun z=>e (nU nd hu (by rw [ht];exact z))
  rw [if_neg G4,if_neg e,h1]
theorem Fits.elder{ls:List Ln}(h:Fits ls):∀ t x,(Bk.of ls).el t=some x->nameB x=true:=by
 have gen:∀ i,i<=ls.length->∀ t x,(Bk.of (ls.take i)).el t=some x->nameB x=true:=fun i=>by
  induction i with
  | zero=>intro _ t x hx;cases hx
  | succ i ih=>
   intro hi t x hx;have hl:ls[i]?=some ls[i]:=G8 (by lia);have hf:=h i _ hl;rw [L9 hl,aF] at hx;generalize ls[i]=l at hf hx
   cases l with
   | beg n e=>
    have hx:(if t=n then e else (Bk.of (ls.take i)).el t)=some x:=hx
    split at hx
    .exact hf.2.2 x hx
    .exact ih (by lia) t x hx
   | rule z=>exact ih (by lia) t x hx
 have:=gen ls.length (C2 _)
 rw [K0] at this;exact this
noncomputable def fst87 (z:Str):Str:=cutS z none (some 1)
noncomputable def F87 (nms:List Str) (m:Nat) (i:Nat):List Rl:=if i=m then [(("row" : Str),["a"])] else [(("row" : Str),[fst87 (nms.getD i "")])]
theorem agh(h:nameB z=true):O6 (fst87 z)=true:=by
 obtain ⟨h1,h2,h3⟩:=g8 h;have hl:z.cps.toList.length=z.length:=lenL z;have e:(fst87 z).cps.toList=z.cps.toList.take 1:=by
  unfold fst87;rw [ai8,show HT.sIx z.length 0 none=0 from rfl,show HT.sIx z.length z.length (some 1)=min 1 z.length by unfold HT.sIx;simp,List.drop_zero]
  congr 1
  lia
 cases hz:z.cps.toList with
 | nil=>rw [hz] at hl;simp at hl;lia
 | cons c r=>
  rw [hz,List.take_succ_cons,o9] at e;have hc:=h3 c (by rw [hz];exact G9);have e2:fst87 z=⟨#[c]⟩:=by
   have:(fst87 z).cps=#[c]:=by rw [<- Array.toArray_toList (xs:=(fst87 z).cps),e]
   rw [<- this]
  rw [e2];refine ai5 ?_;unfold signB;simp only [P3,decide_eq_true_eq];lia
theorem ahE{p:Str}(h:O6 p=true):Fine (("row" : Str),[p]):=⟨by simp,fun q hq=>by rw [K7.mp hq];exact h,.inr ⟨1,by simp,by simp⟩⟩
structure IW(el:List Int)(m a:Nat)(met:List Nat)(x:Option Nat):Prop where
 nd:met.Nodup
 st:(met++x.toList).head?=some a
 lk:∀ (i k:Nat),met[i]?=some k->k<m/\∃ e,el[k]?=some e/\(met++x.toList)[i+1]?=if e<0 then none else some e.toNat
 en:∀ y,x=some y->y=m\/y∈met
noncomputable def C5 (nms:List Str) (k:Nat):Str:=nms.getD k ""
noncomputable def DueT (H:Hp) (t:Addr) (nms:List Str) (m:Nat) (met:List Nat):Option Nat->Prop
 | none=>H t=some (.tup [.str "rules",.int (met.length:Nat)])
 | some y=>if y=m then H t=some (.tup [.str "name",.str (C5 nms m)]) else ∃ l,H t=some (.tup [.str "ring",.ref l])/\H l=some (.lst (((met.drop (met.idxOf y)).map (C5 nms)).map V.str))
noncomputable def ToldT (H:Hp) (t:Addr) (B:Bk) (c:List Str):Option Str->Prop
 | none=>H t=some (.tup [.str "rules",.int (c.length:Nat)])
 | some x=>if x∈B.names then ∃ l,H t=some (.tup [.str "ring",.ref l])/\H l=some (.lst ((c.drop (c.idxOf x)).map V.str)) else H t=some (.tup [.str "name",.str x])
structure Bk87(nms:List Str)(el:List Int)(m k:Nat)(B:Bk):Prop where
 is:BkIs B nms el (F87 nms m) k
 gd:B.Good 100
 el:∀ t x,B.el t=some x->nameB x=true
structure In87(nms:List Str)(el:List Int)(m:Nat):Prop where
 l1:nms.length=m+1
 nd:nms.Nodup
 nm:∀ z∈nms,nameB z=true
 l2:el.length=m
 rg:∀ e∈el,e=-1\/(0<=e/\e<=(m:Int))
 m1:1<=m
 m2:m<=40
noncomputable def amy (K:PySem.W.Frag):Sp:=fun vs H Q _=>∃ (a:Addr) (ns:List Int) (m:Nat),vs=[.ref a,.int m]/\D1 K H a (ns.map V.int)/\1<=m/\m<=40/\∀ l (el:List Int) H',H l=none->Same H H'->H' l=some (.lst (el.map V.int))->el.length=m->(∀ e∈el,e=-1\/(0<=e/\e<=(m:Int)))->Q (.ref l) H'
noncomputable def ahF:Sp:=fun vs H Q _=>∃ (a b:Addr) (nms:List Str) (el:List Int) (m:Nat),vs=[.ref a,.ref b]/\H a=some (.lst (nms.map V.str))/\H b=some (.lst (el.map V.int))/\In87 nms el m/\
 ∀ (ls:List Ln) (H':Hp),Same H H'->Fits ls->ls.length=2*m->BkIs (Bk.of ls) nms el (F87 nms m) m->Q (.str (Str.join "\n" (ls.map Ln.text))) H'
noncomputable def akl:Sp:=fun vs H Q _=>∃ (a b:Addr) (nms:List Str) (el:List Int) (m k:Nat),vs=[.ref a,.ref b,.int k]/\H a=some (.lst (nms.map V.str))/\H b=some (.lst (el.map V.int))/\In87 nms el m/\k<=m/\∀ t H' met x,Same H H'->IW el m k met x->DueT H' t nms m met x->Q (.ref t) H'
noncomputable def tY (CB:Addr):Sp:=fun vs H Q _=>∃ (b dx o e:Addr) (H0:Hp) (B:Bk) (ad:Str->Addr) (as:Str->List Addr) (k:Int) (n:Str) (c:List Str) (nx:Option Str) (nms:List Str) (el:List Int) (m j:Nat),vs=[.ref b,.str n]/\BookAt CB H0 H b dx o e B ad as k/\In87 nms el m/\Bk87 nms el m j B/\V0 n/\Walk B n c nx/\∀ t H',Same H H'->ToldT H' t B c nx->Q (.ref t) H'
noncomputable def kb87 (B:Bk):Option Str->List Bool
 | none=>[false,false,false,false]
 | some x=>[decide (x∈B.names),!decide (x∈B.names),true,false]
noncomputable def tZ (CB:Addr):Sp:=fun vs H Q _=>∃ (b dx o e:Addr) (H0:Hp) (B:Bk) (ad:Str->Addr) (as:Str->List Addr) (k:Int) (n:Str) (c:List Str) (nx:Option Str) (nms:List Str) (el:List Int) (m j:Nat),vs=[.ref b,.str n]/\BookAt CB H0 H b dx o e B ad as k/\In87 nms el m/\Bk87 nms el m j B/\V0 n/\Walk B n c nx/\∀ t H',Same H H'->H' t=some (.tup ((kb87 B nx).map V.bl))->Q (.ref t) H'
theorem aid(h:∀ z∈R,z.1=("row" : Str)):young R=R:=List.filter_eq_self.mpr fun z hz=>decide_eq_true (by rw [h z hz];decide +kernel)
noncomputable def OneR (z:Rl):Prop:=∃ p,z=(("row" : Str),[p])/\O6 p=true
theorem agU(h:∀ z∈R,OneR z){p:Str}(hp:O6 p=true):W2 R [(("row" : Str),[p])]=R++[(("row" : Str),[p])]:=by
 have hg:goneL [(("row" : Str),[p])]=[]:=by
  show (if Str.ofString "row"=k4 then J0 [] [p] else [])=[];rw [if_neg (by decide +kernel)]
 have hw:R.filterMap (N7 [])=R:=by
  clear hp hg
  induction R with
  | nil=>rfl
  | cons z R ih=>
   obtain ⟨q,rfl,_⟩:=h z G9;rw [bA,ih fun z hz=>h z (G5 _ hz)];unfold N7;rw [if_neg (show ¬ Str.ofString "row"=Str.ofString "as" by decide +kernel),show stay ((("row" : Str),[q]):Rl).1=some 0 from (by decide +kernel:stay (Str.ofString "row")=some 0)];rfl
 unfold W2;rw [hg,hw];refine aid fun z hz=>?_
 rcases J8.mp hz with hz | hz
 .obtain ⟨q,rfl,_⟩:=h z hz;rfl
 .rw [K7.mp hz]
theorem uA{B:Bk} : ∀ {c:List Str},(∀ t∈c,∃ z,B.rl t=[z]/\OneR z)->(jZ B c).length=c.length/\∀ z∈jZ B c,OneR z:=fun {c} h=>by
 have gen:∀ (l:List Str) (R:List Rl),(∀ t∈l,∃ z,B.rl t=[z]/\OneR z)->(∀ z∈R,OneR z)->(l.foldl (fun R t=>W2 R (B.rl t)) R).length=R.length+l.length/\∀ z∈l.foldl (fun R t=>W2 R (B.rl t)) R,OneR z:=fun l=>by
  induction l with
  | nil=>intro R _ hR;exact ⟨rfl,hR⟩
  | cons t l ih=>
   intro R hl hR;obtain ⟨z,e,hz⟩:=hl t G9;obtain ⟨p,rfl,hp⟩:=id hz;rw [List.foldl_cons,e,agU hR hp];obtain ⟨h1,h2⟩:=ih (R++[(("row" : Str),[p])]) (fun t ht=>hl t (G5 _ ht)) fun z hz2=>(J8.mp hz2).elim (hR z) fun q=>by rw [K7.mp q];exact hz
   refine ⟨?_,h2⟩;rw [h1,E3,o0,E8];lia
 obtain ⟨h1,h2⟩:=gen c.reverse [] (fun t ht=>h t (List.mem_reverse.mp ht)) (by simp);refine ⟨?_,h2⟩;unfold jZ;rw [h1,List.length_reverse]
 simp
theorem Bk87.one{B:Bk}(h:Bk87 nms el m k B)(hi:In87 nms el m):∀ t∈B.names,∃ z,B.rl t=[z]/\OneR z:=fun t ht=>by
 rw [h.is.names] at ht;obtain ⟨i,C1,e⟩:=X5.mp ht;rw [K3] at C1;have ei:nms[i]?=some t:=by
  rw [iO] at e;rw [<- e];exact G8 (by lia)
 rw [(h.is.rl i t (by lia) ei).1];unfold F87
 split
 .exact ⟨_,rfl, "a",rfl,by decide +kernel⟩
 .refine ⟨_,rfl,_,rfl,agh ?_⟩;rw [X3,ei];exact hi.nm t (G2 ei)
theorem akm(h:∀ z∈R,OneR z)(hl:R.length<=100):GoodR (fun _=>"letter") (fun _=>0) (fun _=>0) R:=by
 have hw:∀ z∈R,z.1=("row" : Str):=fun z hz=>by obtain ⟨p,rfl,_⟩:=h z hz;rfl
 have pr:∀ e∈E1 R,e.2=("letter" : Str)/\O6 e.1=true:=fun e he=>by
  obtain ⟨z,hz,he⟩:=w5.mp he;obtain ⟨p,rfl,hp⟩:=h z hz;rw [(@bU (("row" : Str),[p])).2.2 (.inl rfl)] at he;obtain ⟨q,hq,rfl⟩:=G6.mp he;rw [K7.mp hq];exact ⟨(by decide +kernel:jobD (Str.ofString "row")=Str.ofString "letter"),hp⟩
 have plen:(E1 R).length<=R.length:=by
  clear hl hw pr
  induction R with
  | nil=>exact C2 _
  | cons z R ih=>
   obtain ⟨p,rfl,_⟩:=h z G9;have h3:=ih fun z' h'=>h z' (G5 _ h')
   rw [tH,E3,(@bU (("row" : Str),[p])).2.2 (.inl rfl),E8];simp only [A4,E8,T7];lia
 have hf:hasW R "figures"=false:=by
  unfold hasW;rw [List.any_eq_false];intro z hz;rw [decide_eq_true_iff,hw z hz];decide +kernel
 have rows:∀ w:Str,(rowsW R w).flatten.length<=R.length/\edges (rowsW R w)=[]:=fun w=>by
  clear hl hw pr plen hf
  induction R with
  | nil=>exact ⟨C2 _,rfl⟩
  | cons z R ih=>
   obtain ⟨p,rfl,_⟩:=h z G9;obtain ⟨h3,h4⟩:=ih fun z' h'=>h z' (G5 _ h')
   unfold rowsW at h3 h4 ⊢
   rw [List.filter_cons,E8]
   split
   .rw [D0,bB,E3];refine ⟨by simp only [E8,T7];lia,?_⟩;unfold edges at h4 ⊢
    rw [bC,h4];rfl
   .exact ⟨by lia,h4⟩
 refine ⟨by lia,by lia,fun i p j e=>?_,fun hb=>?_,fun z hz=>?_,fun z hz e=>?_,fun z hz e=>?_,fun z hz e=>?_,fun z hz e=>?_,F6 (rows _).1 (by lia),F6 (rows _).1 (by lia),fun e he=>?_,fun e he=>?_⟩
 .obtain ⟨h1,h2⟩:=pr _ (G2 e);refine ⟨h1,fun _=>(by rw [show j="letter" from h1];decide +kernel),fun q=>(by rw [hf] at q;cases q),?_⟩
  have:=(jC h2).2.2
  have:p.length<=2:=this
  lia
 .obtain ⟨e,he,e1⟩:=G6.mp hb
  have:=(pr e he).2
  rw [e1] at this;exact absurd this (by decide +kernel)
 .obtain ⟨p,rfl,_⟩:=h z hz;show 1<=1000;decide
 .obtain ⟨p,rfl,_⟩:=h z hz;simp
 .rw [hw z hz] at e;exact absurd e (by decide +kernel)
 .rw [hw z hz] at e;exact absurd e (by decide +kernel)
 .rw [hw z hz] at e;exact absurd e (by decide +kernel)
 .rw [(rows _).2] at he;cases he
 .rw [(rows _).2] at he;cases he
theorem uB{B:Bk} : ∀ {c:List Str},(∀ t∈c,∃ z,B.rl t=[z]/\OneR z)->(c.map fun t=>(B.rl t).length).sum=c.length
 | [],_=>rfl
 | t::c,h=>by
  obtain ⟨z,e,_⟩:=h t G9;rw [D0,p0,e,uB fun t ht=>h t (G5 _ ht),E8,E8,T7];lia
structure PW(el:List Int)(m a:Nat)(met:List Nat)(at':Int):Prop where
 nd:met.Nodup
 st:(met.map (fun k:Nat=>(k:Int))++[at']).head?=some (a:Int)
 lk:∀ (i k:Nat),met[i]?=some k->k<m/\∃ e,el[k]?=some e/\(met.map (fun k:Nat=>(k:Int))++[at'])[i+1]?=some e
theorem PW.start(el:List Int)(m a:Nat):PW el m a [] (a:Int):=⟨by simp,rfl,fun i k h=>by simp at h⟩
theorem PW.step{a:Nat}{y:Nat}{e:Int}(h:PW el m a met (y:Int))(hn:y∉met)(hy:y<m)(he:el[y]?=some e):PW el m a (met++[y]) e:=by
 have e1:(met++[y]).map (fun k:Nat=>(k:Int))=met.map (fun k:Nat=>(k:Int))++[(y:Int)]:=by rw [E5];rfl
 refine ⟨?_,?_,fun i k hk=>?_⟩
 .rw [o3];exact ⟨h.nd,by simp,fun a ha b hb e=>hn (by rw [<- K7.mp hb,<- e];exact ha)⟩
 .rw [e1,i5,List.head?_append]
  have:=h.st
  rw [List.head?_append] at this;cases hm:(met.map fun k:Nat=>(k:Int)).head? with
  | none=>rw [hm] at this;simpa using this
  | some v=>rw [hm] at this;simpa using this
 .rw [e1]
  by_cases hi:i<met.length
  .rw [Z9 hi] at hk;obtain ⟨h1,e',h2,h3⟩:=h.lk i k hk;refine ⟨h1,e',h2,?_⟩;rw [Z9 (by simp;lia)];exact h3
  .have eI:i=met.length:=by
    have:=(J4.mp hk).1
    simp at this;lia
   subst eI;obtain rfl:y=k:=by simpa using hk
   refine ⟨hy,e,he,?_⟩;rw [X2 (by simp)]
   simp
theorem PW.out{a:Nat}{at':Int}(h:PW el m a met at'):(at'<0->IW el m a met none)/\(∀ y:Nat,at'=y->(y=m\/y∈met)->IW el m a met (some y)):=by
 have key:∀ x:Option Nat,(at'<0/\x=none\/∃ y:Nat,at'=y/\x=some y)->(met++x.toList).head?=some a/\∀ (i k:Nat),met[i]?=some k->k<m/\∃ e,el[k]?=some e/\(met++x.toList)[i+1]?=if e<0 then none else some e.toNat:=fun x hx=>by
  refine ⟨?_,fun i k hk=>?_⟩
  .have hs:=h.st
   cases met with
   | nil=>
    have:at'=(a:Int):=by simpa using hs
    rcases hx with ⟨h1,_⟩ | ⟨y,h1,rfl⟩
    .lia
    .have:y=a:=by lia
     rw [this];rfl
   | cons v r=>
    have:(v:Int)=(a:Int):=by simpa using hs
    have:v=a:=by lia
    rw [this];rfl
  .obtain ⟨h1,e,h2,h3⟩:=h.lk i k hk;refine ⟨h1,e,h2,?_⟩;have hi:=(J4.mp hk).1
   by_cases hl:i+1<met.length
   .rw [Z9 (by simpa using hl),M0] at h3;rw [Z9 hl];have hg:met[i+1]?=some met[i+1]:=G8 hl;rw [hg] at h3 ⊢
    have h3:((met[i+1]:Nat):Int)=e:=Option.some.inj h3;rw [<- h3,if_neg (by lia)];rfl
   .have W4:i+1=met.length:=by lia
    rw [X2 (by simp;lia)] at h3;have h3:at'=e:=by simpa [W4] using h3
    rw [X2 (by lia),W4,Nat.sub_self]
    rcases hx with ⟨h4,rfl⟩ | ⟨y,h4,rfl⟩
    .rw [if_pos (by lia)];rfl
    .rw [if_neg (by lia),<- h3,h4];rfl
 refine ⟨fun hn=>?_,fun y hy hen=>?_⟩
 .obtain ⟨k1,k2⟩:=key none (.inl ⟨hn,rfl⟩);exact ⟨h.nd,k1,k2,fun y hy=>by cases hy⟩
 .obtain ⟨k1,k2⟩:=key (some y) (.inr ⟨y,hy,rfl⟩);exact ⟨h.nd,k1,k2,fun z hz=>by obtain rfl:=Option.some.inj hz;exact hen⟩
theorem ahG(z:Nat):∀ acc:List Nat,X7 (.int (z:Int)) ((acc.map fun k:Nat=>(k:Int)).map V.int)=decide (z∈acc)
 | []=>by simp [X7]
 | y::acc=>by
  have ih:=ahG z acc;unfold X7 at ih ⊢
  rw [D0,D0,p4,ih];show (((y:Int)==(z:Int)) || decide (z∈acc))=_
  by_cases e:y=z
  .subst e
   simp
  .have e1:((y:Int)==(z:Int))=false:=by
    have:¬ ((y:Int)=(z:Int)):=by lia
    simpa using this
   rw [e1,Bool.false_or]
   by_cases h:z∈acc
   .rw [decide_eq_true h,decide_eq_true (G5 _ h)]
   .rw [decide_eq_false h,decide_eq_false];intro q
    rcases D7.mp q with q | q
    .exact e q.symm
    .exact h q
theorem aeZ:∀ acc:List Int,(acc.map V.int).all flatV=true
 | []=>rfl
 | _::acc=>by rw [D0,List.all_cons,aeZ acc];rfl
theorem ahH(y:Nat):∀ met:List Nat,(met.map fun k:Nat=>(k:Int)).idxOf (y:Int)=met.idxOf y
 | []=>rfl
 | v::r=>by
  rw [D0,List.idxOf_cons,List.idxOf_cons,ahH y r]
  by_cases h:v=y
  .subst h;simp
  .have h2:¬ ((v:Int)=(y:Int)):=by lia
   have e1:((v:Int)==(y:Int))=false:=by simpa using h2
   have e2:(v==y)=false:=by simpa using h
   rw [e1,e2]
theorem ahI(p:Str):Str.ofString "row "++p=(Ln.rule (("row" : Str),[p])).text:=by
 show _=Str.join " " [Str.ofString "row",p];simp only [Str.join,List.foldl]
 congr 1
theorem V1(h:i<nms.length):nms[i]?=some (C5 nms i):=by
 unfold C5;rw [X3,G8 h];rfl
theorem nV(hi:In87 nms el m)(h:i<=m)(hj:j<=m+1):C5 nms i∈nms.take j↔i<j:=by
 have hl:=hi.l1
 constructor
 .intro hm;obtain ⟨i',C1,e⟩:=X5.mp hm;rw [K3] at C1;rw [iO] at e;have e2:nms[i']?=some (C5 nms i):=by rw [<- e];exact G8 (by lia)
  have:=nU hi.nd (V1 (nms:=nms) (i:=i) (by lia)) e2
  lia
 .intro C1;refine G2 (i:=i) ?_;rw [List.getElem?_take,if_pos C1,V1 (by lia)]
theorem amz(hi:In87 nms el m){e:Int}(h:el[k]?=some e):eldOf nms el k=if e<0 then none else some (C5 nms e.toNat):=by
 have hl:=hi.l1;unfold eldOf;rw [h];show (if e<0 then none else nms[e.toNat]?)=_
 by_cases h0:e<0
 .rw [if_pos h0,if_pos h0]
 .rw [if_neg h0,if_neg h0]
  have:=hi.rg e (G2 h)
  exact V1 (by lia)
theorem akn(f:Nat->Str)(l:List Nat)(x:Option Nat):l.map f++(x.map f).toList=(l++x.toList).map f:=by
 cases x <;> simp
theorem ako(hi:In87 nms el m)(h1:i<=m)(h2:j<=m)(e:C5 nms i=C5 nms j):i=j:=by
 have hl:=hi.l1;exact nU hi.nd (V1 (by lia)) (by rw [e];exact V1 (by lia))
theorem agi(hi:In87 nms el m){l:List Nat}(nd:l.Nodup)(h:∀ k∈l,k<=m):(l.map (C5 nms)).Nodup:=by
 rw [i4,List.pairwise_map];exact List.Pairwise.imp_of_mem (fun {x y} hx hy G4 e=>G4 (ako hi (h x hx) (h y hy) e)) (i4.mp nd)
theorem IW.lt{a:Nat}{x:Option Nat}(h:IW el m a met x):∀ k∈met,k<m:=fun k hk=>by
 obtain ⟨i,hi⟩:=n9.mp hk;exact (h.lk i k hi).1
theorem IW.walk{a:Nat}{x:Option Nat}{B:Bk}(hi:In87 nms el m)(hb:Bk87 nms el m j B)(h1:m<=j)(h2:j<=m+1)(h:IW el m a met x)(hx:x=some m->j=m) :
  Walk B (C5 nms a) (met.map (C5 nms)) (x.map (C5 nms))/\∀ y,x=some y->(y=m↔C5 nms y∉B.names):=by
 have C1:=h.lt;have hy:∀ y,x=some y->y<=m/\(y=m↔C5 nms y∉B.names):=fun y e=>by
  have hle:y<=m:=by
   rcases h.en y e with q | q
   .lia
   .have:=C1 y q;lia
  refine ⟨hle,?_⟩;rw [hb.is.names,nV hi hle h2]
  constructor
  .intro q;have:=hx (by rw [e,q]);lia
  .intro q;lia
 refine ⟨⟨agi hi h.nd fun k hk=>by have:=C1 k hk;lia,?_,fun i t ht=>?_,fun z hz=>?_⟩,fun y e=>(hy y e).2⟩
 .rw [akn,List.head?_map,h.st];rfl
 .rw [M0] at ht;cases hk:met[i]? with
  | none=>rw [hk] at ht;cases ht
  | some k=>
   rw [hk] at ht;obtain rfl:=Option.some.inj ht;obtain ⟨k1,e,k2,k3⟩:=h.lk i k hk;refine ⟨by rw [hb.is.names];exact (nV hi (by lia) h2).mpr (by lia),?_⟩;rw [(hb.is.rl k (C5 nms k) (by lia) (V1 (by have:=hi.l1;lia))).2,amz hi k2,akn,M0,k3]
   split <;> rfl
 .cases x with
  | none=>cases hz
  | some y=>
   obtain rfl:=Option.some.inj hz
   rcases h.en y rfl with q | q
   .exact .inl ((hy y rfl).2.mp q)
   .exact .inr (G6.mpr ⟨y,q,rfl⟩)
theorem IW.mended{a:Nat}{B:Bk}(hi:In87 nms el m)(hb:Bk87 nms el m (m+1) B)(h:IW el m a met (some m)):Walk B (C5 nms a) ((met++[m]).map (C5 nms)) none:=by
 have C1:=h.lt;have Q5:m∉met:=fun q=>by have:=C1 m q;lia
 have nd:(met++[m]).Nodup:=by
  rw [o3];exact ⟨h.nd,by simp,fun a ha b hb e=>Q5 (by rw [<- K7.mp hb,<- e];exact ha)⟩
 refine ⟨agi hi nd fun k hk=>?_,?_,fun i t ht=>?_,fun z hz=>by cases hz⟩
 .rcases J8.mp hk with q | q
  .have:=C1 k q;lia
  .rw [K7.mp q];exact C2 _
 .have:=h.st
  rw [show (none:Option Str).toList=[] from rfl,M9,List.head?_map];rw [show (some m).toList=[m] from rfl] at this;rw [this];rfl
 .rw [show (none:Option Str).toList=[] from rfl,M9];rw [M0] at ht;have lG:∃ k,(met++[m])[i]?=some k/\C5 nms k=t:=by
   cases hk:(met++[m])[i]? with
   | none=>rw [hk] at ht;cases ht
   | some k=>rw [hk] at ht;exact ⟨k,rfl,Option.some.inj ht⟩
  obtain ⟨k,hk,rfl⟩:=lG
  by_cases hl:i<met.length
  .have pG:=hk;rw [Z9 hl] at pG;obtain ⟨k1,e,k2,k3⟩:=h.lk i k pG;refine ⟨by rw [hb.is.names];exact (nV hi (by lia) (C2 _)).mpr (by lia),?_⟩;rw [(hb.is.rl k (C5 nms k) (by lia) (V1 (by have:=hi.l1;lia))).2,amz hi k2,M0];rw [show (some m).toList=[m] from rfl] at k3;rw [k3]
   split <;> rfl
  .have eI:i=met.length:=by
    have:=(J4.mp hk).1
    simp at this;lia
   subst eI;obtain rfl:m=k:=by simpa using hk
   refine ⟨by rw [hb.is.names];exact (nV hi (C2 _) (C2 _)).mpr (by lia),?_⟩;rw [(hb.is.rl m (C5 nms m) (by lia) (V1 (by have:=hi.l1;lia))).2]
   have:eldOf nms el m=none:=by
    unfold eldOf;rw [List.getElem?_eq_none (by have:=hi.l2;lia)]
   rw [this]
   simp
theorem akp(hi:In87 nms el m){y:Nat}(hy:y<=m):∀ {met:List Nat},(∀ k∈met,k<=m)->(met.map (C5 nms)).idxOf (C5 nms y)=met.idxOf y
 | [],_=>rfl
 | v::r,h=>by
  rw [D0,List.idxOf_cons,List.idxOf_cons,akp hi hy fun k hk=>h k (G5 _ hk)]
  by_cases e:v=y
  .subst e;simp
  .have e1:(C5 nms v==C5 nms y)=false:=by
    have:¬ C5 nms v=C5 nms y:=fun q=>e (ako hi (h v G9) hy q)
    simpa using this
   have e2:(v==y)=false:=by simpa using e
   rw [e1,e2]
noncomputable def dueD (nms:List Str) (m:Nat) (met:List Nat):Option Nat->PyData
 | none=>.tuple [.str "rules",.int (met.length:Nat)]
 | some y=>if y=m then .tuple [.str "name",.str (C5 nms m)] else .tuple [.str "ring",.list (((met.drop (met.idxOf y)).map (C5 nms)).map .str)]
noncomputable def dueW (m:Nat):Option Nat->Str
 | none=>"rules"
 | some y=>if y=m then "name" else "ring"
theorem nm_ok(hi:In87 nms el m)(h:k<=m):R0 (C5 nms k)=true:=(gM (hi.nm _ (G2 (V1 (by have:=hi.l1;lia))))).2
theorem DueT.same{t:Addr}{x:Option Nat}(h:DueT H t nms m met x)(S:Same H H'):DueT H' t nms m met x:=by
 cases x with
 | none=>exact S _ _ h
 | some y=>
  have h:if y=m then H t=some (.tup [.str "name",.str (C5 nms m)]) else ∃ l,H t=some (.tup [.str "ring",.ref l])/\H l=some (.lst (((met.drop (met.idxOf y)).map (C5 nms)).map V.str)):=h
  show if y=m then _ else _
  by_cases e:y=m
  .rw [if_pos e] at h ⊢;exact S _ _ h
  .rw [if_neg e] at h ⊢
   obtain ⟨l,h1,h2⟩:=h;exact ⟨l,S _ _ h1,S _ _ h2⟩
theorem DueT.dn{t:Addr}{x:Option Nat}(hi:In87 nms el m)(C1:∀ k∈met,k<m)(h:DueT H t nms m met x):Dn K H (.ref t) (dueD nms m met x)/\∃ v,H t=some (.tup [.str (dueW m x),v]):=by
 cases x with
 | none=>
  have h:H t=some (.tup [.str "rules",.int (met.length:Nat)]):=h;exact ⟨.tup (.of h) (.cons (.str _ (by decide +kernel)) (.cons (.int _) .nil)),_,h⟩
 | some y=>
  have h:if y=m then H t=some (.tup [.str "name",.str (C5 nms m)]) else ∃ l,H t=some (.tup [.str "ring",.ref l])/\H l=some (.lst (((met.drop (met.idxOf y)).map (C5 nms)).map V.str)):=h
  unfold dueD dueW
  dsimp only
  by_cases e:y=m
  .rw [if_pos e] at h ⊢
   rw [if_pos e];exact ⟨.tup (.of h) (.cons (.str _ (by decide +kernel)) (.cons (.str _ (nm_ok hi (C2 _))) .nil)),_,h⟩
  .rw [if_neg e] at h ⊢
   rw [if_neg e];obtain ⟨l,h1,h2⟩:=h;refine ⟨.tup (.of h1) (.cons (.str _ (by decide +kernel)) (.cons (.lst (.of h2) (rL fun z hz=>?_)) .nil)),_,h1⟩;obtain ⟨k,hk,rfl⟩:=G6.mp hz;exact nm_ok hi (by have:=C1 k (mC hk);lia)
theorem uam{t:Addr}{x:Option Nat}{B:Bk}(hi:In87 nms el m)(C1:∀ k∈met,k<m)(hx:∀ y,x=some y->(y=m↔C5 nms y∉B.names))(hy:∀ y,x=some y->y<=m)(h:ToldT H t B (met.map (C5 nms)) (x.map (C5 nms))):DueT H t nms m met x:=by
 cases x with
 | none=>
  have h:H t=some (.tup [.str "rules",.int ((met.map (C5 nms)).length:Nat)]):=h;rw [A4] at h;exact h
 | some y=>
  have h:if C5 nms y∈B.names then ∃ l,H t=some (.tup [.str "ring",.ref l])/\H l=some (.lst (((met.map (C5 nms)).drop ((met.map (C5 nms)).idxOf (C5 nms y))).map V.str)) else H t=some (.tup [.str "name",.str (C5 nms y)]):=h
  show if y=m then _ else _
  by_cases e:y=m
  .rw [if_neg ((hx y rfl).mp e)] at h;rw [if_pos e,h,e]
  .have L5:C5 nms y∈B.names:=Classical.byContradiction fun q=>e ((hx y rfl).mpr q)
   rw [if_pos L5,akp hi (hy y rfl) fun k hk=>by have:=C1 k hk;lia,<- w6] at h;rw [if_neg e];exact h
theorem nW(nms:List Str)(m:Nat)(met:List Nat)(x:Option Nat):(dueD nms m met x).eqv (dueD nms m met x)=true/\(dueD nms m met x).depth<=60:=by
 unfold dueD
 cases x with
 | none=>exact ⟨by simp [U7,i8],by simp [bI,e9]⟩
 | some y=>
  dsimp only
  split
  .exact ⟨by simp [U7,i8],by simp [bI,e9]⟩
  .refine ⟨?_,?_⟩
   .rw [U7,i8,i8,i8,ale];simp [U7]
   .simp only [bI,e9,zY];decide
theorem kb_is{B:Bk}{x:Option Nat}(hx:∀ y,x=some y->(y=m↔C5 nms y∉B.names)):kb87 B (x.map (C5 nms))=[decide (dueW m x="ring"),decide (dueW m x="name"),!decide (dueW m x="rules"),false]:=by
 cases x with
 | none=>
  show ([false,false,false,false]:List Bool)=[decide (Str.ofString "rules"=Str.ofString "ring"),decide (Str.ofString "rules"=Str.ofString "name"),!decide (Str.ofString "rules"=Str.ofString "rules"),false];decide +kernel
 | some y=>
  show [decide (C5 nms y∈B.names),!decide (C5 nms y∈B.names),true,false]=_
  by_cases e:y=m
  .have hd:dueW m (some y)="name":=if_pos e;rw [hd,decide_eq_false ((hx y rfl).mp e)];decide +kernel
  .have L5:C5 nms y∈B.names:=Classical.byContradiction fun q=>e ((hx y rfl).mpr q)
   have hd:dueW m (some y)="ring":=if_neg e;rw [hd,decide_eq_true L5];decide +kernel
theorem uC(sep y:Str):∀ {xs:List Str},xs≠[]->Str.join sep (xs++[y])=Str.join sep xs++sep++y
 | [],h=>absurd rfl h
 | [z],_=>rfl
 | z::w::r,_=>by
  show z++sep++Str.join sep (w::r++[y])=z++sep++Str.join sep (w::r)++sep++y;rw [uC sep y (by simp)];simp only [Str.append_assoc]
theorem akq{ls:List Ln}(h:ls≠[])(nm:Str):Str.join "\n" (ls.map Ln.text)++Str.ofString "\norder "++nm++Str.ofString "\nrow a"=Str.join "\n" ((ls++[Ln.beg nm none]++[Ln.rule (("row" : Str),["a"])]).map Ln.text):=by
 rw [E5,E5,D0,i7,D0,i7,uC _ _ (by simp),uC _ _ (by simpa using h),<- ahC,<- ahI];rw [show Str.ofString "\norder "=Str.ofString "\n"++Str.ofString "order " by decide +kernel,show Str.ofString "\nrow a"=Str.ofString "\n"++(Str.ofString "row "++Str.ofString "a") by decide +kernel];simp only [Str.append_assoc]
theorem alZ{ls:List Ln}(h:∀ l∈ls,LnOk l):(Str.join "\n" (ls.map Ln.text)).length<=4001*ls.length:=by
 have h1:=PySem.StrLaws.join_length_le "\n" (ls.map Ln.text);have h2:∀ ls:List Ln,(∀ l∈ls,LnOk l)->((ls.map Ln.text).map (·.length)).sum<=4000*ls.length:=by
  intro ls
  induction ls with
  | nil=>intro _;simp
  | cons l ls ih=>
   intro h
   have:=ih fun y hy=>h y (G5 _ hy)
   have h3:=Ln.len (h l G9);rw [D0,D0,p0,E8];lia
 have h3:=h2 ls h;rw [show ("\n" : Str).length=1 from rfl,A4] at h1;lia
theorem ahK{B:Bk}(h:z∉B.names):Walk B z [] (some z):=⟨by simp,rfl,fun i t hi=>by simp at hi,fun x hx=>by obtain rfl:=Option.some.inj hx;exact .inl h⟩
theorem al0{x:Option Nat}(h:dueW m x=Str.ofString "name"):x=some m:=by
 cases x with
 | none=>exact absurd (show Str.ofString "rules"=Str.ofString "name" from h) (by decide +kernel)
 | some y=>
  have h:(if y=m then Str.ofString "name" else Str.ofString "ring")=Str.ofString "name":=h
  by_cases e:y=m
  .rw [e]
  .rw [if_neg e] at h;exact absurd h (by decide +kernel)
theorem aie(h:nameB z=true):V0 (z++Str.ofString " ")/\nameB (z++Str.ofString " ")=false:=by
 obtain ⟨h1,h2,h3⟩:=g8 h;have hs:=gM h;have hl:(z++Str.ofString " ").length=z.length+1:=by rw [Str.length_append];rfl
 refine ⟨⟨by lia,?_⟩,?_⟩
 .have e:(z++Str.ofString " ").cps=z.cps++#[32]:=rfl
  have:=hs.2
  unfold R0 at this ⊢
  rw [e,Array.all_append,this];decide +kernel
 .cases hb:nameB (z++Str.ofString " ") with
  | false=>rfl
  | true=>
   have:=(g8 hb).2.2 32 (by rw [show (z++Str.ofString " ").cps=z.cps++#[32] from rfl];simp)
   lia
theorem al1:∀ c,97<=c->c<=122->PySem.Unicode.upperOf c=[c-32]:=fun c h1 h2=>by
 have:∀ k∈M3 26,PySem.Unicode.upperOf (97+k)=[97+k-32]:=by decide +kernel
 have:=this (c-97) (b8.mpr (by lia))
 rw [show 97+(c-97)=c by lia] at this;exact this
theorem aif(h:∀ c∈z.cps.toList,97<=c/\c<=122):(Txt.upper z).cps.toList=z.cps.toList.map (· - 32):=by
 have e:z.cps.mapIdx (fun _ c=>(PySem.Unicode.upperOf c).toArray)=z.cps.map fun c=>(PySem.Unicode.upperOf c).toArray:=by
  apply Array.ext
  .simp
  .intro i h1 h2
   simp
 show ((z.cps.mapIdx fun _ c=>(PySem.Unicode.upperOf c).toArray).flatten).toList=_;rw [e,Array.toList_flatten,Array.toList_map,w8];generalize z.cps.toList=l at h;clear e
 induction l with
 | nil=>rfl
 | cons c r ih=>
  have hc:=h c G9;rw [D0,bB,ih fun c hc=>h c (G5 _ hc),D0];show (PySem.Unicode.upperOf c).toArray.toList++_=_;rw [al1 c hc.1 hc.2];rfl
theorem aig(h:nameB z=true):PySem.Builtin.Str.tooLong (Txt.upper z).length=false/\V0 (Txt.upper z)/\nameB (Txt.upper z)=false/\True:=by
 obtain ⟨h1,h2,h3⟩:=g8 h;have e:=aif h3;have hl:(Txt.upper z).length=z.length:=by rw [<- lenL,e,A4,lenL]
 refine ⟨?_,⟨by lia,?_⟩,?_,trivial⟩
 .rw [hl];show decide (z.length > sizeLine)=false;rw [decide_eq_false_iff_not,sizeLine_eq];lia
 .unfold R0;rw [qH];intro c hc;have hc:=iT.mpr hc;rw [e] at hc;obtain ⟨d,hd,rfl⟩:=G6.mp hc
  have:=h3 d hd
  simp only [decide_eq_true_eq];lia
 .cases hb:nameB (Txt.upper z) with
  | false=>rfl
  | true=>
   cases hz:z.cps.toList with
   | nil=>have:=lenL z;rw [hz] at this;simp at this;lia
   | cons c r=>
    have h4:=(g8 hb).2.2 (c-32) (by rw [e,hz];simp)
    have:=h3 c (by rw [hz];simp)
    lia
noncomputable def ahL (CB:Addr):Sp:=fun vs H Q _=>∃ (b a t dx o e:Addr) (H0:Hp) (B:Bk) (ad:Str->Addr) (as:Str->List Addr) (k:Int) (nms:List Str) (el:List Int) (m j i:Nat) (met:List Nat) (x:Option Nat),vs=[.ref b,.ref a,.ref t,.int i]/\BookAt CB H0 H b dx o e B ad as k/\H a=some (.lst (nms.map V.str))/\In87 nms el m/\Bk87 nms el m j B/\m<=j/\j<=m+1/\i<=m/\IW el m i met x/\(x=some m->j=m)/\DueT H t nms m met x/\∀ H',Same H H'->Q (.bl true) H'
noncomputable def uD (C CB CN CR:Addr):Sp:=fun vs H Q E=>∃ (b dx o e:Addr) (H0:Hp) (B:Bk) (ad:Str->Addr) (as:Str->List Addr) (k:Int) (n:Str) (c:List Str) (nx:Option Str),vs=[.ref b,.str n]/\BookAt CB H0 H b dx o e B ad as k/\B.Good 100/\(∀ t∈B.names,nameB t=true)/\n.length<=10/\R0 n=true/\(∀ t x,B.el t=some x->nameB x=true)/\Walk B n c nx/\WalkX CN CR B c nx H E/\(c.map fun t=>(B.rl t).length).sum<=400/\(nx=none->∃ g r1 r2,GoodR g r1 r2 (jZ B c))/\
 (nx=none->∀ x H',Same H H'->Q (.ref x) H')
section
variable {P:Program} {w:World} {K:PySem.W.Frag} {mg:Str->Option Value} {base:Heap} {C:Addr} {C_Book:Addr} {C_NoName:Addr} {C_Ring:Addr}
theorem adl:FnScope ["self", "name"] ["self", "name"] (C3 bX):=G1
abbrev VS(N:List Str)(s:Stmt)(x:Str)(n:Nat):Prop:=∀ {X:Cx} {pos:Pos},X.N=N->X.env.scope=C3 s->QE X (.Name x pos) (tVar n)
theorem vq{s:Stmt}{x:Str}(h:(decide (N[n]?=some x)&&visB (C3 s) x && !(x==("__debug__" : Str)) && !(x==("__classdict__" : Str)))=true:=by decide +kernel):VS N s x n:=fun hN hs=>qvd hN hs h
theorem vi{s:Stmt}{x:Str}{pos:Pos}(h:VS N s x n)(h1:X.N=N:=by rfl)(h2:X.env.scope=C3 s:=by rfl):QE X (.Name x pos) (tVar n):=h h1 h2
abbrev LS(s:Stmt)(x:Str):Prop:=p6 (C3 s) x
theorem lq{s:Stmt}{x:Str}(h:(C3 s).names.lookup x=some .local\/(C3 s).names.lookup x=some .cell:=by decide +kernel):LS s x:=h
abbrev acl:List Str:=["self", "name"]
theorem vaa:VS acl bX "self" 0:=vq
theorem vab:VS acl bX "name" 1:=vq
theorem adm(F:FunD K "__init__" "NoName.__init__" bX f fd)(T:Txt P w K mg C C_Book C_NoName C_Ring):FnOk P w K mg base D9 1 f fd ["self", "name"] (tV K C_NoName "name"):=by
 refine F.ok adl ?_ ?_
 .rintro _ _ _ _ ⟨m,x,z,f,rfl,_⟩;rfl
 .intro cdv A outer s H vs Q E hr h;have C6:=hu_of hr;have hu:=hr.units;obtain ⟨aL,mL,NL⟩:=T.lore;refine ⟨_,QSs.out (A5 (Q1 (aj1 NL mL (vi vaa) (aeU D4 (aog (vi vab))) (K:=K)))
   (A7 (aj2 (vi vaa) (vi vab) (K:=K)))),?_⟩
  obtain ⟨m,x,z,f,rfl,hx,M,n,hz,hok,q⟩:=h;walk_at "rd";exact ⟨by decide +kernel,hz,hok,fun z1 h1=>⟨by lia,fun z2=>⟨m,C_NoName,hx,⟨f,M⟩,m,C_NoName,hx,⟨f,M⟩,n,q⟩⟩⟩
theorem adJ:FnScope ["self", "around"] ["self", "around"] (C3 bY):=G1
abbrev acG:List Str:=["self", "around"]
theorem vac:VS acG bY "self" 0:=vq
theorem vad:VS acG bY "around" 1:=vq
theorem adK(F:FunD K "__init__" "Ring.__init__" bY f fd)(T:Txt P w K mg C C_Book C_NoName C_Ring):FnOk P w K mg base D9 1 f fd ["self", "around"] (tT K C_Ring "around"):=by
 refine F.ok adJ ?_ ?_
 .rintro _ _ _ _ ⟨m,x,l,f,zs,rfl,_⟩;rfl
 .intro cdv A outer s H vs Q E hr h;have C6:=hu_of hr;have hu:=hr.units;obtain ⟨aL,mL,NL⟩:=T.lore;refine ⟨_,QSs.out (A5 (Q1 (aj1 NL mL (vi vac) (aeU D4 (aoj hr (vi vad))) (K:=K)))
   (A7 (aj2 (vi vac) (qe_cT (jI (K:=K) (calm:=true)) T.b_list gC (qa_c (vi vad) A2)) (K:=K)))),?_⟩
  obtain ⟨m,x,l,f,zs,rfl,hx,M,n,hl,hn,hs,q⟩:=h;walk_at "rd";exact ⟨by decide +kernel,zs,hl,hn,hs,fun z hz=>⟨hz,fun z2=>⟨m,C_Ring,hx,⟨f,M⟩,rListR.l (.inl (.of hl)) fun p np=>⟨m,C_Ring,C4 hx np,⟨f,M⟩,n,fun dx nd ne=>q p dx np nd ne⟩⟩⟩⟩
theorem sc_told:FnScope ["rows", "seen", "row", "piece"] ["rows"] (C3 r8):=G1
abbrev nX:List Str:=["rows", "seen", "row", "piece"]
theorem vae:VS nX r8 "rows" 0:=vq
theorem vaf:VS nX r8 "seen" 1:=vq
theorem vag:VS nX r8 "row" 2:=vq
theorem vah:VS nX r8 "piece" 3:=vq
theorem vai:LS r8 "seen":=lq
theorem vaj:LS r8 "row":=lq
theorem vak:LS r8 "piece":=lq
theorem aor(F:FunD K "told" "told" r8 f fd)(T:Txt P w K mg C C_Book C_NoName C_Ring):FnOk P w K mg base D9 1 f fd ["rows"] amn:=by
 refine F.ok sc_told ?_ ?_
 .rintro _ _ _ _ ⟨a,rs,zss,rfl,_⟩;rfl
 .intro cdv A outer s H vs Q E hr h;have C6:=hu_of hr;have hu:=hr.units;refine ⟨_,QSs.out (A5 (C9 (n:=1) sc_told.nd rfl vai y8)
   (A5 (N5 PassesOwn.never (O8 (K:=K) (vi vae)) (E6 (n:=2) sc_told.nd rfl vaj (.inl rfl)) (A7 (N5 PassesOwn.never (O8 (K:=K) (vi vag)) (E6 (n:=3) sc_told.nd rfl vak (.inl rfl)) (A7 (g0 C6 (vi vaf) (vi vah) qe_bl)))))
   (A7 (D6 (qe_cT (jI (K:=K) (calm:=true)) T.b_list gC (qa_c (vi vaf) A2)))))),?_⟩
  obtain ⟨a,rs,zss,rfl,hR,hz,q⟩:=h;walk_at "rd";intro d nd;have hlz:∀ n:Nat,n<=100000->n<sizeLine:=fun n h=>J5 (by lia)
  refine ⟨⟨_,.of (C4 hR.top nd)⟩,forL (xs:=rs.map V.ref) (fun i Y H2=>∃ (u v:Option V),Y=[some (.ref a),some (.ref d),u,v]/\Same H H2/\H2 d=some (.dK (kvOf (toldL (zss.take i)))))
   ⟨none,none,rfl,Same.new nd,by rw [A1];rfl⟩ (by rintro i Y H2 _ ⟨_,_,_,S,_⟩;exact .of (S _ _ hR.top)) ?_ ?_⟩
  .rintro i x Y H2 hx ⟨u,v,rfl,S,hd⟩;obtain ⟨r,hr,rfl⟩:=J1 hx;obtain ⟨zs,m4,C7⟩:=Paired.at hR.row hr;have hcount:(toldL (zss.take i)).length+zs.length<=100000:=by
    have h1:zss.take (i+1)=zss.take i++[zs]:=by rw [R4,m4];rfl
    have h2:=jD (zss.take i);have h3:(zss.take (i+1)).flatten.length<=zss.flatten.length:=by
     conv=>rhs;rw [<- aY (i+1) zss]
     rw [List.flatten_append,E3];lia
    rw [h1,List.flatten_append,E3] at h3;simp at h3;simp at h2 hz h3 ⊢
    lia
   walk_at "rd";refine ⟨⟨_,.of (S _ _ C7)⟩,forL (xs:=zs.map V.str) (fun j Y H3=>∃ (v:Option V),Y=[some (.ref a),some (.ref d),some (.ref r),v]/\Same H H3/\H3 d=some (.dK (kvOf (J0 (toldL (zss.take i)) (zs.take j)))))
    ⟨v,rfl,S,hd⟩ (by rintro j Y H3 _ ⟨_,_,S3,_⟩;exact .of (S3 _ _ C7)) ?_ ?_⟩
   .rintro j y Y H3 hy ⟨v,rfl,S3,Q9⟩;obtain ⟨z,hz',rfl⟩:=J1 hy;walk_at "rd";refine ⟨_,j3 (k:=Sum.inr z) Q9 ?_,S3.put nd,?_⟩
    .unfold kvOf;rw [A4];refine hlz _ ?_
     have:=dA (zs.take j) (toldL (zss.take i))
     rw [K3] at this;lia
    .rw [A1,afM,zZ hz']
   .rintro Y H3 ⟨v,rfl,S3,Q9⟩;walk_at "rd";refine ⟨S3,?_⟩;rw [Q9,ai6 m4,A4,K0]
  .rintro Y H2 ⟨u,v,rfl,S,hd⟩;walk_at "rd";refine rListR.d (.of hd) fun l nl=>?_
   refine q l _ (S.free nl) (fun b o h=>C4 (S b o h) nl) ?_;rw [A1,ai7,A4];rw [show rs.length=zss.length from Paired.length hR.row,K0]
theorem sc_followers:FnScope ["rows", "after", "piece", "row", "one", "other"] ["rows"] (C3 W1):=G1
abbrev gN:List Str:=["rows", "after", "piece", "row", "one", "other"]
theorem vam:VS gN W1 "rows" 0:=vq
theorem uE:VS gN W1 "after" 1:=vq
theorem vao:VS gN W1 "piece" 2:=vq
theorem vap:VS gN W1 "row" 3:=vq
theorem vaq:VS gN W1 "one" 4:=vq
theorem var:VS gN W1 "other" 5:=vq
theorem vas:LS W1 "after":=lq
theorem vat:LS W1 "piece":=lq
theorem vau:LS W1 "row":=lq
theorem vav:LS W1 "one":=lq
theorem vaw:LS W1 "other":=lq
theorem agj(F:FunD K "followers" "followers" W1 f fd)(T:Txt P w K mg C C_Book C_NoName C_Ring)(G_told:FO P w K mg base 1 "told" ["rows"] [] amn):FnOk P w K mg base D9 2 f fd ["rows"] spFol:=by
 refine F.ok sc_followers ?_ ?_
 .rintro _ _ _ _ ⟨a,rs,zss,rfl,_⟩;rfl
 .intro cdv A outer s H vs Q E hr h;have C6:=hu_of hr;have hu:=hr.units;refine ⟨_,QSs.out (A5 (C9 (n:=1) sc_followers.nd rfl vas y8)
   (A5 (N5 PassesOwn.never (O8 (K:=K) (F9 G_told (hm hr) (qa_c (vi vam) A2))) (E6 (n:=2) sc_followers.nd rfl vat (.inl rfl)) (A7 (g0 C6 (vi uE) (vi vao) (V7 A2))))
   (A5 (N5 PassesOwn.never (O8 (K:=K) (vi vam)) (E6 (n:=3) sc_followers.nd rfl vau (.inl rfl)) (A7 (N5 PassesOwn.never (aqF T.b_zip (qa_c (vi vap) (qa_c (R7 (K:=K) (vi vap) (Q0 A6) V8) A2))) (jH (K:=K) (n:=2) (q5 ((E6 (n:=4) sc_followers.nd rfl vav (.inl rfl))) (q5 ((E6 (n:=5) sc_followers.nd rfl vaw (.inl rfl))) jG))) (A7 (Q1 (qe_mB (K:=K) T8 e8 d0 g1 (Y0 C6 (vi uE) (vi vaq)) (qa_c (vi var) A2)))))))
   (A7 (D6 (vi uE)))))),?_⟩
  obtain ⟨a,rs,zss,rfl,hR,hz,q⟩:=h;walk_at "rd";intro d nd;have S0:Same H (A0 H d (.dK [])):=Same.new nd;refine ⟨a,rs,zss,rfl,hR.same S0,hz,fun l H1 nl S1 hl=>?_⟩;have wM:H1 d=some (.dK []):=S1 _ _ A1;have S01:=S0.trans S1;have A9:(toldL zss).length<=100000:=F6 (jD zss) hz;have tnd:=nA zss;refine ⟨l,rfl,⟨_,.of hl⟩,forL (xs:=(toldL zss).map V.str) (fun i Y H2=>∃ (u v w x:Option V) (ad:Str->Addr),Y=[some (.ref a),some (.ref d),u,v,w,x]/\SameBut d H1 H2/\H2 d=some (.dK (C0 ((toldL zss).take i) fun t=>.ref (ad t)))/\DL H1 H2 ((toldL zss).take i) ad fun _=>[])
   ⟨none,none,none,none,fun _=>0,rfl,uab _ _,wM,⟨fun t h=>by simp at h,fun t h=>by simp at h,fun t h=>by simp at h⟩⟩ (fun i Y H2 _ ⟨_,_,_,_,_,_,S,_⟩=>.of (S _ _ (fun e=>by rw [e,wM] at hl;cases hl) hl)) ?_ ?_⟩
  .rintro i x Y H2 hx ⟨u,v,w,y,ad,rfl,S,hd,dl⟩;obtain ⟨z,hk,rfl⟩:=J1 hx;have hi:i<(toldL zss).length:=(J4.mp hk).1;have O9:=gE tnd hk;walk_at "rd";refine fun p np=>⟨_,j3 (k:=Sum.inr z) (C4 hd np) (by rw [Y2,K3];exact J5 (by lia)),?_⟩
   have n1:H1 p=none:=S.free np (fun e=>by rw [e,hd] at np;cases np);refine ⟨(S.put n1).at,fun t=>if t=z then p else ad t,?_,?_⟩
   .rw [A1,z8 _ O9,L9 hk];have e:(fun t=>if t=z then V.ref p else V.ref (ad t))=fun t=>V.ref (if t=z then p else ad t):=by funext t;split <;> rfl
    rw [e]
   .rw [L9 hk];exact ((dl.more O9 np n1).congr fun t _=>by split <;> rfl).put wM
  .rintro Y H2 ⟨u,v,w,y,ad,rfl,S,hd,dl⟩;rw [A4,K0] at hd dl;have S2:Same H H2:=S.same S01 nd;walk_at "rd";have dl0:DL H H2 (toldL zss) ad fun _=>[]:=dl.old S01
   refine ⟨⟨_,.of (S2 _ _ hR.top)⟩,forL (xs:=rs.map V.ref) (fun i Y H3=>∃ (v w x:Option V),Y=[some (.ref a),some (.ref d),u,v,w,x]/\Same H H3/\H3 d=some (.dK (C0 (toldL zss) fun t=>.ref (ad t)))/\DL H H3 (toldL zss) ad (E7 (edges (zss.take i))))
    ⟨v,w,y,rfl,S2,hd,dl0⟩ (by rintro i Y H3 _ ⟨_,_,_,_,S,_⟩;exact .of (S _ _ hR.top)) ?_ ?_⟩
   .rintro i x Y H3 hx ⟨v,w,y,rfl,S3,Q9,v4⟩;obtain ⟨r,hr,rfl⟩:=J1 hx;obtain ⟨zs,m4,C7⟩:=Paired.at hR.row hr;have cM:=S3 _ _ C7;have L5:∀ x∈zs,x∈toldL zss:=fun x hx=>(sL _ _).mpr (List.mem_flatten.mpr ⟨zs,G2 m4,hx⟩)
    walk_at "rd";refine rSlR.l (.of cM) fun p np=>?_
    have ecut:cutV (zs.map V.str) (some 1) none=zs.tail.map V.str:=by
     have:=z0 (zs.map V.str) 1
     rw [show ((1:Nat):Int)=1 from rfl] at this;rw [this,<- w6,List.drop_one]
    rw [ecut];have np0:H p=none:=S3.free np;have nad:∀ t∈toldL zss,ad t≠p:=fun t ht e=>by have:=v4.row t ht;rw [e,np] at this;cases this
    have nadr:∀ t∈toldL zss,ad t≠r:=fun t ht e=>by have:=v4.new t ht;rw [e,C7] at this;cases this
    have ndp:d≠p:=fun e=>by rw [<- e,Q9] at np;cases np
    have nadd:∀ t∈toldL zss,ad t≠d:=fun t ht e=>by have:=v4.row t ht;rw [e,Q9] at this;cases this
    refine ⟨p,rfl,⟨_,C4 cM np⟩,⟨_,A1⟩,forZ (xs:=zs.map V.str) (ys:=zs.tail.map V.str) (fun j Y H4=>∃ (w x:Option V),Y=[some (.ref a),some (.ref d),u,some (.ref r),w,x]/\Same H H4/\H4 p=some (.lst (zs.tail.map V.str))/\H4 d=some (.dK (C0 (toldL zss) fun t=>.ref (ad t)))/\DL H H4 (toldL zss) ad (E7 (edges (zss.take i)++(W0 zs).take j)))
     ⟨w,y,rfl,S3.put np0,A1,C4 Q9 np,?_⟩ (by rintro j Y H4 ⟨_,_,_,S,hp,_⟩;exact ⟨S _ _ C7,hp⟩) ?_ ?_⟩
    .rw [o9,M9];exact v4.same (Same.new np)
    .rintro j xv yv t Y H4 hxv hyv ⟨w,v,rfl,S4,lH,W7,iB⟩ nt;obtain ⟨x,hx,rfl⟩:=J1 hxv;obtain ⟨y,hy,rfl⟩:=J1 hyv;have iC:=L5 x (G2 hx);have nt0:H t=none:=S4.free nt;have hlx:=iB.row x iC;have hE:(W0 zs)[j]?=some (x,y):=ajl hx hy;walk_at "rd";refine ⟨_,.of A1,rfl,_,_,rfl,_,_,rfl,rfl,V.ref (ad x),.inl ⟨_,Sum.inr x,.inl (C4 W7 nt),rfl,by rw [M7,if_pos iC]⟩,R6 (C4 hlx nt),appOk (C4 hlx nt) ?_ ⟨(S4.put nt0).put (iB.new x iC),?_,?_,?_⟩⟩
     .rw [A4];refine J5 ?_;have h1:(E7 (edges (zss.take i)++(W0 zs).take j) x).length<=(edges (zss.take i)++(W0 zs).take j).length:=by
       unfold E7;rw [A4];exact cU _ _
      have h2:=afW (zss.take i);have h3:(zss.take i).flatten.length<=zss.flatten.length:=by
       conv=>rhs;rw [<- aY i zss]
       rw [List.flatten_append,E3];lia
      have h4:zs.length<=zss.flatten.length:=List.Sublist.length_le (List.sublist_flatten_of_mem (G2 m4));rw [E3,K3,sM] at h1;lia
     .rw [A3 (nad x iC).symm];exact C4 lH nt
     .rw [A3 (nadd x iC).symm];exact C4 W7 nt
     .have h1:=(iB.same (Same.new (u:=.tup [V.str x,V.str y]) nt)).app iC (E7 (edges (zss.take i)++(W0 zs).take j) x++[y]);rw [E5] at h1;refine h1.congr fun t _=>?_
      rw [L9 hE,<- i5,alp]
      by_cases e:t=x
      .rw [if_pos e,if_pos e.symm,e]
      .rw [if_neg e,if_neg (fun z=>e z.symm)]
    .rintro Y H4 ⟨w,x,rfl,S4,lH,W7,iB⟩;walk_at "rd";refine ⟨S4,W7,?_⟩;rw [ah1 m4];rw [X4 (l:=W0 zs) (by rw [sM,A4,A4];exact C2 _)] at iB;exact iB
   .rintro Y H3 ⟨v,w,y,rfl,S3,Q9,v4⟩;rw [A4,show rs.length=zss.length from Paired.length hR.row,K0] at v4;walk_at "rd";exact q d ad H3 nd S3 Q9 v4
theorem sc_count_ahead:FnScope ["after", "ahead", "piece", "other"] ["after"] (C3 s0):=G1
abbrev nY:List Str:=["after", "ahead", "piece", "other"]
theorem uF:VS nY s0 "after" 0:=vq
theorem uG:VS nY s0 "ahead" 1:=vq
theorem vaz:VS nY s0 "piece" 2:=vq
theorem vaA:VS nY s0 "other" 3:=vq
theorem vaB:LS s0 "ahead":=lq
theorem vaC:LS s0 "piece":=lq
theorem vaD:LS s0 "other":=lq
theorem aez(F:FunD K "count_ahead" "count_ahead" s0 f fd)(T:Txt P w K mg C C_Book C_NoName C_Ring):FnOk P w K mg base D9 1 f fd ["after"] ajm:=by
 refine F.ok sc_count_ahead ?_ ?_
 .rintro _ _ _ _ ⟨d,ts,ad,E,rfl,_⟩;rfl
 .intro cdv A outer s H vs Q E hr h;have C6:=hu_of hr;have hu:=hr.units;refine ⟨_,QSs.out (A5 (C9 (n:=1) sc_count_ahead.nd rfl vaB y8)
   (A5 (sH PassesOwn.never (vi uF) (E6 (n:=2) sc_count_ahead.nd rfl vaC (.inl rfl)) (A7 (g0 C6 (vi uG) (vi vaz) A6)))
   (A5 (sH PassesOwn.never (vi uF) (E6 (n:=2) sc_count_ahead.nd rfl vaC (.inl rfl)) (A7 (N5 PassesOwn.never (O8 (K:=K) (Y0 C6 (vi uF) (vi vaz))) (E6 (n:=3) sc_count_ahead.nd rfl vaD (.inl rfl)) (A7 (aja C6 (vi uG) (vi vaA) A6 amh)))))
   (A7 (D6 (vi uG)))))),?_⟩
  obtain ⟨d,ts,ad,E,rfl,hd,tnd,A9,hElen,C7,hE,q⟩:=h;walk_at "rd";intro c nc;have ndc:d≠c:=fun e=>by rw [e,nc] at hd;cases hd
  refine ⟨_,C4 hd nc,fun o=>forD (fun i Y H2=>∃ (u v:Option V),Y=[some (.ref d),some (.ref c),u,v]/\H2 d=some (.frz o (.dK (C0 ts fun t=>.ref (ad t))))/\SameBut d H H2/\H2 c=some (.dK (C0 (ts.take i) fun _=>.int 0)))
   ⟨none,none,rfl,A1,(SameBut.put (uab _ _) nc).at,by rw [A3 ndc.symm,A1];rfl⟩ (by rintro i Y H2 ⟨_,_,_,h,_⟩;exact h) ?_ ?_⟩
  .rintro i k v Y H2 hk ⟨u,w,rfl,hf,S,hc⟩;obtain ⟨t,ht,rfl,rfl⟩:=amj hk;have hi:i<ts.length:=(J4.mp ht).1;walk_at "rd";refine ⟨_,j3 (k:=Sum.inr t) hc (by rw [Y2,K3];exact J5 (by lia)),?_,S.put nc,?_⟩
   .rw [A3 ndc];exact hf
   .rw [A1,z8 _ (gE tnd ht),L9 ht];exact congrArg (fun x=>some (HO.dK x)) (Q2 fun t _=>by split <;> rfl)
  .rintro Y H2 ⟨u,w,rfl,hf,S,hc⟩;rw [Y2,K0] at hc;have S2:Same H (A0 H2 d (.dK (C0 ts fun t=>.ref (ad t)))):=S.thaw hd;have Z0:A0 H2 d (.dK (C0 ts fun t=>.ref (ad t))) d=some (.dK (C0 ts fun t=>.ref (ad t))):=A1;have kM:A0 H2 d (.dK (C0 ts fun t=>.ref (ad t))) c=some (.dK (C0 ts fun _=>.int 0)):=by rw [A3 ndc.symm];exact hc
   generalize A0 H2 d (.dK (C0 ts fun t=>.ref (ad t)))=H3 at S2 Z0 kM;walk_at "rd";refine ⟨_,Z0,fun o=>forD (fun i Y H4=>∃ (u v:Option V),Y=[some (.ref d),some (.ref c),u,v]/\H4 d=some (.frz o (.dK (C0 ts fun t=>.ref (ad t))))/\SameBut d H H4/\H4 c=some (.dK (C0 ts fun t=>.int (cntIn E (ts.take i) t:Nat))))
    ⟨u,w,rfl,A1,fun b o hb h=>by rw [A3 hb];exact S2 b o h,?_⟩ (by rintro i Y H2 ⟨_,_,_,h,_⟩;exact h) ?_ ?_⟩
   .rw [A3 ndc.symm,kM];exact congrArg (fun x=>some (HO.dK x)) (Q2 fun t _=>by rw [o9,ajk];rfl)
   .rintro i k v Y H4 hk ⟨u,w,rfl,hf,S4,iD⟩;obtain ⟨t,ht,rfl,rfl⟩:=amj hk;have lI:t∈ts:=G2 ht;have hl4:H4 (ad t)=some (.lst ((E7 E t).map V.str)):=S4 _ _ (fun e=>by have:=C7 t lI;rw [e,hd] at this;cases this) (C7 t lI);walk_at "rd";refine ⟨V.ref (ad t),.inl ⟨_,Sum.inr t,.inr ⟨o,hf⟩,rfl,by rw [M7,if_pos lI]⟩,ad t,rfl,⟨_,.of hl4⟩,forL (xs:=(E7 E t).map V.str) (fun j Y H5=>∃ (v:Option V),Y=[some (.ref d),some (.ref c),some (kV (Sum.inr t)),v]/\H5 d=some (.frz o (.dK (C0 ts fun t=>.ref (ad t))))/\SameBut d H H5/\
     H5 c=some (.dK (C0 ts fun q=>.int (cntIn E (ts.take i) q+((E7 E t).take j).count q:Nat)))) ⟨w,rfl,hf,S4,by rw [iD];rfl⟩ (fun j Y H5 _ ⟨_,_,_,S5,_⟩=>.of (S5 _ _ (fun e=>by have:=C7 t lI;rw [e,hd] at this;cases this) (C7 t lI))) ?_ ?_⟩
    .rintro j v5 Y H5 wN ⟨v,rfl,wO,S5,W8⟩;obtain ⟨y,eJ,rfl⟩:=J1 wN;have cN:y∈ts:=by
      have:=G2 eJ
      unfold E7 at this;obtain ⟨e,he,rfl⟩:=G6.mp this;exact (hE e (N8.mp he).1).2
     walk_at "rd";refine ⟨V.int (cntIn E (ts.take i) y+((E7 E t).take j).count y:Nat),.inl ⟨_,Sum.inr y,.inl W8,rfl,by rw [M7,if_pos cN]⟩,_,_,rfl,rfl,_,j3 (k:=Sum.inr y) W8 (by rw [Y2];exact J5 (by lia)),?_,S5.put nc,?_⟩
     .rw [A3 ndc];exact wO
     .rw [A1,mZ _ cN];refine congrArg (fun x=>some (HO.dK x)) (Q2 fun q _=>?_);rw [L9 eJ,List.count_append,List.count_singleton]
      by_cases e:q=y
      .rw [if_pos e,e,if_pos (by simp)];exact congrArg V.int (by lia)
      .rw [if_neg e,if_neg (by simpa using fun z:y=q=>e z.symm)];rfl
    .rintro Y H5 ⟨v,rfl,wO,S5,W8⟩;walk_at "rd";refine ⟨wO,S5,?_⟩;rw [A4,K0] at W8;rw [W8];refine congrArg (fun x=>some (HO.dK x)) (Q2 fun q _=>?_);rw [L9 ht,ahY (gE tnd ht)]
   .rintro Y H4 ⟨u,w,rfl,hf,S4,iD⟩;rw [Y2,K0] at iD;walk_at "rd";refine q c _ nc (S4.thaw hd) ?_;rw [A3 ndc.symm,iD];exact congrArg (fun x=>some (HO.dK x)) (Q2 fun t _=>by rw [ajj (fun e he=>(hE e he).1)])
theorem sc_lined_up:FnScope ["rows", "after", "ahead", "pieces", "numbers", "free", "line", "number", "other"] ["rows"] (C3 O0):=G1
abbrev aH:List Str:=["rows", "after", "ahead", "pieces", "numbers", "free", "line", "number", "other"]
theorem vaE:VS aH O0 "rows" 0:=vq
theorem uH:VS aH O0 "after" 1:=vq
theorem vaG:VS aH O0 "ahead" 2:=vq
theorem kB:VS aH O0 "pieces" 3:=vq
theorem vaI:VS aH O0 "numbers" 4:=vq
theorem nZ:VS aH O0 "free" 5:=vq
theorem uI:VS aH O0 "line" 6:=vq
theorem uJ:VS aH O0 "number" 7:=vq
theorem uK:VS aH O0 "other" 8:=vq
theorem vaN:LS O0 "after":=lq
theorem vaO:LS O0 "ahead":=lq
theorem vaP:LS O0 "pieces":=lq
theorem vaQ:LS O0 "numbers":=lq
theorem vaR:LS O0 "free":=lq
theorem vaS:LS O0 "line":=lq
theorem vaT:LS O0 "number":=lq
theorem vaU:LS O0 "other":=lq
theorem agV(F:FunD K "lined_up" "lined_up" O0 f fd)(T:Txt P w K mg C C_Book C_NoName C_Ring)(G_followers:FO P w K mg base 2 "followers" ["rows"] [] spFol)(G_count_ahead:FO P w K mg base 1 "count_ahead" ["after"] [] ajm):FnOk P w K mg base D9 3 f fd ["rows"] ajn:=by
 refine F.ok sc_lined_up ?_ ?_
 .rintro _ _ _ _ ⟨a,rs,zss,rank,rfl,_⟩;rfl
 .intro cdv A outer s H vs Q E hr h;have C6:=hu_of hr;have hu:=hr.units;refine ⟨_,QSs.out (A5 (C9 (n:=1) sc_lined_up.nd rfl vaN (F9 G_followers (hm hr) (qa_c (vi vaE) A2)))
   (A5 (C9 (n:=2) sc_lined_up.nd rfl vaO (F9 G_count_ahead (hm hr) (qa_c (vi uH) A2)))
   (A5 (C9 (n:=3) sc_lined_up.nd rfl vaP (qe_cT (jI (K:=K) (calm:=true)) T.b_list gC (qa_c (vi uH) A2)))
   (A5 (C9 (n:=4) sc_lined_up.nd rfl vaQ (qe_cT (anK (K:=K) (calm:=true)) T.b_dict anF (qa_c (V9  (T0:CompOk ["rows", "after", "ahead", "pieces", "numbers", "free", "line", "number", "other"] (C3 O0).names _ ["number", "piece"] 2 []) (sN T.b_enumerate (qa_c (vi kB) A2)) (fun _ _ _ _ _=>(jH (K:=K) (n:=2) (q5 (E6 (n:=0) (show List.Nodup (["number", "piece"]:List Str) by decide +kernel) rfl (Or.inl rfl)) (q5 (E6 (n:=1) (show List.Nodup (["number", "piece"]:List Str) by decide +kernel) rfl (Or.inl rfl)) jG)))) (fun _ _ _ _ _=>y9) (fun _ _ _ _ _=>(P9 (qa_c (qv 1) (qa_c (qv 0) A2))))) A2)))
   (A5 (rX (n:=5) sc_lined_up.nd rfl vaR (T0:CompOk ["rows", "after", "ahead", "pieces", "numbers", "free", "line", "number", "other"] (C3 O0).names _ ["piece", "numbers", "ahead"] 1 [4,2]) (O8 (K:=K) (vi kB)) (fun _ _ _ _ _=>E6 (n:=0) (show List.Nodup (["piece", "numbers", "ahead"]:List Str) by decide +kernel) rfl (Or.inl rfl)) (fun _ _ _ _ _=>(bP (E4 (q_eq (K:=K) hu) (Y0 C6 (qv 2) (qv 0)) A6))) (fun _ _ _ _ _=>(Y0 C6 (qv 1) (qv 0))))
   (A5 (C9 (n:=6) sc_lined_up.nd rfl vaS (V7 A2))
   (A5 (rV PassesOwn.never (f8 (K:=K) (vi nZ)) (A5 (C9 (n:=7) sc_lined_up.nd rfl vaT (qe_cB (aqP (calm:=true)) T.b_min aqv (qa_c (vi nZ) A2)))
   (A5 (Q1 (qe_mB (K:=K) T8 PySem.F.slot_list_remove PySem.F.type_list_remove ajB (vi nZ) (qa_c (vi uJ) A2)))
   (A5 (Q1 (qe_mB (K:=K) T8 e8 d0 g1 (vi uI) (qa_c (qe_ix (K:=K) (vi kB) (vi uJ)) A2)))
   (A7 (N5 PassesOwn.never (O8 (K:=K) (Y0 C6 (vi uH) (qe_ix (K:=K) (vi kB) (vi uJ)))) (E6 (n:=8) sc_lined_up.nd rfl vaU (.inl rfl)) (A5 (aja C6 (vi vaG) (vi uK) A6 aqx)
   (A7 (qs_if (E4 (q_eq (K:=K) hu) (Y0 C6 (vi vaG) (vi uK)) A6) (A7 (Q1 (qe_mB (K:=K) T8 e8 d0 g1 (vi nZ) (qa_c (Y0 C6 (vi vaI) (vi uK)) A2)))) G7)))))))))
   (A5 (qs_if (E4 q_lt (qe_cB (q_len (K:=K)) T.b_len X9 (qa_c (vi uI) A2)) (qe_cB (q_len (K:=K)) T.b_len X9 (qa_c (vi kB) A2))) (A7 dD) G7)
   (A7 (D6 (vi uI))))))))))),?_⟩
  obtain ⟨a,rs,zss,rank,rfl,hR,hz,m5,q⟩:=h;walk_at "rd";have A9:(toldL zss).length<=100000:=F6 (jD zss) hz;have hElen:(edges zss).length<=100000:=F6 (afW zss) hz;have tnd:=nA zss;have etold:∀ e∈edges zss,e.1∈toldL zss/\e.2∈toldL zss:=fun e he=>ah0 he
  refine ⟨a,rs,zss,rfl,hR,hz,fun d ad H1 nd S1 hd dl=>?_⟩;generalize hts:toldL zss=ts at *;generalize hEE:edges zss=E at *;refine ⟨d,ts,ad,E,rfl,hd,tnd,A9,hElen,dl.row,etold,fun c H2 nc S2 hc=>?_⟩;walk_at "rd";refine rListR.d (.of (S2 _ _ hd)) fun w nw=>?_
  rw [alr];have Z6:=S1.trans S2;have ncH:H c=none:=S1.free nc;have Z0:=S2 _ _ hd;have ncd:c≠d:=fun e=>by rw [e,hd] at nc;cases nc
  have nac:∀ t∈ts,ad t≠c:=fun t ht e=>by have:=dl.row t ht;rw [e,nc] at this;cases this
  have pO:A0 H2 w (.lst (ts.map V.str)) w=some (.lst (ts.map V.str)):=A1;have Sw:Same H2 (A0 H2 w (.lst (ts.map V.str))):=Same.new nw;generalize A0 H2 w (.lst (ts.map V.str))=H3 at pO Sw ⊢
  have idx:∀ {i:Nat} {z:Str},ts[i]?=some z->ts.idxOf z=i:=fun {i z} h=>by
   obtain ⟨hi,rfl⟩:=J4.mp h;exact List.Nodup.idxOf_getElem tnd i hi
  refine ⟨w,rfl,⟨_,pO⟩,compE (xs:=ts.map V.str) [] rfl (fun D i ys H4=>∃ qs:List Addr,ys=qs.map V.ref/\Same H3 H4/\Paired (fun q t=>H4 q=some (.tup [.str t,.int (ts.idxOf t:Nat)])) qs (ts.take i)) (fun D nD=>⟨[],rfl,Same.new nD,.nil⟩) (by rintro D i ys H4 nD _ ⟨_,_,S,_⟩;exact S _ _ pO) ?_ ?_⟩
  .rintro D i x t ys H4 nD hi hx ⟨qs,rfl,S,P4⟩ hD hy nt;obtain ⟨z,hz,rfl⟩:=J1 hx;rw [A4] at hi hy;walk_at "rd";refine ⟨by decide,fun p np=>⟨C4 (C4 hD nt) np,by rw [A4];exact J5 (by lia),gH.put (by rw [A4];exact hi) (by rw [A4];exact hy) ⟨qs++[p],by rw [E5];rfl,((S.trans (Same.new nt)).trans (Same.new np)).put nD,?_⟩⟩⟩;rw [L9 hz];refine Paired.snoc (R1 P4 fun q t' h=>?_) ?_
   .rw [A3 (fun e=>by rw [e,hD] at h;cases h)];exact C4 (C4 h nt) np
   .rw [A3 (fun e=>by rw [e,C4 hD nt] at np;cases np),A1,idx hz]
  rintro D ys H4 nD ⟨qs,rfl,wP,P4⟩ hD hy;rw [A4,K0] at P4;refine ⟨rfl,D,qs,_,rfl,.of hD,ahj (f:=fun t=>.int (ts.idxOf t:Nat)) P4,fun nm nnm=>?_⟩;rw [show X8 [] (C0 ts fun t=>V.int (ts.idxOf t:Nat))=C0 ts fun t=>V.int (ts.idxOf t:Nat) from af0 (pre:=[]) (by simpa using tnd)];have S5:Same H2 (A0 H4 nm (.dK (C0 ts fun t=>V.int (ts.idxOf t:Nat)))):=(Sw.trans wP).trans (Same.new nnm);have aS:A0 H4 nm (.dK (C0 ts fun t=>V.int (ts.idxOf t:Nat))) w=some (.lst (ts.map V.str)):=C4 (wP _ _ pO) nnm;have Q5:A0 H4 nm (.dK (C0 ts fun t=>V.int (ts.idxOf t:Nat))) nm=some (.dK (C0 ts fun t=>V.int (ts.idxOf t:Nat))):=A1;have iD:H4 c=some (.dK (C0 ts fun t=>.int (cnt E [] t:Nat))):=wP _ _ (Sw _ _ hc);have ncn:c≠nm:=fun e=>by rw [<- e,iD] at nnm;cases nnm
  generalize A0 H4 nm (.dK (C0 ts fun t=>V.int (ts.idxOf t:Nat)))=H5 at S5 aS Q5 ⊢
  have W8:=S5 _ _ hc;have hd5:=S5 _ _ Z0;have gZ:∀ t∈ts,H5 (ad t)=some (.lst ((E7 E t).map V.str)):=fun t ht=>S5 _ _ (S2 _ _ (dl.row t ht))
  have S05:=Z6.trans S5;have ncw:c≠w:=fun e=>by rw [e,aS] at W8;cases W8
  refine ⟨w,rfl,⟨_,.of aS⟩,compL (xs:=ts.map V.str) [some (.ref nm),some (.ref c)] rfl (fun D i ys H6=>∃ fr:List Int,ys=fr.map V.int/\Same H5 H6/\FS (ts.take i) [] (fun q=>cnt E [] q=0) fr) (fun D nD=>⟨[],rfl,Same.new nD,FS.nil _⟩) (by rintro D i ys H6 nD _ ⟨_,_,S,_⟩;exact .of (S _ _ aS)) ?_ ?_⟩
  .rintro D i x ys H6 nD hi hx ⟨fr,rfl,S,F⟩ hD hy;obtain ⟨z,hz,rfl⟩:=J1 hx;have hzt:z∈ts:=G2 hz;have hil:i<ts.length:=(J4.mp hz).1;rw [A4] at hy;have hs:=F.snoc (i:=i) (q:=z) (by rw [K3];lia) (by simp);rw [<- L9 hz] at hs;walk_at "rd";refine ⟨V.int (cnt E [] z:Nat),.inl ⟨_,Sum.inr z,.inl (S _ _ W8),rfl,by rw [M7,if_pos hzt]⟩,?_⟩
   try walk_at "rd"
   refine iteD (fun h0=>⟨V.int (ts.idxOf z:Nat),.inl ⟨_,Sum.inr z,.inl (S _ _ Q5),rfl,by rw [M7,if_pos hzt]⟩,hD,by rw [A4];exact J5 (by lia),CW.put hi (by rw [A4];exact hy) ⟨fr++[(i:Int)],by rw [E5,idx hz];rfl,S.put nD,hs.1 (by lia)⟩⟩) fun h0=>⟨hD,jB hi (by rw [A4];exact hy) ⟨fr,rfl,S,hs.2 (by lia)⟩⟩
  rintro f ys H6 nf ⟨fr,rfl,wQ,F0⟩ wR hy;rw [A4,K0] at F0;intro ln nln;have nln5:H5 ln=none:=wQ.free nln;have l9:f≠ln:=fun e=>by rw [e,nln] at wR;cases wR
  have frlen:∀ {line fr z},FS ts line z fr->fr.length<=ts.length:=fun {line fr z} F=>by
   have h1:∀ n∈fr,n∈(M3 ts.length).map fun (n:Nat)=>(n:Int):=fun n hn=>by
    obtain ⟨m,q,e,h2,_⟩:=(F.2 n).mp hn;exact G6.mpr ⟨m,b8.mpr (J4.mp h2).1,e.symm⟩
   have:=aeT F.1 h1
   simpa using this
  refine rZ (fun m Y H7=>∃ (u v:Option V) (line:List Str) (fr:List Int),Y=[some (.ref a),some (.ref d),some (.ref c),some (.ref w),some (.ref nm),some (.ref f),some (.ref ln),u,v]/\SameBut c H5 H7/\
    H7 c=some (.dK (C0 ts fun t=>.int (cnt E line t:Nat)))/\H7 f=some (.lst (fr.map V.int))/\FS ts line (fun q=>cnt E line q=0) fr/\H7 ln=some (.lst (line.map V.str))/\R8 E ts line/\m=ts.length-line.length) ts.length
   ⟨none,none,[],fr,rfl,fun b o _ h=>C4 (wQ _ _ h) nln,C4 (wQ _ _ W8) nln,C4 wR nln,F0,A1,R8.nil _ _,rfl⟩ ?_
  rintro m Y H7 ⟨u,v,line,fr,rfl,B7,hc7,pP,F,wS,run,rfl⟩;have S07:Same H H7:=B7.same S05 ncH;walk_at "rd";refine ⟨_,sB pP,?_⟩
  by_cases aT:fr=[]
  .have Z1:∀ p∈ts,p∈line:=fun p hp=>Classical.byContradiction fun hn=>by
    obtain ⟨q',hq⟩:=alq (line:=line) m5 (fun e he=>(etold e he).1) ⟨p,hp,hn⟩;obtain ⟨h1,h2,h3⟩:=jM hq;obtain ⟨k,hk⟩:=n9.mp h1
    have:=(F.2 (k:Int)).mpr ⟨k,q',rfl,hk,h2,h3⟩
    rw [aT] at this
    cases this
   have hsl:=sI tnd run Z1;rw [aT];refine iteF ?_
   try walk_at "rd"
   refine ⟨line.length,.inl ⟨_,.of wS,by rw [A4]⟩,ts.length,.inl ⟨_,.of (B7 _ _ ncw.symm aS),by rw [A4]⟩,?_⟩
   try walk_at "rd"
   exact iteD (fun h=>absurd h (by lia)) fun _=>q ln line H7 (S05.free nln5) S07 wS run Z1
  rw [show (!(fr.map V.int).isEmpty)=true by cases fr with | nil=>exact absurd rfl aT | cons=>rfl];refine iteT ⟨fun σ' H'=>∃ (u v:Option V) (line':List Str) (fr:List Int),σ'=[some (.ref a),some (.ref d),some (.ref c),some (.ref w),some (.ref nm),some (.ref f),some (.ref ln),u,v]/\SameBut c H5 H'/\
    H' c=some (.dK (C0 ts fun t=>.int (cnt E line' t:Nat)))/\H' f=some (.lst (fr.map V.int))/\FS ts line' (fun q=>cnt E line' q=0) fr/\H' ln=some (.lst (line'.map V.str))/\R8 E ts line'/\ts.length-line'.length<ts.length-line.length,?_,?_⟩
  .rintro σ' H' ⟨u,v,line',fr',rfl,h1,h2,h3,h4,h5,h6,h7⟩;exact ⟨_,h7,⟨_,_,rfl⟩,h1,line',h2,fr',h3,h4,h5,h6,rfl⟩
  try walk_at "rd"
  refine ⟨fr,pP,aT,fun M hM eF=>?_⟩;obtain ⟨mm,p,rfl,hpm,W9⟩:=agP F hM eF;obtain ⟨i3,pE,eK⟩:=jM W9;have v6:line.length<ts.length:=by
   have h1:(line++[p]).Nodup:=(run.snoc W9).nodup;have h3:=jN h1 fun x hx=>(run.snoc W9).sub hx
   rw [E3,o0] at h3;lia
  have F1:=F.take tnd hpm
  try walk_at "rd"
  refine ⟨R6 pP,aqO pP hM ?_⟩;have hwf:w≠f:=fun e=>by rw [e,nf] at aS;cases aS
  have wT:c≠f:=fun e=>by rw [e,nf] at W8;cases W8
  have iE:c≠ln:=fun e=>by rw [e,nln5] at W8;cases W8
  have B8:SameBut c H5 (A0 H7 f (.lst ((fr.erase (mm:Int)).map V.int))):=B7.put nf;have pQ:A0 H7 f (.lst ((fr.erase (mm:Int)).map V.int)) ln=some (.lst (line.map V.str)):=by rw [A3 l9.symm];exact wS
  have hf8:A0 H7 f (.lst ((fr.erase (mm:Int)).map V.int)) f=some (.lst ((fr.erase (mm:Int)).map V.int)):=A1;have hc8:A0 H7 f (.lst ((fr.erase (mm:Int)).map V.int)) c=some (.dK (C0 ts fun t=>.int (cnt E line t:Nat))):=by rw [A3 wT];exact hc7
  generalize A0 H7 f (.lst ((fr.erase (mm:Int)).map V.int))=H8 at B8 pQ hf8 hc8 ⊢
  have atp:L7 (ts.map V.str) (mm:Int)=some (V.str p):=N9 (by rw [M0,hpm];rfl);refine ⟨R6 pQ,_,.inl (.of (B8 _ _ ncw.symm aS)),V.str p,atp,appOk pQ (by rw [A4];exact J5 (by lia)) ?_⟩;have B9:SameBut c H5 (A0 H8 ln (.lst (line.map V.str++[V.str p]))):=B8.put nln5;have hl9:A0 H8 ln (.lst (line.map V.str++[V.str p])) ln=some (.lst ((line++[p]).map V.str)):=by rw [A1,E5];rfl
  have hf9:A0 H8 ln (.lst (line.map V.str++[V.str p])) f=some (.lst ((fr.erase (mm:Int)).map V.int)):=by rw [A3 l9];exact hf8
  have hc9:A0 H8 ln (.lst (line.map V.str++[V.str p])) c=some (.dK (C0 ts fun t=>.int (cnt E line t:Nat))):=by rw [A3 iE];exact hc8
  generalize A0 H8 ln (.lst (line.map V.str++[V.str p]))=H9 at B9 hl9 hf9 hc9 ⊢
  refine ⟨_,.inl (.of (B9 _ _ ncw.symm aS)),V.str p,atp,V.ref (ad p),.inl ⟨_,Sum.inr p,.inl (B9 _ _ ncd.symm hd5),rfl,by rw [M7,if_pos i3]⟩,ad p,rfl,⟨_,.of (B9 _ _ (nac p i3) (gZ p i3))⟩,
   forL (xs:=(E7 E p).map V.str) (fun j Y H7=>∃ (x:Option V) (fr:List Int),Y=[some (.ref a),some (.ref d),some (.ref c),some (.ref w),some (.ref nm),some (.ref f),some (.ref ln),some (.int (mm:Int)),x]/\SameBut c H5 H7/\
    H7 c=some (.dK (C0 ts fun t=>.int ((cnt E line t:Nat)-(((E7 E p).take j).count t:Nat))))/\H7 f=some (.lst (fr.map V.int))/\FS ts (line++[p]) (fun q=>cnt E line q=((E7 E p).take j).count q) fr/\H7 ln=some (.lst ((line++[p]).map V.str)))
   ⟨v,_,rfl,B9,?_,hf9,F1.congr fun q=>(by simp),hl9⟩ (by rintro j Y H7 _ ⟨_,_,_,B,_⟩;exact .of (B _ _ (nac p i3) (gZ p i3))) ?_ ?_⟩
  .rw [hc9];exact congrArg (fun x=>some (HO.dK x)) (Q2 fun t _=>congrArg V.int (by simp))
  .rintro j v5 Y Q3 wN ⟨x,fr,rfl,B,m6,eM,F,eN⟩;obtain ⟨y,hy,rfl⟩:=J1 wN;have cN:y∈ts:=by
    have:=G2 hy
    unfold E7 at this;obtain ⟨e,he,rfl⟩:=G6.mp this;exact (etold e (N8.mp he).1).2
   have Z3:((E7 E p).take j).count y<cnt E line y:=by
    have h1:=ahg (E:=E) (q:=y) pE;have h2:(E7 E p).count y=((E7 E p).take (j+1)).count y+((E7 E p).drop (j+1)).count y:=by rw [<- List.count_append,aY]
    rw [L9 hy,List.count_append,List.count_singleton,if_pos (by simp)] at h2;lia
   have hyb:y∉line++[p]:=fun hm=>by
    rcases J8.mp hm with hm | hm
    .have:=alB run hm;lia
    .rw [K7.mp hm] at Z3;lia
   obtain ⟨my,hmy⟩:=n9.mp cN;have lJ:∀ q,((E7 E p).take (j+1)).count q=((E7 E p).take j).count q+if y=q then 1 else 0:=fun q=>by
    rw [L9 hy,List.count_append,List.count_singleton]
    by_cases e:y=q
    .rw [if_pos e,if_pos (by simpa using e)]
    .rw [if_neg e,if_neg (by simpa using e)]
   have turn:=F.turn (z':=fun q=>cnt E line q=((E7 E p).take (j+1)).count q) tnd (y:=y) (fun q hq=>by rw [lJ,if_neg (fun e=>hq e.symm),Nat.add_zero]) (by lia) hmy hyb;have O9:C0 ts (fun t=>V.int (if t=y then (cnt E line y:Nat)-(((E7 E p).take j).count y:Nat)-1 else (cnt E line t:Nat)-(((E7 E p).take j).count t:Nat)))=C0 ts (fun t=>V.int ((cnt E line t:Nat)-(((E7 E p).take (j+1)).count t:Nat))):=Q2 fun q _=>by
    rw [lJ]
    by_cases e:q=y
    .rw [if_pos e,e,if_pos rfl];exact congrArg V.int (by lia)
    .rw [if_neg e,if_neg (fun z=>e z.symm)];exact congrArg V.int (by lia)
   walk_at "rd";refine ⟨_,.inl ⟨_,Sum.inr y,.inl m6,rfl,by rw [M7,if_pos cN]⟩,_,_,rfl,rfl,_,j3 (k:=Sum.inr y) m6 (by rw [Y2];exact J5 (by lia)),?_⟩;have aU:A0 Q3 c (.dK (putK (C0 ts fun t=>V.int ((cnt E line t:Nat)-(((E7 E p).take j).count t:Nat))) (Sum.inr y) (V.int ((cnt E line y:Nat)-(((E7 E p).take j).count y:Nat)-1)))) c=some (.dK (C0 ts (fun t=>V.int ((cnt E line t:Nat)-(((E7 E p).take (j+1)).count t:Nat))))):=by
    rw [A1,mZ _ cN,<- O9];refine congrArg (fun x=>some (HO.dK x)) (Q2 fun q _=>?_)
    by_cases e:q=y
    .rw [if_pos e,if_pos e]
    .rw [if_neg e,if_neg e]
   have B11:SameBut c H5 (A0 Q3 c (.dK (putK (C0 ts fun t=>V.int ((cnt E line t:Nat)-(((E7 E p).take j).count t:Nat))) (Sum.inr y) (V.int ((cnt E line y:Nat)-(((E7 E p).take j).count y:Nat)-1))))):=B.at;have aV:A0 Q3 c (.dK (putK (C0 ts fun t=>V.int ((cnt E line t:Nat)-(((E7 E p).take j).count t:Nat))) (Sum.inr y) (V.int ((cnt E line y:Nat)-(((E7 E p).take j).count y:Nat)-1)))) f=some (.lst (fr.map V.int)):=by rw [A3 wT.symm];exact eM
   have eO:A0 Q3 c (.dK (putK (C0 ts fun t=>V.int ((cnt E line t:Nat)-(((E7 E p).take j).count t:Nat))) (Sum.inr y) (V.int ((cnt E line y:Nat)-(((E7 E p).take j).count y:Nat)-1)))) ln=some (.lst ((line++[p]).map V.str)):=by rw [A3 iE.symm];exact eN
   generalize A0 Q3 c (.dK (putK (C0 ts fun t=>V.int ((cnt E line t:Nat)-(((E7 E p).take j).count t:Nat))) (Sum.inr y) (V.int ((cnt E line y:Nat)-(((E7 E p).take j).count y:Nat)-1))))=Z7 at aU B11 aV eO ⊢
   refine ⟨V.int ((cnt E line y:Nat)-(((E7 E p).take (j+1)).count y:Nat)),.inl ⟨_,Sum.inr y,.inl aU,rfl,by rw [M7,if_pos cN]⟩,?_⟩
   try walk_at "rd"
   have wU:=frlen F;refine iteD (fun h0=>⟨R6 aV,V.int (ts.idxOf y:Nat),.inl ⟨_,Sum.inr y,.inl (B11 _ _ ncn.symm Q5),rfl,by rw [M7,if_pos cN]⟩,appOk aV (by rw [A4];exact J5 (by lia)) ?_⟩) fun h0=>?_
   .refine ⟨B11.put nf,?_,fr++[(my:Int)],?_,turn.1 (by lia),?_⟩
    .rw [A3 wT];exact aU
    .rw [A1,E5,idx hmy];rfl
    .rw [A3 l9.symm];exact eO
   .exact ⟨B11,aU,fr,aV,turn.2 (by lia),eO⟩
  .rintro Y Q3 ⟨x,fr,rfl,B,m6,eM,F,eN⟩;rw [A4,K0] at m6 F;have cO:∀ q,cnt E line q=cnt E (line++[p]) q+(E7 E p).count q:=fun q=>ahg (E:=E) (q:=q) pE
   refine ⟨⟨_,_,rfl⟩,B,line++[p],?_,fr,eM,F.congr fun q=>?_,eN,run.snoc W9,by rw [E3,o0];lia⟩
   .rw [m6];exact congrArg (fun x=>some (HO.dK x)) (Q2 fun q _=>congrArg V.int (by have:=cO q;lia))
   .have:=cO q
    lia
theorem agk:FnScope ["sign"] ["sign"] (C3 nM):=G1
abbrev agW:List Str:=["sign"]
theorem vaV:VS agW nM "sign" 0:=vq
theorem agl(F:FunD K "is_figure" "is_figure" nM f fd)(T:Txt P w K mg C C_Book C_NoName C_Ring):FnOk P w K mg base D9 1 f fd ["sign"] sZ:=by
 refine F.ok agk ?_ ?_
 .rintro _ _ _ _ ⟨c,rfl,_⟩;rfl
 .intro cdv A outer s H vs Q E hr h;have C6:=hu_of hr;have hu:=hr.units;refine ⟨_,QSs.out (A7 (D6 (jE q_le q_le D4 (vi vaV) D4))),?_⟩;obtain ⟨c,rfl,q⟩:=h;walk_at "rd";have e1:(Str.ofString "0").cps.toList=[48]:=by decide +kernel
  have e2:(Str.ofString "9").cps.toList=[57]:=by decide +kernel
  rw [e1,e2];simp only [sS];refine iteN (fun h1=>?_) fun h1=>?_
  .have e:figO c=!decide (57<c):=by
    unfold figO;rw [decide_eq_true (by lia:48<=c)]
    by_cases h2:c<=57
    .rw [decide_eq_true h2,decide_eq_false (by lia:¬ 57<c)];rfl
    .rw [decide_eq_false h2,decide_eq_true (by lia:57<c)];rfl
   rw [e] at q;exact q
  .have e:figO c=false:=by unfold figO;rw [decide_eq_false (by lia:¬ 48<=c)];rfl
   rw [e] at q;exact q
theorem agX:FnScope ["rules", "word"] ["rules", "word"] (C3 jT):=G1
abbrev aih:List Str:=["rules", "word"]
theorem vaW:VS aih jT "rules" 0:=vq
theorem agY(F:FunD K "has_rule" "has_rule" jT f fd)(T:Txt P w K mg C C_Book C_NoName C_Ring):FnOk P w K mg base D9 1 f fd ["rules", "word"] (spHas K):=by
 refine F.ok agX ?_ ?_
 .rintro _ _ _ _ ⟨a,ts,R,w,rfl,_⟩;rfl
 .intro cdv A outer s H vs Q E hr h;have C6:=hu_of hr;have hu:=hr.units;refine ⟨_,QSs.out (A7 (D6 (qe_cB (q_any (calm:=true)) T.b_any zW (qa_c (V9  (T0:CompOk ["rules", "word"] (C3 jT).names _ ["rule", "word"] 1 [1]) (O8 (K:=K) (vi vaW)) (fun _ _ _ _ _=>E6 (n:=0) (show List.Nodup (["rule", "word"]:List Str) by decide +kernel) rfl (Or.inl rfl)) (fun _ _ _ _ _=>y9) (fun _ _ _ _ _=>(j4 (q_eq (K:=K) hu) (qe_ix (K:=K) (qv 0) A6) (qv 1)))) A2)))),?_⟩;obtain ⟨a,ts,R,w,rfl,hR,hl,q⟩:=h;walk_at "rd";refine ⟨⟨_,.of hR.top⟩,compL (xs:=ts.map V.ref) [some (.str w)] rfl (fun D i ys H4=>ys=((R.take i).map fun z=>decide (z.1=w)).map V.bl/\Same H H4) (fun D nD=>⟨rfl,Same.new nD⟩) (by rintro D i ys H4 nD _ ⟨_,S⟩;exact .of (S _ _ hR.top)) ?_ ?_⟩
  .rintro D i x ys H4 nD hi hx ⟨rfl,S⟩ hD hy;obtain ⟨t,ht,rfl⟩:=J1 hx;obtain ⟨z,hz,C7⟩:=Paired.at hR.row ht;have eI:i<R.length:=(J4.mp hz).1;walk_at "rd";refine ⟨_,.inr (.of (S _ _ C7)),V.str z.1,M4 _ _,?_⟩;walk_at "rd";refine ⟨hD,by rw [A4,A4,K3];exact J5 (by lia),CW.put hi hy ⟨?_,S.put nD⟩⟩;rw [R4,hz]
   simp
  rintro D ys H4 nD ⟨rfl,S⟩ hD hy;rw [A4,hR.len,K0] at hD;refine ⟨_,rfl,hD,?_⟩;have e:((R.map fun z=>decide (z.1=w)).any id)=hasW R w:=by
   unfold hasW;rw [List.any_map];rfl
  rw [e];exact q H4 S
theorem aeA:FnScope ["rule"] ["rule"] (C3 nN):=G1
abbrev afq:List Str:=["rule"]
theorem gO:VS afq nN "rule" 0:=vq
theorem aeB(F:FunD K "pieces_told" "pieces_told" nN f fd)(T:Txt P w K mg C C_Book C_NoName C_Ring):FnOk P w K mg base D9 1 f fd ["rule"] (ajq K):=by
 refine F.ok aeA ?_ ?_
 .rintro _ _ _ _ ⟨t,z,rfl,_⟩;rfl
 .intro cdv A outer s H vs Q E hr h;have C6:=hu_of hr;have hu:=hr.units;obtain ⟨a_JOBS,m_JOBS,M_JOBS⟩:=T.x_JOBS;refine ⟨_,QSs.out (A5 (qs_if (E4 (q_eq (K:=K) hu) (qe_ix (K:=K) (vi gO) A6) D4) (A7 (D6 (R7 (K:=K) (vi gO) (Q0 A6) V8))) G7)
   (A5 (qs_if (E4 (q_eq (K:=K) hu) (qe_ix (K:=K) (vi gO) A6) D4) (A7 (D6 (R7 (K:=K) (vi gO) (Q0 A6) (Q0 A6)))) G7)
   (A7 (D6 (rR (E4 (q_inM M_JOBS) (qe_ix (K:=K) (vi gO) A6) (O7 m_JOBS)) (R7 (K:=K) (vi gO) (Q0 A6) V8) (P9 A2)))))),?_⟩
  obtain ⟨t,z,rfl,ht,q⟩:=h;have hT:C8 K H t ((z.1::z.2).map V.str):=.of ht;have A9:1<=((z.1::z.2).map V.str).length:=by rw [A4,E8];lia
  walk_at "rd";refine ⟨_,.inr hT,V.str z.1,M4 _ _,?_⟩;walk_at "rd";refine iteD (fun e=>?_) fun n1=>⟨_,.inr hT,V.str z.1,M4 _ _,?_⟩
  .refine rSlR.t hT (g3 (k:=2) (by decide) A9) fun p np=>q p _ (Same.new np) (.of ?_)
   rw [A1,show ((2:Int))=((2:Nat):Int) from rfl,z0,D0,iM,<- w6];unfold N2;rw [if_pos e]
  walk_at "rd";refine iteD (fun e=>?_) fun n2=>⟨_,.inr hT,V.str z.1,M4 _ _,?_⟩
  .refine rSlR.t hT (g3 (k:=1) (by decide) A9) fun p np=>q p _ (Same.new np) (.of ?_)
   have ecut:cutV ((z.1::z.2).map V.str) (some 1) (some 2)=(z.2.take 1).map V.str:=by
    unfold cutV
    cases z.2 with
    | nil=>rfl
    | cons y r=>
     have e1:HT.sIx ((z.1::y::r).map V.str).length 0 (some 1)=1:=by
      rw [show ((1:Int))=((1:Nat):Int) from rfl,HT.sIx_nat,A4,E8,E8];lia
     have e2:HT.sIx ((z.1::y::r).map V.str).length ((z.1::y::r).map V.str).length (some 2)=2:=by
      rw [show ((2:Int))=((2:Nat):Int) from rfl,HT.sIx_nat,A4,E8,E8];lia
     rw [e1,e2];rfl
   rw [A1,ecut];unfold N2;rw [if_neg n1,if_pos e]
  walk_at "rd"
  by_cases hj:dF z.1
  .rw [sR hj];refine iteT (rSlR.t hT (g3 (k:=1) (by decide) A9) fun p np=>q p _ (Same.new np) (.of ?_));rw [A1,D0,mV];unfold N2;have h3:z.1=("row" : Str)\/z.1=("marks" : Str)\/z.1=("over" : Str):=by
    rcases hj with h | h | h | h | h
    .exact .inl h
    .exact .inr (.inl h)
    .exact absurd h n1
    .exact absurd h n2
    .exact .inr (.inr h)
   rw [if_neg n1,if_neg n2,if_pos h3]
  .rw [alv hj];refine iteF fun p np=>q p _ (Same.new np) (.of ?_)
   rw [A1];unfold N2;rw [if_neg n1,if_neg n2,if_neg (fun h=>hj (by
    rcases h with h | h | h
    .exact .inl h
    .exact .inr (.inl h)
    .exact .inr (.inr (.inr (.inr h)))))]
   rfl
theorem agZ:FnScope ["jobs", "piece", "job", "figures"] ["jobs", "piece", "job", "figures"] (C3 bZ):=G1
abbrev oA:List Str:=["jobs", "piece", "job", "figures"]
theorem vaY:VS oA bZ "jobs" 0:=vq
theorem uL:VS oA bZ "piece" 1:=vq
theorem va0:VS oA bZ "job" 2:=vq
theorem va1:VS oA bZ "figures" 3:=vq
theorem ag0(F:FunD K "is_clash" "is_clash" bZ f fd)(T:Txt P w K mg C C_Book C_NoName C_Ring)(G_is_figure:FO P w K mg base 1 "is_figure" ["sign"] [] sZ):FnOk P w K mg base D9 2 f fd ["jobs", "piece", "job", "figures"] ajr:=by
 refine F.ok agZ ?_ ?_
 .rintro _ _ _ _ ⟨d,p,j,fg,ks,g,rfl,_⟩;rfl
 .intro cdv A outer s H vs Q E hr h;have C6:=hu_of hr;have hu:=hr.units;obtain ⟨a_AGAIN,m_AGAIN,M_AGAIN⟩:=T.x_AGAIN;refine ⟨_,QSs.out (A5 (qs_if (QW.pt (rT (E4 (q_in (K:=K) hu) (vi uL) (vi vaY)) (rS (QW.pt (qw_or (E4 (q_ne (K:=K) hu) (Y0 C6 (vi vaY) (vi uL)) (vi va0)) (amf (E4 (mU (K:=K) hu) (vi va0) (O7 m_AGAIN)))))))) (A7 (D6 qe_bl)) G7)
   (A7 (D6 (y7 (vi va1) (dC (qe_cB (q_any (calm:=true)) T.b_any zW (qa_c (V9  (T0:CompOk ["jobs", "piece", "job", "figures"] (C3 bZ).names _ ["sign"] 1 []) (rW (vi uL)) (fun _ _ _ _ _=>E6 (n:=0) (show List.Nodup (["sign"]:List Str) by decide +kernel) rfl (Or.inl rfl)) (fun _ _ _ _ _=>y9) (fun _ _ _ _ _=>(F9 G_is_figure (hm hr) (qa_c (qv 0) A2)))) A2))))))),?_⟩
  obtain ⟨d,p,j,fg,ks,g,rfl,hd,hp,h1,h2,q⟩:=h;walk_at "rd";have tail:(if fg=true then gA (fZ p) 1 [] (gName 0) tYes (tCall sZ [] E0 (tCons (tVar 0) tNil)) [some (V.ref d),some (V.str p),some (V.str j),some (V.bl fg)] (fun x H1=>rAnyB true [x] H1 Q) H else Q (V.bl false) H):=by
   by_cases hf:fg=true
   .rw [if_pos hf];refine compS [] rfl (fun D i ys H4=>ys=((p.cps.toList.take i).map figO).map V.bl/\Same H H4) (fun D nD=>⟨rfl,Same.new nD⟩) ?_ ?_
    .rintro D i x ys H4 nD hi hx ⟨rfl,S⟩ hD hy;walk_at "rd";refine ⟨x,rfl,hD,?_,CW.put hi hy ⟨?_,S.put nD⟩⟩
     .rw [A4,A4,K3];exact J5 (by have:p.cps.size=p.length:=rfl;lia)
     .rw [R4,hx]
      simp
    .rintro D ys H4 nD ⟨rfl,S⟩ hD hy;walk_at "rd";refine ⟨_,hD,?_⟩;have e:((p.cps.toList.take p.cps.size).map figO).any id=false:=by
      rw [List.any_eq_false];intro b hb;obtain ⟨c,hc,rfl⟩:=G6.mp hb;rw [h2 hf c (mB hc)];decide
     rw [e];exact q H4 S
   .rw [if_neg hf];exact q H (U9 H)
  refine rInR.d (p8 (k:=Sum.inr p) hd) ⟨_,rfl,?_⟩;rw [M7,fJ]
  by_cases hk:p∈ks
  .obtain ⟨e1,e2⟩:=h1 hk;rw [if_pos hk];refine iteT ⟨V.str (g p),.inl ⟨_,Sum.inr p,.inl hd,rfl,by rw [M7,if_pos hk]⟩,?_⟩;walk_at "rd";rw [decide_eq_true e1];refine iteF (rInR.l (.inr (M_AGAIN _)) rfl rfl ⟨_,rfl,?_⟩);have e3:X7 (.str j) [V.str "letter",V.str "mark",V.str "over"]=true:=by
    have:=mS j jP
    rw [decide_eq_true e2] at this;exact this
   rw [e3];exact iteF tail
  .rw [if_neg hk];exact iteF tail
theorem sc_jobs_of:FnScope ["rules", "figures", "jobs", "rule", "piece"] ["rules"] (C3 g4):=G1
abbrev kC:List Str:=["rules", "figures", "jobs", "rule", "piece"]
theorem uM:VS kC g4 "rules" 0:=vq
theorem va3:VS kC g4 "figures" 1:=vq
theorem oB:VS kC g4 "jobs" 2:=vq
theorem uN:VS kC g4 "rule" 3:=vq
theorem va6:VS kC g4 "piece" 4:=vq
theorem va7:LS g4 "figures":=lq
theorem va8:LS g4 "jobs":=lq
theorem va9:LS g4 "rule":=lq
theorem vba:LS g4 "piece":=lq
theorem aii(F:FunD K "jobs_of" "jobs_of" g4 f fd)(T:Txt P w K mg C C_Book C_NoName C_Ring)(G_has_rule:FO P w K mg base 1 "has_rule" ["rules", "word"] [] (spHas K))(G_pieces_told:FO P w K mg base 1 "pieces_told" ["rule"] [] (ajq K))(G_is_clash:FO P w K mg base 2 "is_clash" ["jobs", "piece", "job", "figures"] [] ajr):FnOk P w K mg base D9 3 f fd ["rules"] (amk K):=by
 refine F.ok sc_jobs_of ?_ ?_
 .rintro _ _ _ _ ⟨a,ts,R,g,rfl,_⟩;rfl
 .intro cdv A outer s H vs Q E hr h;have C6:=hu_of hr;have hu:=hr.units;obtain ⟨a_JOBS,m_JOBS,M_JOBS⟩:=T.x_JOBS;refine ⟨_,QSs.out (A5 (C9 (n:=1) sc_jobs_of.nd rfl va7 (F9 G_has_rule (hm hr) (qa_c (vi uM) (qa_c D4 A2))))
   (A5 (C9 (n:=2) sc_jobs_of.nd rfl va8 y8)
   (A5 (N5 PassesOwn.never (O8 (K:=K) (vi uM)) (E6 (n:=3) sc_jobs_of.nd rfl va9 (.inl rfl)) (A7 (N5 PassesOwn.never (dE (K:=K) (F9 G_pieces_told (hm hr) (qa_c (vi uN) A2))) (E6 (n:=4) sc_jobs_of.nd rfl vba (.inl rfl)) (A5 (qs_if (f8 (K:=K) (F9 G_is_clash (hm hr) (qa_c (vi oB) (qa_c (vi va6) (qa_c (jJ M_JOBS (O7 m_JOBS) (qe_ix (K:=K) (vi uN) A6)) (qa_c (vi va3) A2)))))) (A7 dD) G7)
   (A7 (g0 C6 (vi oB) (vi va6) (jJ M_JOBS (O7 m_JOBS) (qe_ix (K:=K) (vi uN) A6))))))))
   (A5 (qs_if (f8 (K:=K) (F9 G_has_rule (hm hr) (qa_c (vi uM) (qa_c D4 A2)))) (A7 (g0 C6 (vi oB) D4 D4)) G7)
   (A7 (D6 (vi oB))))))),?_⟩
  obtain ⟨a,ts,R,g,rfl,hR,hl,Q8,hnc,hbl,q⟩:=h;walk_at "rd";refine ⟨a,ts,R, "figures",rfl,hR,hl,fun H1 S1=>?_⟩;generalize hasW R "figures"=fg at hnc;intro d nd;have pR:H d=none:=S1.free nd;have S2:Same H (A0 H1 d (.dK [])):=fun b o h=>C4 (S1 b o h) nd
  refine ⟨⟨_,.of (S2 _ _ hR.top)⟩,forL (xs:=ts.map V.ref) (fun i Y H2=>∃ (u v:Option V),Y=[some (.ref a),some (.bl fg),some (.ref d),u,v]/\Same H H2/\H2 d=some (.dK (C0 (keysP (E1 (R.take i))) fun t=>.str (g t))))
   ⟨none,none,rfl,S2,by rw [A1];rfl⟩ (by rintro i Y H2 _ ⟨_,_,_,S,_⟩;exact .of (S _ _ hR.top)) ?_ ?_⟩
  .rintro i x Y H2 hx ⟨u,v,rfl,S,hd⟩;obtain ⟨t,ht,rfl⟩:=J1 hx;obtain ⟨z,hz,C7⟩:=Paired.at hR.row ht;walk_at "rd";refine ⟨t,z,rfl,S _ _ C7,fun p H3 S3 hp=>⟨p,rfl,⟨_,hp⟩,forT (xs:=(N2 z).map V.str) (fun j Y H4=>∃ (v:Option V),Y=[some (.ref a),some (.bl fg),some (.ref d),some (.ref t),v]/\C8 K H4 p ((N2 z).map V.str)/\Same H H4/\H4 d=some (.dK (C0 (keysP (E1 (R.take i)++((N2 z).take j).map fun p=>(p,jobD z.1))) fun t=>.str (g t))))
    ⟨v,rfl,hp,S.trans S3,by rw [o9,i7,M9];exact S3 _ _ hd⟩ (by rintro j Y H4 _ ⟨_,_,h,_⟩;exact h) ?_ ?_⟩⟩
   .rintro j x Y H4 iF ⟨v,rfl,lH,S4,W7⟩;obtain ⟨pc,wV,rfl⟩:=J1 iF;obtain ⟨e1,e2⟩:=aqI hz wV;obtain ⟨n1,n2,n3,n4⟩:=hnc _ _ _ e1;rw [e2] at n2;have hw:=jQ (G2 wV);have T5:C8 K H4 t ((z.1::z.2).map V.str):=.of (S4 _ _ C7);have dY:(keysP (E1 (R.take i)++((N2 z).take j).map fun p=>(p,jobD z.1))).length<=10000:=by
     have h1:=afZ (E1 (R.take i)++((N2 z).take j).map fun p=>(p,jobD z.1));have h2:=congrArg List.length e2;rw [K3] at h2;lia
    walk_at "rd";refine ⟨_,.inr T5,V.str z.1,M4 _ _,Sum.inr z.1,rfl,V.str (jobD z.1),sR hw,d,pc,jobD z.1,fg,_,g,rfl,W7,n4,fun hk=>⟨n1.symm,n2 ((sQ _ _).mp hk)⟩,n3,fun H5 S5=>⟨false,rfl,iteF ⟨_,.inr (T5.same S5),V.str z.1,M4 _ _,Sum.inr z.1,rfl,V.str (jobD z.1),sR hw,_,j3 (k:=Sum.inr pc) (S5 _ _ W7) (by rw [Y2];exact J5 (by lia)),(lH.same S5).dput (S5 _ _ W7),(S4.trans S5).put pR,?_⟩⟩⟩;rw [A1,L9 wV,E5,<- i5];rw [show ([pc].map fun p=>(p,jobD z.1))=[(pc,jobD z.1)] from rfl,ah3];unfold dd
    by_cases L5:pc∈keysP (E1 (R.take i)++((N2 z).take j).map fun p=>(p,jobD z.1))
    .rw [if_pos L5,mZ _ L5];refine congrArg (fun x=>some (HO.dK x)) (Q2 fun t _=>?_)
     by_cases e:t=pc
     .rw [if_pos e,e,n1]
     .rw [if_neg e]
    .rw [if_neg L5,z8 _ L5];refine congrArg (fun x=>some (HO.dK x)) (Q2 fun t _=>?_)
     by_cases e:t=pc
     .rw [if_pos e,e,n1]
     .rw [if_neg e]
   .rintro Y H4 ⟨v,rfl,lH,S4,W7⟩;walk_at "rd";refine ⟨S4,?_⟩;rw [aeR hz];rw [A4,K0] at W7;exact W7
  .rintro Y H2 ⟨u,v,rfl,S,hd⟩;rw [A4,hR.len,K0] at hd;walk_at "rd";refine ⟨a,ts,R, "blanks",rfl,hR.same S,hl,fun H3 S3=>⟨hasW R "blanks",rfl,?_⟩⟩;have Q9:=S3 _ _ hd;have hkn:(" " : Str)∉keysP (E1 R):=fun h=>hbl ((sQ _ _).mp h)
   have dY:=afZ (E1 R);have hg:∀ t∈keysP (E1 R),V.str (g t)=jobG g t:=fun t ht=>by
    unfold jobG;rw [if_neg (fun e=>hkn (by rw [<- e];exact ht))]
   by_cases hb:hasW R "blanks"=true
   .rw [hb];refine iteT ⟨_,j3 (k:=Sum.inr (" " : Str)) Q9 (by rw [Y2];exact J5 (by lia)),q d _ pR ((S.trans S3).put pR) ?_⟩;rw [A1,z8 _ hkn];unfold bR;rw [if_pos hb];refine congrArg (fun x=>some (HO.dK x)) (Q2 fun t ht=>?_);unfold jobG
    by_cases e:t=(" " : Str)
    .simp only [if_pos e]
    .simp only [if_neg e]
   .rw [Bool.not_eq_true] at hb;rw [hb];refine iteF (q d _ pR (S.trans S3) ?_);unfold bR;rw [hb,if_neg K9,M9,Q9];exact congrArg (fun x=>some (HO.dK x)) (Q2 hg)
theorem sc_misused:FnScope ["rule", "jobs", "first"] ["rule", "jobs"] (C3 aA):=G1
abbrev agm:List Str:=["rule", "jobs", "first"]
theorem kD:VS agm aA "rule" 0:=vq
theorem vbc:VS agm aA "first" 2:=vq
theorem vbd:LS aA "first":=lq
theorem aij(F:FunD K "misused" "misused" aA f fd)(T:Txt P w K mg C C_Book C_NoName C_Ring):FnOk P w K mg base D9 1 f fd ["rule", "jobs"] (amo K):=by
 refine F.ok sc_misused ?_ ?_
 .rintro _ _ _ _ ⟨t,d,z,ks,g,rfl,_⟩;rfl
 .intro cdv A outer s H vs Q E hr h;have C6:=hu_of hr;have hu:=hr.units;refine ⟨_,QSs.out (A5 (qs_if (E4 (q_eq (K:=K) hu) (qe_ix (K:=K) (vi kD) A6) D4) (A7 (D6 (V9  (T0:CompOk ["rule", "jobs", "first"] (C3 aA).names _ ["piece", "jobs"] 1 [1]) (dE (K:=K) (R7 (K:=K) (vi kD) (Q0 A6) (Q0 A6))) (fun _ _ _ _ _=>E6 (n:=0) (show List.Nodup (["piece", "jobs"]:List Str) by decide +kernel) rfl (Or.inl rfl)) (fun _ _ _ _ _=>(bP (E4 (q_ne (K:=K) hu) (nB C6 (qv 1) (qv 0)) D4))) (fun _ _ _ _ _=>(qv 0))))) G7)
   (A5 (qs_if (E4 (q_eq (K:=K) hu) (qe_ix (K:=K) (vi kD) A6) D4) (A5 (rX (n:=2) sc_misused.nd rfl vbd (T0:CompOk ["rule", "jobs", "first"] (C3 aA).names _ ["piece", "jobs"] 1 [1]) (dE (K:=K) (R7 (K:=K) (vi kD) (Q0 A6) (Q0 A6))) (fun _ _ _ _ _=>E6 (n:=0) (show List.Nodup (["piece", "jobs"]:List Str) by decide +kernel) rfl (Or.inl rfl)) (fun _ _ _ _ _=>(bP (E4 (q_ne (K:=K) hu) (nB C6 (qv 1) (qv 0)) D4))) (fun _ _ _ _ _=>(qv 0)))
   (A7 (D6 (qe_op (q_add (K:=K)) (vi vbc) (V9  (T0:CompOk ["rule", "jobs", "first"] (C3 aA).names _ ["piece", "jobs"] 1 [1]) (dE (K:=K) (R7 (K:=K) (vi kD) (Q0 A6) V8)) (fun _ _ _ _ _=>E6 (n:=0) (show List.Nodup (["piece", "jobs"]:List Str) by decide +kernel) rfl (Or.inl rfl)) (fun _ _ _ _ _=>(bP (E4 (mU (K:=K) hu) (nB C6 (qv 1) (qv 0)) (P9 (qa_c D4 (qa_c D4 A2)))))) (fun _ _ _ _ _=>(qv 0))))))) G7)
   (A7 (D6 (V7 A2))))),?_⟩
  obtain ⟨t,d,z,ks,g,rfl,ht,hd,us,hl,q⟩:=h;have hT:C8 K H t ((z.1::z.2).map V.str):=.of ht;walk_at "rd";refine ⟨_,.inr hT,V.str z.1,M4 _ _,?_⟩;walk_at "rd"
  by_cases h1:z.1=("great" : Str)
  .rw [decide_eq_true h1];have A9:1<=((z.1::z.2).map V.str).length:=by rw [A4,E8];lia
   refine iteT (rSlR.t hT (g3 (k:=1) (by decide) A9) fun s ns=>?_);have ecut:cutV ((z.1::z.2).map V.str) (some 1) (some 2)=(z.2.take 1).map V.str:=by
    rw [show cutV ((z.1::z.2).map V.str) (some 1) (some 2)=_ from ahl ((z.1::z.2).map V.str) (i:=1) (j:=2) (by decide),D0,iM,List.drop_zero,<- List.map_take]
   rw [ecut];have S1:Same H (A0 H s (.tup ((z.2.take 1).map V.str))):=Same.new ns;have hs:A0 H s (.tup ((z.2.take 1).map V.str)) s=some (.tup ((z.2.take 1).map V.str)):=A1;generalize A0 H s (.tup ((z.2.take 1).map V.str))=H1 at S1 hs;refine ⟨s,rfl,⟨_,.of hs⟩,compT (xs:=(z.2.take 1).map V.str) [some (.ref d)] rfl (fun D i ys H2=>ys=[]/\Same H1 H2) (fun D nD=>⟨rfl,Same.new nD⟩) (by rintro D i ys H2 nD _ ⟨_,S⟩;exact .of (S _ _ hs)) ?_ ?_⟩
   .rintro D i y ys H2 nD hi hy ⟨rfl,S⟩ hD v7;obtain ⟨p,hp,rfl⟩:=J1 hy;obtain ⟨m1,m2⟩:=us.gr h1 p (G2 hp);have Z0:=S _ _ (S1 _ _ hd);walk_at "rd";refine ⟨.inl ⟨_,.inl Z0⟩,_,p8 (k:=Sum.inr p) Z0,?_⟩;rw [M7,if_pos m1,Option.getD_some,m2];refine ⟨_,rfl,?_⟩;rw [show ∀ v:Str,(!decide (v=v))=false by intro v;simp];exact iteF ⟨hD,hi,K8 _,⟨_,rfl⟩,rfl,S⟩
   .rintro D ys H2 nD ⟨rfl,S⟩ hD v7;exact q D H2 (S1.free nD) (S1.trans S) hD
  rw [decide_eq_false h1];refine iteF ⟨_,.inr hT,V.str z.1,M4 _ _,?_⟩;walk_at "rd"
  by_cases h2:z.1=("as" : Str)
  .rw [decide_eq_true h2];have A9:1<=((z.1::z.2).map V.str).length:=by rw [A4,E8];lia
   refine iteT (rSlR.t hT (g3 (k:=2) (by decide) A9) fun s ns=>?_);have ecut:cutV ((z.1::z.2).map V.str) (some 2) (some 3)=((z.2.drop 1).take 1).map V.str:=by
    rw [show cutV ((z.1::z.2).map V.str) (some 2) (some 3)=_ from ahl ((z.1::z.2).map V.str) (i:=2) (j:=3) (by decide),D0,iM,<- w6,<- List.map_take]
   rw [ecut];have S1:Same H (A0 H s (.tup (((z.2.drop 1).take 1).map V.str))):=Same.new ns;have hs:A0 H s (.tup (((z.2.drop 1).take 1).map V.str)) s=some (.tup (((z.2.drop 1).take 1).map V.str)):=A1;generalize A0 H s (.tup (((z.2.drop 1).take 1).map V.str))=H1 at S1 hs;refine ⟨s,rfl,⟨_,.of hs⟩,compT (xs:=((z.2.drop 1).take 1).map V.str) [some (.ref d)] rfl (fun D i ys H2=>ys=[]/\Same H1 H2) (fun D nD=>⟨rfl,Same.new nD⟩) (by rintro D i ys H2 nD _ ⟨_,S⟩;exact .of (S _ _ hs)) ?_ ?_⟩
   .rintro D i y ys H2 nD hi hy ⟨rfl,S⟩ hD v7;obtain ⟨p,hp,rfl⟩:=J1 hy;obtain ⟨m1,m2⟩:=us.a1 h2 p (G2 hp);have Z0:=S _ _ (S1 _ _ hd);walk_at "rd";refine ⟨.inl ⟨_,.inl Z0⟩,_,p8 (k:=Sum.inr p) Z0,?_⟩;rw [M7,if_pos m1,Option.getD_some,m2];refine ⟨_,rfl,?_⟩;rw [show ∀ v:Str,(!decide (v=v))=false by intro v;simp];exact iteF ⟨hD,hi,K8 _,⟨_,rfl⟩,rfl,S⟩
   rintro D ys H2 nD ⟨rfl,S⟩ hD v7;have S2:=S1.trans S;have hT2:C8 K H2 t ((z.1::z.2).map V.str):=.of (S2 _ _ ht);refine rSlR.t hT2 (g3 (k:=3) (by decide) A9) fun s2 ns2=>?_
   have ecut2:cutV ((z.1::z.2).map V.str) (some 3) none=(z.2.drop 2).map V.str:=by
    rw [show cutV ((z.1::z.2).map V.str) (some 3) none=_ from z0 ((z.1::z.2).map V.str) 3,D0,iM,<- w6]
   rw [ecut2];have S3:Same H2 (A0 H2 s2 (.tup ((z.2.drop 2).map V.str))):=Same.new ns2;have gW:A0 H2 s2 (.tup ((z.2.drop 2).map V.str)) s2=some (.tup ((z.2.drop 2).map V.str)):=A1;generalize A0 H2 s2 (.tup ((z.2.drop 2).map V.str))=H3 at S3 gW;refine ⟨s2,rfl,⟨_,.of gW⟩,compT (xs:=(z.2.drop 2).map V.str) [some (.ref d)] rfl (fun D i ys H4=>ys=[]/\Same H3 H4) (fun D nD=>⟨rfl,Same.new nD⟩) (by rintro D i ys H4 nD _ ⟨_,S⟩;exact .of (S _ _ gW)) ?_ ?_⟩
   .rintro D2 i y ys H4 nD2 hi hy ⟨rfl,S4⟩ hD2 wW;obtain ⟨p,hp,rfl⟩:=J1 hy;obtain ⟨m1,m2⟩:=us.a2 h2 p (G2 hp);have W7:=S4 _ _ (S3 _ _ (S2 _ _ hd));walk_at "rd";refine ⟨.inl ⟨_,.inl W7⟩,_,p8 (k:=Sum.inr p) W7,?_⟩;rw [M7,if_pos m1,Option.getD_some];refine ⟨by decide,fun v nv=>?_⟩;have fin:X7 (g p) [V.str (Str.ofString "letter"),V.str (Str.ofString "mark")]=true/\flatV (g p)=true:=by
     rcases m2 with m2 | m2 <;> rw [m2] <;> exact ⟨by decide +kernel,rfl⟩
    refine rInR.l (.inr (.of A1)) fin.2 rfl ?_;rw [fin.1,Bool.true_xor];exact ⟨_,rfl,iteF ⟨C4 hD2 nv,hi,K8 _,⟨_,rfl⟩,rfl,S4.trans (Same.new nv)⟩⟩
   rintro D2 ys H4 nD2 ⟨rfl,S4⟩ hD2 wW;have hD4:=S4 _ _ (S3 _ _ hD);refine rAddR.l hD4 hD2 (by decide) fun l nl=>?_
   exact q l _ ((S2.trans (S3.trans S4)).free nl) ((S2.trans (S3.trans S4)).trans (Same.new nl)) A1
  rw [decide_eq_false h2];exact iteF fun p np=>q p _ np (Same.new np) A1
theorem sc_check_letters:FnScope ["rules", "jobs", "rule", "wrong"] ["rules", "jobs"] (C3 aB):=G1
abbrev oC:List Str:=["rules", "jobs", "rule", "wrong"]
theorem vbe:VS oC aB "rules" 0:=vq
theorem vbf:VS oC aB "jobs" 1:=vq
theorem vbg:VS oC aB "rule" 2:=vq
theorem vbh:VS oC aB "wrong" 3:=vq
theorem vbi:LS aB "rule":=lq
theorem vbj:LS aB "wrong":=lq
theorem adL(F:FunD K "check_letters" "check_letters" aB f fd)(T:Txt P w K mg C C_Book C_NoName C_Ring)(G_misused:FO P w K mg base 1 "misused" ["rule", "jobs"] [] (amo K)):FnOk P w K mg base D9 2 f fd ["rules", "jobs"] (ahm K):=by
 refine F.ok sc_check_letters ?_ ?_
 .rintro _ _ _ _ ⟨a,d,ts,R,ks,g,rfl,_⟩;rfl
 .intro cdv A outer s H vs Q E hr h;have C6:=hu_of hr;have hu:=hr.units;refine ⟨_,QSs.out (A7 (N5 PassesOwn.never (O8 (K:=K) (vi vbe)) (E6 (n:=2) sc_check_letters.nd rfl vbi (.inl rfl)) (A5 (C9 (n:=3) sc_check_letters.nd rfl vbj (F9 G_misused (hm hr) (qa_c (vi vbg) (qa_c (vi vbf) A2))))
   (A7 (qs_if (f8 (K:=K) (vi vbh)) (A7 dD) G7))))),?_⟩
  obtain ⟨a,d,ts,R,ks,g,rfl,hR,hd,hw,q⟩:=h;walk_at "rd";refine ⟨⟨_,.of hR.top⟩,forL (xs:=ts.map V.ref) (fun i Y H2=>∃ (u v:Option V),Y=[some (.ref a),some (.ref d),u,v]/\Same H H2) ⟨none,none,rfl,U9 H⟩ (by rintro i Y H2 _ ⟨_,_,_,S⟩;exact .of (S _ _ hR.top)) ?_ ?_⟩
  .rintro i x Y H2 hx ⟨u,v,rfl,S⟩;obtain ⟨t,ht,rfl⟩:=J1 hx;obtain ⟨z,hz,C7⟩:=Paired.at hR.row ht;obtain ⟨n1,n2⟩:=hw z (G2 hz);walk_at "rd";refine ⟨t,d,z,ks,g,rfl,S _ _ C7,S _ _ hd,n1,n2,fun p H3 np S3 hp=>⟨_,sB hp,iteF (S.trans S3)⟩⟩
  .rintro Y H2 ⟨u,v,rfl,S⟩;exact q H2 S
theorem aik:FnScope ["rules", "word"] ["rules", "word"] (C3 jU):=G1
abbrev aks:List Str:=["rules", "word"]
theorem vbk:VS aks jU "rules" 0:=vq
theorem ail(F:FunD K "line_of" "line_of" jU f fd)(T:Txt P w K mg C C_Book C_NoName C_Ring)(G_lined_up:FO P w K mg base 3 "lined_up" ["rows"] [] ajn):FnOk P w K mg base D9 4 f fd ["rules", "word"] (aml K):=by
 refine F.ok aik ?_ ?_
 .rintro _ _ _ _ ⟨a,ts,R,w,rank,rfl,_⟩;rfl
 .intro cdv A outer s H vs Q E hr h;have C6:=hu_of hr;have hu:=hr.units;refine ⟨_,QSs.out (A7 (D6 (F9 G_lined_up (hm hr) (qa_c (V9  (T0:CompOk ["rules", "word"] (C3 jU).names _ ["rule", "word"] 1 [1]) (O8 (K:=K) (vi vbk)) (fun _ _ _ _ _=>E6 (n:=0) (show List.Nodup (["rule", "word"]:List Str) by decide +kernel) rfl (Or.inl rfl)) (fun _ _ _ _ _=>(bP (E4 (q_eq (K:=K) hu) (qe_ix (K:=K) (qv 0) A6) (qv 1)))) (fun _ _ _ _ _=>(qe_cT (jI (K:=K) (calm:=true)) T.b_list gC (qa_c (R7 (K:=K) (qv 0) (Q0 A6) V8) A2)))) A2)))),?_⟩;obtain ⟨a,ts,R,w,rank,rfl,hR,hl,l9,m5,q⟩:=h;walk_at "rd";refine ⟨⟨_,.of hR.top⟩,compL (xs:=ts.map V.ref) [some (.str w)] rfl (fun D i ys H4=>∃ qs:List Addr,ys=qs.map V.ref/\RowsAt H H4 D qs (rowsW (R.take i) w)) (fun D nD=>⟨[],rfl,⟨⟨A1,.nil⟩,by simp,fun r hr=>by rw [K7.mp hr];exact nD,Same.new nD⟩⟩)
   (by rintro D i ys H4 nD _ ⟨qs,_,RA⟩;exact .of (RA.same _ _ hR.top)) ?_ ?_⟩
  .rintro D i x ys H4 nD hi hx ⟨qs,rfl,RA⟩ hD hy;obtain ⟨t,ht,rfl⟩:=J1 hx;obtain ⟨z,hz,C7⟩:=Paired.at hR.row ht;have eI:i<R.length:=(J4.mp hz).1;have T5:C8 K H4 t ((z.1::z.2).map V.str):=.of (RA.same _ _ C7);have A9:1<=((z.1::z.2).map V.str).length:=by rw [A4,E8];lia
   walk_at "rd";refine ⟨_,.inr T5,V.str z.1,M4 _ _,?_⟩;walk_at "rd";refine iteD (fun e=>rSlR.t T5 (g3 (k:=1) (by decide) A9) fun p np=>?_) fun e=>⟨hD,jB hi hy ⟨qs,rfl,?_⟩⟩
   .rw [D0,mV];walk_at "rd";refine rListR.l (.inr (.of A1)) fun p2 m7=>⟨C4 (C4 hD np) m7,?_,CW.put hi hy ⟨qs++[p2],by rw [E5];rfl,?_⟩⟩
    .rw [A4] at hy;rw [A4];exact J5 (by lia)
    .rw [aeS hz,if_pos e];have n2:H4 p2=none:=(Same.new np).free m7;exact RA.grow (fun b o h=>C4 (C4 h np) m7) n2 A1
   .rw [aeS hz,if_neg e];exact RA
  rintro D ys H4 nD ⟨qs,rfl,RA⟩ hD hy;rw [A4,hR.len,K0] at RA;refine ⟨D,qs,rowsW R w,rank,rfl,RA.rows,l9,m5,fun l line H5 nl S5 hl5 run cov=>?_⟩;exact q l line H5 (RA.same.free nl) (RA.same.trans S5) hl5 run cov
theorem sc_forms_of:FnScope ["rules", "forms", "rule"] ["rules"] (C3 cA):=G1
abbrev uO:List Str:=["rules", "forms", "rule"]
theorem vbl:VS uO cA "rules" 0:=vq
theorem vbm:VS uO cA "forms" 1:=vq
theorem uP:VS uO cA "rule" 2:=vq
theorem vbo:LS cA "forms":=lq
theorem vbp:LS cA "rule":=lq
theorem ag1(F:FunD K "forms_of" "forms_of" cA f fd)(T:Txt P w K mg C C_Book C_NoName C_Ring):FnOk P w K mg base D9 1 f fd ["rules"] (ahk K):=by
 refine F.ok sc_forms_of ?_ ?_
 .rintro _ _ _ _ ⟨a,ts,R,rfl,_⟩;rfl
 .intro cdv A outer s H vs Q E hr h;have C6:=hu_of hr;have hu:=hr.units;refine ⟨_,QSs.out (A5 (C9 (n:=1) sc_forms_of.nd rfl vbo y8)
   (A5 (N5 PassesOwn.never (O8 (K:=K) (vi vbl)) (E6 (n:=2) sc_forms_of.nd rfl vbp (.inl rfl)) (A7 (qs_if (E4 (q_eq (K:=K) hu) (qe_ix (K:=K) (vi uP) A6) D4) (A7 (Q1 (qe_mB (K:=K) T8 PySem.F.slot_list_extend PySem.F.type_list_extend (ajs (K:=K)) (alm (vi vbm) (qe_ix (K:=K) (vi uP) A6) (V7 A2)) (qa_c (R7 (K:=K) (vi uP) (Q0 A6) V8) A2)))) G7)))
   (A7 (D6 (vi vbm))))),?_⟩
  obtain ⟨a,ts,R,rfl,hR,hg,hl,hf,q⟩:=h;walk_at "rd";intro d nd;refine ⟨⟨_,.of (C4 hR.top nd)⟩,forL (xs:=ts.map V.ref) (fun i Y H2=>∃ (u:Option V) (ad:Str->Addr),Y=[some (.ref a),some (.ref d),u]/\Same H H2/\H2 d=some (.dK (C0 (D5 (R.take i)) fun y=>.ref (ad y)))/\DL (A0 H d (.dK [])) H2 (D5 (R.take i)) ad (F7 (R.take i))) ⟨none,fun _=>d,rfl,Same.new nd,A1,⟨by simp [D5,K5,J0],by simp [D5,K5,J0],by simp [D5,K5,J0]⟩⟩ (by rintro i Y H2 _ ⟨_,_,_,S,_⟩;exact .of (S _ _ hR.top)) ?_ ?_⟩
  .rintro i x Y H2 hx ⟨u,ad,rfl,S,hd,dl⟩;obtain ⟨t,ht,rfl⟩:=J1 hx;obtain ⟨z,hz,C7⟩:=Paired.at hR.row ht;have hT:C8 K H2 t ((z.1::z.2).map V.str):=.of (S _ _ C7);walk_at "rd";refine ⟨_,.inr hT,V.str z.1,M4 _ _,?_⟩;walk_at "rd"
   by_cases m8:z.1=("great" : Str)
   .rw [decide_eq_true m8];refine iteT ?_;obtain ⟨w,ps⟩:=z;obtain rfl:w=("great" : Str):=m8;obtain ⟨y,fs,rfl⟩:∃ y fs,ps=y::fs:=by
     cases ps with
     | nil=>exact absurd rfl (hg _ (G2 hz) rfl)
     | cons y fs=>exact ⟨y,fs,rfl⟩
    have etk:R.take (i+1)=R.take i++[(("great" : Str),y::fs)]:=L9 hz;have l9:(F7 (R.take i) y).length+fs.length<=10000:=by
     have:=hf (i+1) y
     rw [etk,tF,if_pos rfl,E3] at this;exact this
    have dY:(C0 (D5 (R.take i)) fun y=>V.ref (ad y)).length<=1000:=by
     rw [Y2];unfold D5;have h1:=dA ((K5 (R.take i)).map (·.1)) [];have h2:(K5 (R.take i)).length<=(R.take i).length:=List.length_filterMap_le _ _;rw [A4,T7] at h1;rw [K3] at h2;lia
    have J3:L7 (((("great" : Str),y::fs).1::(("great" : Str),y::fs).2).map V.str) 1=some (V.str y):=N9 (j:=1) rfl;have aW:cutV (((("great" : Str),y::fs).1::(("great" : Str),y::fs).2).map V.str) (some 2) none=fs.map V.str:=z0 _ 2;refine ⟨.inl ⟨_,.inl hd⟩,_,.inr hT,V.str y,J3,fun p np=>⟨_,C4 hd np,Nat.lt_of_le_of_lt dY (by decide),Sum.inr y,rfl,fun v hv=>?_,fun hn=>?_⟩⟩
    .rw [M7] at hv
     by_cases hy:y∈D5 (R.take i)
     .rw [if_pos hy] at hv;cases hv;have cP:=dl.row y hy;have ndy:ad y≠d:=fun e=>by have:=dl.new y hy;rw [e,A1] at this;cases this
      have nHy:H (ad y)=none:=by have:=dl.new y hy;rw [A3 ndy] at this;exact this
      have T1:Same H2 (A0 H2 p (.lst [])):=Same.new np;generalize A0 H2 p (.lst [])=H3 at T1;refine ⟨R6 (T1 _ _ cP),rSlR.t (hT.same T1) (g3 (k:=2) (by decide) (by simp)) fun s ns=>?_⟩;rw [aW];have T2:Same H3 (A0 H3 s (.tup (fs.map V.str))):=Same.new ns;have hs:A0 H3 s (.tup (fs.map V.str)) s=some (.tup (fs.map V.str)):=A1;generalize A0 H3 s (.tup (fs.map V.str))=H4 at T2 hs;have T:=T1.trans T2;refine ⟨ad y,s,_,_,rfl,rfl,T _ _ cP,.of hs,by rw [A4,A4];exact N1 (by lia),(S.trans T).put nHy,ad,?_,?_⟩
      .rw [A3 ndy.symm,T _ _ hd,etk,nG];unfold dd;rw [if_pos hy]
      .rw [etk,nG];unfold dd;rw [if_pos hy,<- E5];refine ((dl.same T).app hy (F7 (R.take i) y++fs)).congr fun x _=>?_
       rw [tF]
       by_cases v8:x=y
       .subst v8;simp
       .simp [v8]
     .rw [if_neg hy] at hv;cases hv
    .have hy:y∉D5 (R.take i):=fun hy=>by rw [M7,if_pos hy] at hn;cases hn
     have ndp:d≠p:=fun e=>by rw [<- e,hd] at np;cases np
     have n0:A0 H d (.dK []) p=none:=by rw [A3 ndp.symm];exact S.free np
     have dl2:=dl.more hy np n0;have v4:=dl2.put (b:=d) (o:=.dK (C0 (D5 (R.take i)++[y]) fun t=>if t=y then V.ref p else V.ref (ad t))) (u:=.dK []) A1;rw [z8 (V.ref p) hy];have eK:A0 (A0 H2 p (.lst [])) d (.dK (C0 (D5 (R.take i)++[y]) fun t=>if t=y then V.ref p else V.ref (ad t))) p=some (.lst []):=by rw [A3 ndp.symm,A1]
     have Q9:A0 (A0 H2 p (.lst [])) d (.dK (C0 (D5 (R.take i)++[y]) fun t=>if t=y then V.ref p else V.ref (ad t))) d=some (.dK (C0 (D5 (R.take i)++[y]) fun t=>if t=y then V.ref p else V.ref (ad t))):=A1;have S3:Same H (A0 (A0 H2 p (.lst [])) d (.dK (C0 (D5 (R.take i)++[y]) fun t=>if t=y then V.ref p else V.ref (ad t)))):=(S.trans (Same.new np)).put nd;generalize A0 (A0 H2 p (.lst [])) d (.dK (C0 (D5 (R.take i)++[y]) fun t=>if t=y then V.ref p else V.ref (ad t)))=H3 at v4 eK Q9 S3;have hT3:C8 K H3 t (((("great" : Str),y::fs).1::(("great" : Str),y::fs).2).map V.str):=.of (S3 _ _ C7);refine ⟨R6 eK,rSlR.t hT3 (g3 (k:=2) (by decide) (by simp)) fun s ns=>?_⟩;rw [aW];have T2:Same H3 (A0 H3 s (.tup (fs.map V.str))):=Same.new ns;have hs:A0 H3 s (.tup (fs.map V.str)) s=some (.tup (fs.map V.str)):=A1;generalize A0 H3 s (.tup (fs.map V.str))=H4 at T2 hs;refine ⟨p,s,_,_,rfl,rfl,T2 _ _ eK,.of hs,by rw [A4];exact N1 (by simp;lia),(S3.trans T2).put (S.free np),fun t=>if t=y then p else ad t,?_,?_⟩
     .rw [A3 ndp,T2 _ _ Q9,etk,nG];unfold dd;rw [if_neg hy];refine congrArg (fun z=>some (HO.dK z)) (Q2 fun x _=>?_);show (if x=y then V.ref p else V.ref (ad x))=V.ref (if x=y then p else ad x)
      by_cases v8:x=y
      .rw [if_pos v8,if_pos v8]
      .rw [if_neg v8,if_neg v8]
     .rw [etk,nG];unfold dd;rw [if_neg hy,fE]
      have:=((v4.same T2).app (z:=y) (by simp) fs).congr (G:=F7 (R.take i++[(("great" : Str),y::fs)])) fun x _=>by
       rw [tF]
       by_cases v8:x=y
       .subst v8;have e0:F7 (R.take i) x=[]:=by
         unfold F7;rw [fA.mpr fun e he=>?_]
         .rfl
         .intro h;have h:e.1=x:=by simpa using h
          refine hy ?_;unfold D5;rw [bQ];exact .inr (G6.mpr ⟨e,he,h⟩)
        simp [e0]
       .simp [v8]
      rw [if_pos rfl] at this;exact this
   .rw [decide_eq_false m8];refine iteF ⟨S,ad,?_,?_⟩
    .rw [show D5 (R.take (i+1))=D5 (R.take i) by unfold D5;rw [tD hz,nF m8,M9]];exact hd
    .rw [show D5 (R.take (i+1))=D5 (R.take i) by unfold D5;rw [tD hz,nF m8,M9]];refine dl.congr fun x _=>?_
     unfold F7;rw [tD hz,nF m8,M9]
  .rintro Y H2 ⟨u,ad,rfl,S,hd,dl⟩;walk_at "rd";rw [A4,hR.len,K0] at hd dl;exact q d ad H2 nd S hd (dl.old (Same.new nd))
theorem sc_steps_of:FnScope ["rules", "letters", "marks", "steps", "place", "letter", "mark", "forms", "case", "form", "rule"] ["rules", "letters", "marks"] (C3 N6):=G1
abbrev k6:List Str:=["rules", "letters", "marks", "steps", "place", "letter", "mark", "forms", "case", "form", "rule"]
theorem vbq:VS k6 N6 "rules" 0:=vq
theorem vbr:VS k6 N6 "letters" 1:=vq
theorem vbs:VS k6 N6 "marks" 2:=vq
theorem gP:VS k6 N6 "steps" 3:=vq
theorem vbu:VS k6 N6 "place" 4:=vq
theorem uQ:VS k6 N6 "letter" 5:=vq
theorem vbw:VS k6 N6 "mark" 6:=vq
theorem vbx:VS k6 N6 "forms" 7:=vq
theorem vby:VS k6 N6 "case" 8:=vq
theorem vbz:VS k6 N6 "form" 9:=vq
theorem uR:VS k6 N6 "rule" 10:=vq
theorem vbB:LS N6 "steps":=lq
theorem vbC:LS N6 "place":=lq
theorem vbD:LS N6 "letter":=lq
theorem vbE:LS N6 "mark":=lq
theorem vbF:LS N6 "forms":=lq
theorem vbG:LS N6 "case":=lq
theorem vbH:LS N6 "form":=lq
theorem vbI:LS N6 "rule":=lq
theorem ag2(F:FunD K "steps_of" "steps_of" N6 f fd)(T:Txt P w K mg C C_Book C_NoName C_Ring)(G_forms_of:FO P w K mg base 1 "forms_of" ["rules"] [] (ahk K)):FnOk P w K mg base D9 2 f fd ["rules", "letters", "marks"] (aho K):=by
 refine F.ok sc_steps_of ?_ ?_
 .rintro _ _ _ _ ⟨a,b,c,ts,R,L,M,F,rfl,_⟩;rfl
 .intro cdv A outer s H vs Q E hr h;have C6:=hu_of hr;have hu:=hr.units;refine ⟨_,QSs.out (A5 (C9 (n:=3) sc_steps_of.nd rfl vbB y8)
   (A5 (N5 PassesOwn.never (sN T.b_enumerate (qa_c (vi vbr) A2)) (jH (K:=K) (n:=2) (q5 ((E6 (n:=4) sc_steps_of.nd rfl vbC (.inl rfl))) (q5 ((E6 (n:=5) sc_steps_of.nd rfl vbD (.inl rfl))) jG))) (A7 (g0 C6 (vi gP) (vi uQ) (P9 (qa_c (P9 (qa_c (mT T.g_LETTER) (qa_c (vi vbu) (qa_c A6 A2)))) A2)))))
   (A5 (N5 PassesOwn.never (sN T.b_enumerate (qa_c (vi vbs) A2)) (jH (K:=K) (n:=2) (q5 ((E6 (n:=4) sc_steps_of.nd rfl vbC (.inl rfl))) (q5 ((E6 (n:=6) sc_steps_of.nd rfl vbE (.inl rfl))) jG))) (A7 (g0 C6 (vi gP) (vi vbw) (P9 (qa_c (P9 (qa_c (mT T.g_MARK) (qa_c (vi vbu) (qa_c A6 A2)))) A2)))))
   (A5 (C9 (n:=7) sc_steps_of.nd rfl vbF (F9 G_forms_of (hm hr) (qa_c (vi vbq) A2)))
   (A5 (sH PassesOwn.never (vi vbx) (E6 (n:=5) sc_steps_of.nd rfl vbD (.inl rfl)) (A7 (N5 PassesOwn.never (aly T.b_enumerate (qa_c (Y0 C6 (vi vbx) (vi uQ)) A2)) (jH (K:=K) (n:=2) (q5 ((E6 (n:=8) sc_steps_of.nd rfl vbG (.inl rfl))) (q5 ((E6 (n:=9) sc_steps_of.nd rfl vbH (.inl rfl))) jG))) (A7 (g0 C6 (vi gP) (vi vbz) (P9 (qa_c (P9 (qa_c (mT T.g_LETTER) (qa_c (qe_ix (K:=K) (qe_ix (K:=K) (Y0 C6 (vi gP) (vi uQ)) A6) A6) (qa_c (vi vby) A2)))) A2)))))))
   (A5 (N5 PassesOwn.never (O8 (K:=K) (vi vbq)) (E6 (n:=10) sc_steps_of.nd rfl vbI (.inl rfl)) (A7 (qs_if (E4 (q_eq (K:=K) hu) (qe_ix (K:=K) (vi uR) A6) D4) (A7 (g0 C6 (vi gP) (qe_ix (K:=K) (vi uR) A6) (qe_cT (sA (K:=K)) T.b_tuple rO (qa_c (V9  (T0:CompOk ["rules", "letters", "marks", "steps", "place", "letter", "mark", "forms", "case", "form", "rule"] (C3 N6).names _ ["part", "steps"] 1 [3]) (dE (K:=K) (R7 (K:=K) (vi uR) (Q0 A6) V8)) (fun _ _ _ _ _=>E6 (n:=0) (show List.Nodup (["part", "steps"]:List Str) by decide +kernel) rfl (Or.inl rfl)) (fun _ _ _ _ _=>y9) (fun _ _ _ _ _=>(qe_ix (K:=K) (Y0 C6 (qv 1) (qv 0)) A6))) A2)))) G7)))
   (A7 (D6 (vi gP))))))))),?_⟩
  obtain ⟨a,b,c,ts,R,L,M,F,rfl,hR,md,hb,hc,pH,hRl,l9,wX,q⟩:=h;have A9:L.length+M.length+((D5 R).flatMap (F7 R)).length+(asKs R).length<=50000:=by
   unfold allKs at wX;simp only [E3] at wX;exact wX
  walk_at "rd";intro d nd;have ndR:∀ {x:Addr} {o:HO},H x=some o->x≠d:=fun h e=>by rw [e,nd] at h;cases h
  refine ⟨⟨_,C4 hb nd⟩,forE (xs:=L.map V.str) (fun i Y H2=>∃ (u v w x y z r:Option V),Y=[some (.ref a),some (.ref b),some (.ref c),some (.ref d),u,v,w,x,y,z,r]/\StI H H2 d (L.take i) F)
   ⟨none,none,none,none,none,none,none,rfl,Same.new nd,fun _=>d,A1,by simp [J0]⟩ (by rintro i Y H2 ⟨_,_,_,_,_,_,_,_,S⟩;exact S.same _ _ hb) ?_ ?_⟩
  .rintro i x t Y H2 hx ⟨u,v,w,x',y,z,r,rfl,S⟩ nt;obtain ⟨l,hl,rfl⟩:=J1 hx;have hi:i<L.length:=(J4.mp hl).1;walk_at "rd";refine ⟨_,.of A1,rfl,_,_,rfl,_,_,rfl,rfl,by decide,fun p np=>⟨by decide,fun p1 v9=>?_⟩⟩;rw [L9 hl];exact StI.put nd (((S.more (Same.new nt)).more (Same.new np)).more (Same.new v9)) (by rw [K3];lia) (by
    rw [md.lt i l hl];exact StepAt.one A1 (C4 A1 v9))
  rintro Y H2 ⟨u,v,w,x',y,z,r,rfl,S⟩;rw [A4,K0] at S;walk_at "rd";refine ⟨⟨_,S.same _ _ hc⟩,forE (xs:=M.map V.str) (fun i Y H2=>∃ (u v w x y z r:Option V),Y=[some (.ref a),some (.ref b),some (.ref c),some (.ref d),u,v,w,x,y,z,r]/\StI H H2 d (L++M.take i) F)
   ⟨u,v,w,x',y,z,r,rfl,by rw [o9,M9];exact S⟩ (by rintro i Y H2 ⟨_,_,_,_,_,_,_,_,S⟩;exact S.same _ _ hc) ?_ ?_⟩
  .clear S;rintro i x t Y H2 hx ⟨u,v,w,x',y,z,r,rfl,S⟩ nt;obtain ⟨l,hl,rfl⟩:=J1 hx;have hi:i<M.length:=(J4.mp hl).1;walk_at "rd";refine ⟨_,.of A1,rfl,_,_,rfl,_,_,rfl,rfl,by decide,fun p np=>⟨by decide,fun p1 v9=>?_⟩⟩;rw [L9 hl,<- i5];exact StI.put nd (((S.more (Same.new nt)).more (Same.new np)).more (Same.new v9)) (by rw [E3,K3];lia) (by
    rw [md.mr i l hl];exact StepAt.one A1 (C4 A1 v9))
  clear S H2 u v w x' y z r;rintro Y H2 ⟨u,v,w,x',y,z,r,rfl,S⟩;rw [A4,K0] at S;walk_at "rd";refine ⟨a,ts,R,rfl,hR.same S.same,fun z hz e=>md.ne z hz (.inr e),hRl,l9,fun fd af H3 nfd S3 pS dl=>?_⟩;have nf0:H fd=none:=S.same.free nfd;have nf1:fd≠d:=fun e=>by
   obtain ⟨ad,h1,_⟩:=S.made;rw [<- e,nfd] at h1;cases h1
  have S':=S.more S3;have C7:=dl.row;clear S S3 dl nfd H2;refine ⟨fd,rfl,_,pS,fun o=>forD (fun i Y H4=>∃ (u v w y z r:Option V),Y=[some (.ref a),some (.ref b),some (.ref c),some (.ref d),u,v,w,some (.ref fd),y,z,r]/\FoI H H4 d fd o (D5 R) af (F7 R) (L++M++((D5 R).take i).flatMap (F7 R)) F)
   ⟨u,v,w,y,z,r,rfl,⟨A1,fun y hy=>by rw [A3 (fun e=>by have:=C7 y hy;rw [e,pS] at this;cases this)];exact C7 y hy,by rw [o9,List.flatMap_nil,M9];exact S'.frz pS nf0 nf1⟩⟩ (by rintro i Y H4 ⟨_,_,_,_,_,_,_,h⟩;exact h.frz) ?_ ?_⟩
  .rintro i k v' Y H4 hk ⟨u,v,w,y,z,r,rfl,J⟩;obtain ⟨l,hl,e⟩:=J1 (f:=fun t=>((Sum.inr t:B5),V.ref (af t))) hk;obtain ⟨rfl,rfl⟩:=Prod.mk.inj e;have lK:l∈D5 R:=G2 hl;have hlL:=md.gl l lK;have wU:(((D5 R).take i).flatMap (F7 R)).length+(F7 R l).length<=((D5 R).flatMap (F7 R)).length:=by
    have e:(D5 R).flatMap (F7 R)=((D5 R).take i).flatMap (F7 R)++F7 R l++((D5 R).drop (i+1)).flatMap (F7 R):=by
     have:=aY (i+1) (D5 R)
     rw [L9 hl] at this;rw [<- this,aZ,aZ,bC,List.flatMap_nil,M9];rw [this]
    rw [e,E3,E3];lia
   walk_at "rd";refine ⟨V.ref (af l),.inl ⟨_,Sum.inr l,.inr ⟨o,J.frz⟩,rfl,by rw [M7,if_pos lK]⟩,af l,rfl,⟨_,J.rows l lK⟩,forE1 (xs:=(F7 R l).map V.str) (fun j Y H5=>∃ (y z r:Option V),Y=[some (.ref a),some (.ref b),some (.ref c),some (.ref d),u,some (kV (Sum.inr l)),w,some (.ref fd),y,z,r]/\FoI H H5 d fd o (D5 R) af (F7 R) (L++M++((D5 R).take i).flatMap (F7 R)++(F7 R l).take j) F) ⟨y,z,r,rfl,by rw [o9,M9];exact J⟩ (by rintro j Y H5 ⟨_,_,_,_,h⟩;exact h.rows l lK) ?_ ?_⟩
   .clear J y z r;rintro j x t Y H5 hx ⟨y,z,r,rfl,J⟩ nt;obtain ⟨f,hf,rfl⟩:=J1 hx;have hj:j<(F7 R l).length:=(J4.mp hf).1;have T1:Same H5 (A0 H5 t (.tup [.int ((j+1:Nat):Int),.str f])):=Same.new nt;have ht:A0 H5 t (.tup [.int ((j+1:Nat):Int),.str f]) t=some (.tup [.int ((j+1:Nat):Int),.str f]):=A1;generalize A0 H5 t (.tup [.int ((j+1:Nat):Int),.str f])=H6 at T1 ht ⊢
    have J6:=J.more T1;obtain ⟨ad,h1,h2⟩:=J6.st.made;have L5:l∈J0 [] (L++M++((D5 R).take i).flatMap (F7 R)++(F7 R l).take j):=by
     rw [bQ];exact .inr (T6 _ (T6 _ (T6 _ hlL)))
    obtain ⟨tt,e1,e2⟩:=(h2 l L5).ex;rw [md.letter hlL] at e2;obtain ⟨t0,rfl,e3⟩:∃ t0,tt=[t0]/\H6 t0=some (tupT (2,(L.idxOf l:Int),0)):=by
     cases e2 with
     | cons h t=>cases t;exact ⟨_,rfl,h⟩
    walk_at "rd";refine ⟨_,.of ht,rfl,_,_,rfl,_,_,rfl,rfl,V.ref (ad l),.inl ⟨_,Sum.inr l,.inl h1,rfl,by rw [M7,if_pos L5]⟩,?_⟩;walk_at "rd";refine ⟨_,.inr (.of e1),V.ref t0,M4 _ _,?_⟩;walk_at "rd";refine ⟨_,.inr (.of e3),V.int (L.idxOf l:Int),N9 (j:=1) rfl,by decide,fun p np=>⟨by decide,fun p1 v9=>?_⟩⟩;rw [L9 hf,<- i5];exact FoI.put nd ((J6.more (Same.new np)).more (Same.new v9)) (by simp only [E3,K3];lia) (by
     rw [md.gr l lK j f hf];exact StepAt.one A1 (C4 A1 v9))
   .rintro Y H5 ⟨y,z,r,rfl,J⟩;rw [A4,K0] at J;refine ⟨⟨_,_,_,_,_,_,rfl⟩,?_⟩;rw [L9 hl,aZ,bC,List.flatMap_nil,M9,<- i5];exact J
  rintro Y H4 ⟨u,v,w,y,z,r,rfl,J⟩;rw [Y2,K0] at J;have S5:=J.st.thaw (o:=.dK (C0 (D5 R) fun y=>V.ref (af y))) J.frz nf0 nf1;generalize A0 H4 fd (.dK (C0 (D5 R) fun y=>V.ref (af y)))=H5 at S5 ⊢
  clear J pS C7;walk_at "rd";refine ⟨⟨_,.of (S5.same _ _ hR.top)⟩,forL (xs:=ts.map V.ref) (fun i Y H6=>∃ (r:Option V),Y=[some (.ref a),some (.ref b),some (.ref c),some (.ref d),u,v,w,some (.ref fd),y,z,r]/\StI H H6 d (L++M++(D5 R).flatMap (F7 R)++asKs (R.take i)) F) ⟨r,rfl,by rw [o9];rw [show asKs []=[] from rfl,M9];exact S5⟩ (by rintro i Y H6 _ ⟨_,_,S⟩;exact .of (S.same _ _ hR.top)) ?_ ?_⟩
  .clear S5 r;rintro i x Y H6 hx ⟨r,rfl,S⟩;obtain ⟨t,ht,rfl⟩:=J1 hx;obtain ⟨zz,hz,C7⟩:=Paired.at hR.row ht;have pT:=G2 hz;have hT:C8 K H6 t ((zz.1::zz.2).map V.str):=.of (S.same _ _ C7);walk_at "rd";refine ⟨_,.inr hT,V.str zz.1,M4 _ _,?_⟩;walk_at "rd"
   by_cases has:zz.1=("as" : Str)
   .rw [decide_eq_true has];refine iteT ?_;obtain ⟨w1,ps⟩:=zz;obtain rfl:w1=("as" : Str):=has;obtain ⟨p,qs,rfl⟩:∃ p qs,ps=p::qs:=by
     cases ps with
     | nil=>exact absurd rfl (md.ne _ pT (.inl rfl))
     | cons p qs=>exact ⟨p,qs,rfl⟩
    have aW:cutV (((("as" : Str),p::qs).1::(("as" : Str),p::qs).2).map V.str) (some 2) none=qs.map V.str:=z0 _ 2;have hql:qs.length<=1000:=by have:=pH _ pT;simp only [E8] at this;lia
    have wY:=alD (R.take i);rw [K3] at wY;refine rSlR.t hT (g3 (k:=2) (by decide) (by simp)) fun s ns=>?_
    rw [aW];have T1:Same H6 (A0 H6 s (.tup (qs.map V.str))):=Same.new ns;have hs:A0 H6 s (.tup (qs.map V.str)) s=some (.tup (qs.map V.str)):=A1;generalize A0 H6 s (.tup (qs.map V.str))=H7 at T1 hs;have S7:=S.more T1;have hT7:C8 K H7 t (((("as" : Str),p::qs).1::(("as" : Str),p::qs).2).map V.str):=C8.same T1 hT;clear hT S;refine ⟨s,rfl,⟨_,.of hs⟩,compT (xs:=qs.map V.str) [some (.ref d)] rfl (fun D j ys H8=>∃ cQ:List Addr,ys=cQ.map V.ref/\AsI H H7 H8 d (L++M++(D5 R).flatMap (F7 R)++asKs (R.take i)) F cQ ((qs.take j).map fun q=>(F q).headD (0,0,0))) (fun D nD=>⟨[],rfl,S7.more (Same.new nD),.nil,Same.new nD⟩) (by rintro D j ys H8 nD _ ⟨_,_,h⟩;exact .of (h.sm _ _ hs)) ?_ ?_⟩
    .rintro D j yv ys H8 nD hi hy ⟨cQ,rfl,J⟩ hD v7;obtain ⟨qq,hq,rfl⟩:=J1 hy;have hqb:=md.pt _ pT rfl qq (G2 hq);obtain ⟨st,g9⟩:=md.base hqb;obtain ⟨ad,h1,h2⟩:=J.st.made;have L5:qq∈J0 [] (L++M++(D5 R).flatMap (F7 R)++asKs (R.take i)):=by
      rw [bQ];refine .inr (T6 _ (T6 _ (J8.mpr hqb)))
     obtain ⟨tt,e1,e2⟩:=(h2 qq L5).ex;rw [g9] at e2;obtain ⟨t0,rfl,e3⟩:∃ t0,tt=[t0]/\H8 t0=some (tupT st):=by
      cases e2 with
      | cons h t=>cases t;exact ⟨_,rfl,h⟩
     walk_at "rd";refine ⟨V.ref (ad qq),.inl ⟨_,Sum.inr qq,.inl h1,rfl,by rw [M7,if_pos L5]⟩,?_⟩;walk_at "rd";have pQ:cQ.length<=1000:=by
      have:=Paired.length J.pr
      rw [A4,K3] at this;lia
     refine ⟨_,.inr (.of e1),V.ref t0,M4 _ _,hD,by rw [A4];exact J5 (by lia),CW.put hi v7 ⟨cQ++[t0],by rw [E5];rfl,?_⟩⟩;refine AsI.putL (f:=D) ⟨J.st,?_,J.sm⟩ hD (S7.same.free nD) nD;rw [L9 hq,E5];refine Paired.snoc J.pr ?_;show H8 t0=some (tupT ((F qq).headD (0,0,0)));rw [g9];exact e3
    rintro D ys H8 nD ⟨cQ,rfl,J⟩ hD v7;rw [A4,K0] at J;rw [tup_r];refine rTupR.l (.of hD) fun p1 v9=>?_
    have J3:L7 (((("as" : Str),p::qs).1::(("as" : Str),p::qs).2).map V.str) 1=some (V.str p):=N9 (j:=1) rfl;have S8:Same H8 (A0 H8 p1 (.tup (cQ.map V.ref))):=Same.new v9;refine ⟨_,.inr (C8.same (J.sm.trans S8) hT7),V.str p,J3,?_⟩;rw [af1 hz,ahn,<- i5];refine StI.put nd (J.st.more S8) (by simp only [E3];lia) ?_;rw [md.as _ pT rfl p qs rfl];exact ⟨cQ,A1,R1 J.pr fun t s e=>S8 _ _ e⟩
   .rw [decide_eq_false has];refine iteF ?_;rw [af1 hz,ajI has,M9];exact S
  rintro Y H6 ⟨r,rfl,S⟩;rw [A4,hR.len,K0] at S;walk_at "rd";exact q d H6 nd S.same S.made
theorem adE:FnScope ["self", "rules"] ["self", "rules"] (C3 cB):=G1
abbrev acw:List Str:=["self", "rules"]
theorem aI:VS acw cB "self" 0:=vq
theorem dM:VS acw cB "rules" 1:=vq
theorem adF(F:FunD K "__init__" "Order.__init__" cB f fd)(T:Txt P w K mg C C_Book C_NoName C_Ring)(G_has_rule:FO P w K mg base 1 "has_rule" ["rules", "word"] [] (spHas K))(G_jobs_of:FO P w K mg base 3 "jobs_of" ["rules"] [] (amk K))(G_check_letters:FO P w K mg base 2 "check_letters" ["rules", "jobs"] [] (ahm K))(G_line_of:FO P w K mg base 4 "line_of" ["rules", "word"] [] (aml K))(G_steps_of:FO P w K mg base 2 "steps_of" ["rules", "letters", "marks"] [] (aho K)):FnOk P w K mg base D9 5 f fd ["self", "rules"] (tI C):=by
 refine F.ok adE ?_ ?_
 .rintro _ _ _ _ ⟨x,dx,a,ts,R,g,r1,r2,rfl,_⟩;rfl
 .intro cdv A outer s H vs Q E hr h;have C6:=hu_of hr;have hu:=hr.units;refine ⟨_,QSs.out (A5 (j5 (K:=K) (vi aI) (F9 G_has_rule (hm hr) (qa_c (vi dM) (qa_c D4 A2))))
   (A5 (j5 (K:=K) (vi aI) (F9 G_has_rule (hm hr) (qa_c (vi dM) (qa_c D4 A2))))
   (A5 (j5 (K:=K) (vi aI) (F9 G_jobs_of (hm hr) (qa_c (vi dM) A2)))
   (A5 (Q1 (F9 G_check_letters (hm hr) (qa_c (vi dM) (qa_c (f9 (K:=K) (vi aI)) A2))))
   (A5 (j5 (K:=K) (vi aI) (F9 G_line_of (hm hr) (qa_c (vi dM) (qa_c D4 A2))))
   (A5 (j5 (K:=K) (vi aI) (F9 G_line_of (hm hr) (qa_c (vi dM) (qa_c D4 A2))))
   (A7 (j5 (K:=K) (vi aI) (F9 G_steps_of (hm hr) (qa_c (vi dM) (qa_c (f9 (K:=K) (vi aI)) (qa_c (f9 (K:=K) (vi aI)) A2)))))))))))),?_⟩
  obtain ⟨x,dx,a,ts,R,g,r1,r2,rfl,hx,hR,pl,q⟩:=h;have lp:∀ (f:Str) (y:V) (fs:List (Str×V)),(putF f y fs).length<=fs.length+1:=qU;walk_at "rd";refine ⟨a,ts,R, "figures",rfl,hR,pl.len,fun H1 S1=>⟨C,dx,[],S1 _ _ hx,T.cl,T.na_figures,by decide,?_⟩⟩;generalize hF1:putF (Str.ofString "figures") (V.bl (hasW R (Str.ofString "figures"))) []=F1;have l1:F1.length<=1:=by rw [<- hF1];exact lp _ _ _
  have B2:SameBut x H (A0 H1 x (.ins C dx F1)):=(Same.but S1).at;have eG:A0 H1 x (.ins C dx F1) x=some (.ins C dx F1):=A1;generalize A0 H1 x (.ins C dx F1)=H2 at B2 eG;have hR2:=hR.but B2 hx;refine ⟨a,ts,R, "behind",rfl,hR2,pl.len,fun H3 S3=>⟨C,dx,F1,S3 _ _ eG,T.cl,T.na_behind,by lia,?_⟩⟩;generalize hF2:putF (Str.ofString "behind") (V.bl (hasW R (Str.ofString "behind"))) F1=F2;have l2:F2.length<=2:=by rw [<- hF2];exact F6 (lp _ _ _) (by lia)
  have B4:SameBut x H2 (A0 H3 x (.ins C dx F2)):=(Same.but S3).at;have iF:A0 H3 x (.ins C dx F2) x=some (.ins C dx F2):=A1;generalize A0 H3 x (.ins C dx F2)=H4 at B4 iF;have hR4:=hR2.but B4 eG;refine ⟨a,ts,R,g,rfl,hR4,pl.len,pl.plen,pl.nc,pl.nb,fun j H5 nj S5 hj=>?_⟩;have njx:j≠x:=fun e=>by rw [e,iF] at nj;cases nj
  generalize hF3:putF (Str.ofString "jobs") (V.ref j) F2=F3;have l3:F3.length<=3:=by rw [<- hF3];exact F6 (lp _ _ _) (by lia)
  have k3:F3.lookup (Str.ofString "jobs")=some (V.ref j):=by rw [<- hF3,fS,if_pos rfl]
  refine ⟨C,dx,F2,S5 _ _ iF,T.cl,T.na_jobs,by lia,?_⟩;rw [hF3];have B6:SameBut x H4 (A0 H5 x (.ins C dx F3)):=(Same.but S5).at;have lL:A0 H5 x (.ins C dx F3) x=some (.ins C dx F3):=A1;have wZ:A0 H5 x (.ins C dx F3) j=some (.dK (C0 (keysP (E1 R)++bR R) (jobG g))):=by rw [A3 njx];exact hj
  generalize A0 H5 x (.ins C dx F3)=H6 at B6 lL wZ;have hR6:=hR4.but B6 iF;refine ⟨C,dx,F3,lL,T.cl,T.na_jobs,_,k3,a,j,ts,R,_,_,rfl,hR6,wZ,fun z hz=>⟨pl.used hz,pl.zl z hz⟩,fun H7 S7=>?_⟩;refine ⟨a,ts,R, "row",r1,rfl,hR6.same S7,pl.len,F6 pl.f1 (by decide),pl.a1,fun ll L H8 nll S8 v6 run cov=>?_⟩;have hx8:=S8 _ _ (S7 _ _ lL);have nlx:ll≠x:=fun e=>by rw [e,S7 _ _ lL] at nll;cases nll
  have llen:L.length<=10000:=by
   rw [sI (nA _) run cov];exact F6 (jD _) pl.f1
  generalize hF4:putF (Str.ofString "letter_line") (V.ref ll) F3=F4;have l4:F4.length<=4:=by rw [<- hF4];exact F6 (lp _ _ _) (by lia)
  refine ⟨C,dx,F3,hx8,T.cl,T.na_letter_line,by lia,?_⟩;rw [hF4];have B9:SameBut x H6 (A0 H8 x (.ins C dx F4)):=(Same.but (S7.trans S8)).at;have pU:A0 H8 x (.ins C dx F4) x=some (.ins C dx F4):=A1;have lM:A0 H8 x (.ins C dx F4) ll=some (.lst (L.map V.str)):=by rw [A3 nlx];exact v6
  generalize A0 H8 x (.ins C dx F4)=H9 at B9 pU lM;have hR9:=hR6.but B9 lL;refine ⟨a,ts,R, "marks",r2,rfl,hR9,pl.len,F6 pl.f2 (by decide),pl.a2,fun ml M Q3 nml cR xA run2 cov2=>?_⟩;have nmx:ml≠x:=fun e=>by rw [e,pU] at nml;cases nml
  have mlen:M.length<=10000:=by
   rw [sI (nA _) run2 cov2];exact F6 (jD _) pl.f2
  generalize hF5:putF (Str.ofString "mark_line") (V.ref ml) F4=F5;have l5:F5.length<=5:=by rw [<- hF5];exact F6 (lp _ _ _) (by lia)
  refine ⟨C,dx,F4,cR _ _ pU,T.cl,T.na_mark_line,by lia,?_⟩;rw [hF5];have B11:SameBut x H9 (A0 Q3 x (.ins C dx F5)):=(Same.but cR).at;have Z8:A0 Q3 x (.ins C dx F5) x=some (.ins C dx F5):=A1;have m9:A0 Q3 x (.ins C dx F5) ml=some (.lst (M.map V.str)):=by rw [A3 nmx];exact xA
  have n6:A0 Q3 x (.ins C dx F5) ll=some (.lst (L.map V.str)):=by rw [A3 nlx];exact cR _ _ lM
  generalize A0 Q3 x (.ins C dx F5)=Z7 at B11 Z8 m9 n6;have hR11:=hR9.but B11 pU;have kl:F5.lookup (Str.ofString "letter_line")=some (V.ref ll):=by rw [<- hF5,fS,if_neg (by decide +kernel),<- hF4,fS,if_pos rfl]
  have km:F5.lookup (Str.ofString "mark_line")=some (V.ref ml):=by rw [<- hF5,fS,if_pos rfl]
  refine ⟨C,dx,F5,Z8,T.cl,T.na_letter_line,_,kl,C,dx,F5,Z8,T.cl,T.na_mark_line,_,km,a,ll,ml,ts,R,L,M,stepF R L M,rfl,hR11,anY pl ⟨run,cov⟩ ⟨run2,cov2⟩,n6,m9,pl.zl,pl.len,ajO pl,F6 (anZ pl ⟨run,cov⟩ ⟨run2,cov2⟩) (by decide),fun md xB nmd Z6 pV=>⟨C,dx,F5,Z6 _ _ Z8,T.cl,T.na_made,by lia,?_⟩⟩;have nmdx:md≠x:=fun e=>by rw [e,Z8] at nmd;cases nmd
  have B:SameBut x H (A0 xB x (.ins C dx (putF (Str.ofString "made") (V.ref md) F5))):=((B2.trans B4).trans ((B6.trans B9).trans (B11.trans (Same.but Z6)))).at;have fr:∀ {H':Hp} {y:Addr},SameBut x H H'->H' y=none->y≠x->H y=none:=fun {H' y} b n nx=>by
   cases e:H y with
   | none=>rfl
   | some o=>have:=b _ _ nx e;rw [n] at this;cases this
  have B44:=B2.trans B4;refine q j ll ml md L M _ (fr B44 nj njx) (fr ((B44.trans B6).trans (Same.but S7)) nll nlx) (fr ((B44.trans B6).trans B9) nml nmx) (fr (((B44.trans B6).trans B9).trans B11) nmd nmdx) B ⟨⟨dx,?_⟩,?_,?_,?_,pV.mod (Z6 _ _ Z8) (by intro xs e;cases e) nmdx,⟨run,cov⟩,⟨run2,cov2⟩⟩
  .rw [A1,<- hF5,<- hF4,<- hF3,<- hF2,<- hF1];rfl
  .rw [A3 njx];exact Z6 _ _ (B11 _ _ njx (B9 _ _ njx wZ))
  .rw [A3 nlx];exact Z6 _ _ n6
  .rw [A3 nmx];exact Z6 _ _ m9
theorem aim:FnScope ["sign"] ["sign"] (C3 nO):=G1
abbrev akt:List Str:=["sign"]
theorem vbL:VS akt nO "sign" 0:=vq
theorem ain(F:FunD K "is_sign" "is_sign" nO f fd)(T:Txt P w K mg C C_Book C_NoName C_Ring):FnOk P w K mg base D9 1 f fd ["sign"] ahx:=by
 refine F.ok aim ?_ ?_
 .rintro _ _ _ _ ⟨c,rfl,_⟩;rfl
 .intro cdv A outer s H vs Q E hr h;have C6:=hu_of hr;have hu:=hr.units;refine ⟨_,QSs.out (A7 (D6 (y7 (jE q_le q_le D4 (vi vbL) D4) (dC (j4 (q_ne (K:=K) hu) (qe_cB q_ord T.b_ord aqu (qa_c (vi vbL) A2)) (mT T.g_PER_CENT)))))),?_⟩;obtain ⟨c,rfl,q⟩:=h;walk_at "rd";have e1:(Str.ofString "!").cps.toList=[33]:=by decide +kernel
  have e2:(Str.ofString "~").cps.toList=[126]:=by decide +kernel
  rw [e1,e2];simp only [sS];refine iteN (fun h1=>iteN (fun h2=>⟨rfl,?_⟩) fun h2=>?_) fun h1=>?_
  .have e:signB c=!decide ((c:Int)=37):=by
    unfold signB;rw [decide_eq_true (by lia:33<=c),decide_eq_true (by lia:c<=126)]
    by_cases h3:c=37
    .subst h3;rfl
    .rw [decide_eq_true h3,decide_eq_false (by lia:¬ (c:Int)=37)];rfl
   rw [e] at q;exact q
  .have e:signB c=false:=by unfold signB;rw [decide_eq_false (by lia:¬ c<=126)];simp
   rw [e] at q;exact q
  .have e:signB c=false:=by unfold signB;rw [decide_eq_false (by lia:¬ 33<=c)];rfl
   rw [e] at q;exact q
theorem ag3:FnScope ["thing"] ["thing"] (C3 jV):=G1
abbrev aio:List Str:=["thing"]
theorem uS:VS aio jV "thing" 0:=vq
theorem ag4(F:FunD K "is_piece" "is_piece" jV f fd)(T:Txt P w K mg C C_Book C_NoName C_Ring)(G_is_sign:FO P w K mg base 1 "is_sign" ["sign"] [] ahx):FnOk P w K mg base D9 2 f fd ["thing"] af8:=by
 refine F.ok ag3 ?_ ?_
 .rintro _ _ _ _ ⟨x,T,rfl,_⟩;rfl
 .intro cdv A outer s H vs Q E hr h;have C6:=hu_of hr;have hu:=hr.units;refine ⟨_,QSs.out (A5 (qs_if (jF (f8 (K:=K) (qe_cB q_isi T.b_isinstance gB (qa_c (vi uS) (qa_c (qe_ty T.b_str zX) A2))))) (A7 (D6 qe_bl)) G7)
   (A7 (D6 (y7 (jE q_le q_le A6 (qe_cB (q_len (K:=K)) T.b_len X9 (qa_c (vi uS) A2)) A6) (dC (qe_cB (q_all (calm:=true)) T.b_all rN (qa_c (V9  (T0:CompOk ["thing"] (C3 jV).names _ ["sign"] 1 []) (rW (vi uS)) (fun _ _ _ _ _=>E6 (n:=0) (show List.Nodup (["sign"]:List Str) by decide +kernel) rfl (Or.inl rfl)) (fun _ _ _ _ _=>y9) (fun _ _ _ _ _=>(F9 G_is_sign (hm hr) (qa_c (qv 0) A2)))) A2))))))),?_⟩
  obtain ⟨x,T',rfl,ht,hz,q⟩:=h
  by_cases hx:∃ z,x=.str z
  .obtain ⟨z,rfl⟩:=hx;have hz:=hz z rfl;have len:z.length=z.cps.toList.length:=by simp [Str.length]
   walk_at "rd";refine ⟨"str",rfl,rfl,?_⟩;rw [show (!fY "str" "str")=false from rfl];refine iteF ⟨N1 (by lia),iteD (fun h1=>iteD (fun h2=>?_) fun h2=>?_) fun h1=>?_⟩
   .refine compS [] rfl (fun D i ys H4=>ys=((z.cps.toList.take i).map signB).map V.bl/\Same H H4) (fun D nD=>⟨rfl,Same.new nD⟩) ?_ ?_
    .rintro D i x ys H4 nD hi hx ⟨rfl,S⟩ hD hy;walk_at "rd";refine ⟨x,rfl,hD,?_,CW.put hi hy ⟨?_,S.put nD⟩⟩
     .rw [A4,A4,K3];exact J5 (by lia)
     .rw [R4,hx]
      simp
    .rintro D ys H4 nD ⟨rfl,S⟩ hD hy;refine ⟨_,rfl,hD,?_⟩;have e:dL (.str z)=((z.cps.toList.take z.cps.size).map signB).all id:=by
      show O6 z=_;unfold O6;rw [decide_eq_true (by lia:1<=z.length),decide_eq_true (by lia:z.length<=2),X4 (by simp)]
      simp
     rw [e] at q;exact q H4 S
   .have e:dL (.str z)=false:=by
     show O6 z=_;unfold O6;rw [decide_eq_false (by lia:¬ z.length<=2)]
     simp
    rw [e] at q;exact q H (U9 H)
   .have e:dL (.str z)=false:=by
     show O6 z=_;unfold O6;rw [decide_eq_false (by lia:¬ 1<=z.length)]
     simp
    rw [e] at q;exact q H (U9 H)
  .walk_at "rd";refine ⟨T',ht,rfl,?_⟩;rw [aq3 ht fun z e=>hx ⟨z,e⟩];rw [show dL x=false from aj9 fun z e=>hx ⟨z,e⟩] at q;exact iteT (q H (U9 H))
theorem sc_is_rule:FnScope ["words", "pieces"] ["words"] (C3 dI):=G1
abbrev agn:List Str:=["words", "pieces"]
theorem oE:VS agn dI "words" 0:=vq
theorem uT:VS agn dI "pieces" 1:=vq
theorem vbP:LS dI "pieces":=lq
theorem aip(F:FunD K "is_rule" "is_rule" dI f fd)(T:Txt P w K mg C C_Book C_NoName C_Ring)(G_is_piece:FO P w K mg base 2 "is_piece" ["thing"] [] af8):FnOk P w K mg base D9 3 f fd ["words"] (ahy K):=by
 refine F.ok sc_is_rule ?_ ?_
 .rintro _ _ _ _ ⟨a,w,ps,rfl,_⟩;rfl
 .intro cdv A outer s H vs Q E hr h;have C6:=hu_of hr;have hu:=hr.units;obtain ⟨a_BARE,m_BARE,M_BARE⟩:=T.x_BARE;obtain ⟨a_FEWEST,m_FEWEST,M_FEWEST⟩:=T.x_FEWEST;refine ⟨_,QSs.out (A5 (C9 (n:=1) sc_is_rule.nd rfl vbP (R7 (K:=K) (vi oE) (Q0 A6) V8))
   (A5 (qs_if (E4 (q_in (K:=K) hu) (qe_ix (K:=K) (vi oE) A6) (O7 m_BARE)) (A7 (D6 (anG (K:=K) (vi uT)))) G7)
   (A5 (qs_if (E4 (ahe M_FEWEST) (qe_ix (K:=K) (vi oE) A6) (O7 m_FEWEST)) (A7 (D6 qe_bl)) G7)
   (A7 (D6 (y7 (j4 q_ge (qe_cB (q_len (K:=K)) T.b_len X9 (qa_c (vi uT) A2)) (jJ M_FEWEST (O7 m_FEWEST) (qe_ix (K:=K) (vi oE) A6))) (dC (qe_cB (q_all (calm:=true)) T.b_all rN (qa_c (V9  (T0:CompOk ["words", "pieces"] (C3 dI).names _ ["piece"] 1 []) (O8 (K:=K) (vi uT)) (fun _ _ _ _ _=>E6 (n:=0) (show List.Nodup (["piece"]:List Str) by decide +kernel) rfl (Or.inl rfl)) (fun _ _ _ _ _=>y9) (fun _ _ _ _ _=>(F9 G_is_piece (hm hr) (qa_c (qv 0) A2)))) A2))))))))),?_⟩
  obtain ⟨a,w,ps,rfl,hS,⟨hps,Z1,hc⟩,q⟩:=h;walk_at "rd";refine rSlR.l hS fun p np=>?_
  have ecut:cutV ((w::ps).map V.str) (some 1) none=ps.map V.str:=by
   rw [D0];exact mV _ _
  rw [ecut];have S1:Same H (A0 H p (.lst (ps.map V.str))):=Same.new np;have hp:A0 H p (.lst (ps.map V.str)) p=some (.lst (ps.map V.str)):=A1;generalize A0 H p (.lst (ps.map V.str))=H1 at S1 hp;refine ⟨_,.inl (S1.seq hS),V.str w,M4 _ _,rInR.l (.inr (M_BARE _)) rfl rfl ⟨_,rfl,?_⟩⟩
  rcases hc with ⟨hw,rfl⟩ | ⟨n,hw,hn⟩
  .have e:X7 (V.str w) [V.str "figures",V.str "blanks",V.str "behind"]=true:=by
    simp only [D7,O2,or_false] at hw
    rcases hw with rfl | rfl | rfl <;> decide +kernel
   rw [e];exact iteT ⟨_,sB hp,q _ S1⟩
  .have e:X7 (V.str w) [V.str "figures",V.str "blanks",V.str "behind"]=false/\valV [((Sum.inr ("row" : Str):B5),V.int 1),(Sum.inr ("marks" : Str),V.int 1),(Sum.inr ("great" : Str),V.int 2),(Sum.inr ("as" : Str),V.int 2),(Sum.inr ("over" : Str),V.int 1),(Sum.inr ("forget" : Str),V.int 1)] (Sum.inr w)=some (V.int n):=by
    simp only [D7,O2,or_false,Prod.mk.injEq] at hw
    rcases hw with ⟨rfl,rfl⟩ | ⟨rfl,rfl⟩ | ⟨rfl,rfl⟩ | ⟨rfl,rfl⟩ | ⟨rfl,rfl⟩ | ⟨rfl,rfl⟩ <;> exact ⟨by decide +kernel,by rfl⟩
   rw [e.1];refine iteF ⟨_,.inl (S1.seq hS),V.str w,M4 _ _,?_⟩;walk_at "rd";rw [e.2];refine iteF ⟨ps.length,.inl ⟨_,.of hp,by rw [A4]⟩,_,.inl (S1.seq hS),V.str w,M4 _ _,_,kV_str.mpr rfl,_,e.2,?_⟩;walk_at "rd";rw [decide_eq_true hn];refine iteT ⟨⟨_,.of hp⟩,compL (xs:=ps.map V.str) [] rfl (fun D i ys H4=>ys=O3 i (V.bl true)/\Same H1 H4) (fun D nD=>⟨rfl,Same.new nD⟩) (by rintro D i ys H4 nD _ ⟨_,S⟩;exact .of (S _ _ hp)) ?_ ?_⟩
   .rintro D i x ys H4 nD hi hx ⟨rfl,S⟩ hD hy;obtain ⟨z,hz,rfl⟩:=J1 hx;have hzp:=Z1 z (G2 hz);walk_at "rd";refine ⟨V.str z, "str",rfl,rfl,fun z' e'=>?_,fun H5 S5=>?_⟩
    .cases e'
     have:=(jC hzp).2
     lia
    .rw [show dL (V.str z)=true from hzp];rw [A4] at hi;exact ⟨S5 _ _ hD,by rw [iK];exact J5 (by lia),CW.put (by rw [A4];exact hi) hy ⟨by rw [List.replicate_succ'],(S.trans S5).put nD⟩⟩
   .rintro D ys H4 nD ⟨rfl,S⟩ hD hy;walk_at "rd";refine ⟨O3 ps.length true,by rw [hD,A4,List.map_replicate],?_⟩;rw [show (O3 ps.length true).all id=true by simp];exact q _ (S1.trans S)
theorem sc_read_rule:FnScope ["line", "words"] ["line"] (C3 gJ):=G1
abbrev aes:List Str:=["line", "words"]
theorem vbQ:VS aes gJ "line" 0:=vq
theorem vbR:VS aes gJ "words" 1:=vq
theorem vbS:LS gJ "words":=lq
theorem ago(F:FunD K "read_rule" "read_rule" gJ f fd)(T:Txt P w K mg C C_Book C_NoName C_Ring)(G_is_rule:FO P w K mg base 3 "is_rule" ["words"] [] (ahy K)):FnOk P w K mg base D9 4 f fd ["line"] aeV:=by
 refine F.ok sc_read_rule ?_ ?_
 .rintro _ _ _ _ ⟨z,w,ps,rfl,_⟩;rfl
 .intro cdv A outer s H vs Q E hr h;have C6:=hu_of hr;have hu:=hr.units;refine ⟨_,QSs.out (A5 (qs_if (jF (f8 (K:=K) (qe_cB q_isi T.b_isinstance gB (qa_c (vi vbQ) (qa_c (qe_ty T.b_str zX) A2))))) (A7 dD) G7)
   (A5 (C9 (n:=1) sc_read_rule.nd rfl vbS (qe_mB (K:=K) iQ PySem.F.slot_str_split PySem.F.type_str_split sC (vi vbQ) (qa_c D4 A2)))
   (A5 (qs_if (jF (f8 (K:=K) (F9 G_is_rule (hm hr) (qa_c (vi vbR) A2)))) (A7 dD) G7)
   (A7 (D6 (qe_cT (sA (K:=K)) T.b_tuple rO (qa_c (vi vbR) A2))))))),?_⟩
  obtain ⟨z,w,ps,rfl,hz,U3,hg,q⟩:=h;walk_at "rd";refine ⟨"str",rfl,rfl,?_⟩;rw [show (!fY "str" "str")=false from rfl];have hl:(w::ps).length<=1001:=by rw [E8];exact Nat.succ_le_succ hg.1
  refine iteF ⟨z, " ",rfl,rfl,by decide,N1 (by lia),by rw [U3];exact N1 (by lia),fun p np=>?_⟩;rw [U3];have S1:Same H (A0 H p (.lst ((w::ps).map V.str))):=Same.new np;have hp:A0 H p (.lst ((w::ps).map V.str)) p=some (.lst ((w::ps).map V.str)):=A1;refine ⟨p,w,ps,rfl,.of hp,hg,fun H2 S2=>⟨true,rfl,iteF ?_⟩⟩;walk_at "rd";exact rTupR.l (.of (S2 _ _ hp)) fun l nl=>q l _ (S1.free (S2.free nl)) (fun b o h=>C4 (S2 b o (S1 b o h)) nl) A1
theorem sc_forgotten:FnScope ["rules", "gone", "rule", "piece"] ["rules"] (C3 t6):=G1
abbrev oF:List Str:=["rules", "gone", "rule", "piece"]
theorem vbT:VS oF t6 "rules" 0:=vq
theorem vbU:VS oF t6 "gone" 1:=vq
theorem vbV:VS oF t6 "rule" 2:=vq
theorem vbW:VS oF t6 "piece" 3:=vq
theorem vbX:LS t6 "gone":=lq
theorem vbY:LS t6 "rule":=lq
theorem vbZ:LS t6 "piece":=lq
theorem agp(F:FunD K "forgotten" "forgotten" t6 f fd)(T:Txt P w K mg C C_Book C_NoName C_Ring):FnOk P w K mg base D9 1 f fd ["rules"] aem:=by
 refine F.ok sc_forgotten ?_ ?_
 .rintro _ _ _ _ ⟨a,rs,R,rfl,_⟩;rfl
 .intro cdv A outer s H vs Q E hr h;have C6:=hu_of hr;have hu:=hr.units;refine ⟨_,QSs.out (A5 (C9 (n:=1) sc_forgotten.nd rfl vbX y8)
   (A5 (N5 PassesOwn.never (O8 (K:=K) (vi vbT)) (E6 (n:=2) sc_forgotten.nd rfl vbY (.inl rfl)) (A7 (qs_if (E4 (q_eq (K:=K) hu) (qe_ix (K:=K) (vi vbV) A6) D4) (A7 (N5 PassesOwn.never (dE (K:=K) (R7 (K:=K) (vi vbV) (Q0 A6) V8)) (E6 (n:=3) sc_forgotten.nd rfl vbZ (.inl rfl)) (A7 (g0 C6 (vi vbU) (vi vbW) qe_bl)))) G7)))
   (A7 (D6 (vi vbU))))),?_⟩
  obtain ⟨a,rs,R,rfl,hR,hF,hl,q⟩:=h;walk_at "rd";refine fun d nd=>⟨⟨_,.of (C4 hR.top nd)⟩,forL (xs:=rs.map V.ref) (fun i Y H2=>∃ (u v:Option V),Y=[some (.ref a),some (.ref d),u,v]/\Same H H2/\H2 d=some (.dK (kvOf (goneL (R.take i))))) ⟨none,none,rfl,Same.new nd,by rw [A1];rfl⟩ (by rintro i Y H2 _ ⟨_,_,_,S,_⟩;exact .of (S _ _ hR.top)) ?_ ?_⟩
  .rintro i x Y H2 hx ⟨u,v,rfl,S,hd⟩;obtain ⟨r,hr,rfl⟩:=J1 hx;obtain ⟨z,hz,C7⟩:=Paired.at hR.row hr;have cS:=S _ _ C7;have hlz:z.2.length<=1000:=(hF z (G2 hz)).1;have hgl:(goneL (R.take i)).length<=500000:=by
    have h1:=aka (R:=R.take i) fun y hy=>hF y (mB hy)
    rw [K3] at h1;lia
   have estep:=ah9 hz;walk_at "rd";refine ⟨_,.inr (.of cS),V.str z.1,M4 _ _,?_⟩;walk_at "rd";refine iteD (fun hw=>?_) fun hw=>?_
   .rw [if_pos hw] at estep;refine rSlR.t (.of cS) (g3 (k:=1) (by decide) (by simp)) fun p np=>?_
    rw [show cutV ((z.1::z.2).map V.str) (some 1) none=z.2.map V.str from mV _ _];have lF:d≠p:=fun e=>by rw [e,np] at hd;cases hd
    refine ⟨p,rfl,⟨_,.of A1⟩,forT (xs:=z.2.map V.str) (fun j Y H3=>∃ (v:Option V),Y=[some (.ref a),some (.ref d),some (.ref r),v]/\Same H H3/\H3 p=some (.tup (z.2.map V.str))/\H3 d=some (.dK (kvOf (J0 (goneL (R.take i)) (z.2.take j)))))
     ⟨v,rfl,fun b o h=>C4 (S b o h) np,A1,by rw [A3 lF];exact hd⟩ (by rintro j Y H3 _ ⟨_,_,_,h,_⟩;exact .of h) ?_ ?_⟩
    .rintro j y Y H3 hy ⟨v,rfl,S3,eK,Q9⟩;obtain ⟨y,xC,rfl⟩:=J1 hy;walk_at "rd";refine ⟨_,j3 (k:=Sum.inr y) Q9 ?_,S3.put nd,?_,?_⟩
     .unfold kvOf;rw [A4]
      have:=dA (z.2.take j) (goneL (R.take i))
      rw [K3] at this;exact J5 (by lia)
     .rw [A3 lF.symm];exact eK
     .rw [A1,afM,zZ xC]
    .rintro Y H3 ⟨v,rfl,S3,eK,Q9⟩;walk_at "rd";refine ⟨S3,?_⟩;rw [Q9,estep,A4,K0]
   .rw [if_neg hw] at estep;rw [estep];exact ⟨S,hd⟩
  .rintro Y H2 ⟨u,v,rfl,S,hd⟩;walk_at "rd";refine q d H2 nd S ?_;rw [hd,A4,show rs.length=R.length from Paired.length hR.row,K0]
theorem sc_without:FnScope ["rule", "gone", "word", "left"] ["rule", "gone"] (C3 t7):=G1
abbrev oG:List Str:=["rule", "gone", "word", "left"]
theorem gQ:VS oG t7 "rule" 0:=vq
theorem vb1:VS oG t7 "gone" 1:=vq
theorem oH:VS oG t7 "word" 2:=vq
theorem vb3:VS oG t7 "left" 3:=vq
theorem vb4:LS t7 "word":=lq
theorem vb5:LS t7 "left":=lq
theorem aiq(F:FunD K "without" "without" t7 f fd)(T:Txt P w K mg C C_Book C_NoName C_Ring):FnOk P w K mg base D9 1 f fd ["rule", "gone"] af9:=by
 refine F.ok sc_without ?_ ?_
 .rintro _ _ _ _ ⟨a,d,z,g,rfl,_⟩;rfl
 .intro cdv A outer s H vs Q E hr h;have C6:=hu_of hr;have hu:=hr.units;obtain ⟨a_STAYING,m_STAYING,M_STAYING⟩:=T.x_STAYING;refine ⟨_,QSs.out (A5 (C9 (n:=2) sc_without.nd rfl vb4 (qe_ix (K:=K) (vi gQ) A6))
   (A5 (qs_if (E4 (q_eq (K:=K) hu) (vi oH) D4) (A7 (D6 (rR (E4 (q_in (K:=K) hu) (qe_ix (K:=K) (vi gQ) A6) (vi vb1)) dB (vi gQ)))) G7)
   (A5 (qs_if (E4 (ahe M_STAYING) (vi oH) (O7 m_STAYING)) (A7 (D6 (vi gQ))) G7)
   (A5 (C9 (n:=3) sc_without.nd rfl vb5 (qe_cT (sA (K:=K)) T.b_tuple rO (qa_c (V9  (T0:CompOk ["rule", "gone", "word", "left"] (C3 t7).names _ ["piece", "gone"] 1 [1]) (dE (K:=K) (R7 (K:=K) (vi gQ) (Q0 (jJ M_STAYING (O7 m_STAYING) (vi oH))) V8)) (fun _ _ _ _ _=>E6 (n:=0) (show List.Nodup (["piece", "gone"]:List Str) by decide +kernel) rfl (Or.inl rfl)) (fun _ _ _ _ _=>(bP (E4 (mU (K:=K) hu) (qv 0) (qv 1)))) (fun _ _ _ _ _=>(qv 0))) A2)))
   (A7 (D6 (rR (f8 (K:=K) (vi vb3)) (qe_op (q_add (K:=K)) (R7 (K:=K) (vi gQ) V8 (Q0 (jJ M_STAYING (O7 m_STAYING) (vi oH)))) (vi vb3)) dB))))))),?_⟩
  obtain ⟨a,d,z,g,rfl,ha,hd,hF,q⟩:=h;walk_at "rd";refine ⟨_,.inr (.of ha),V.str z.1,M4 _ _,?_⟩;walk_at "rd"
  rcases aib hF with ⟨hw,_,_,_,y,ys,hy⟩ | ⟨hw,hs,hv⟩ | ⟨hw,_,k,hs,hv,hk⟩
  .rw [decide_eq_true hw];refine iteT ⟨_,.inr (.of ha),V.str y,?_,rInR.d (p8 (k:=Sum.inr y) hd) ⟨_,rfl,?_⟩⟩
   .rw [hy];exact N9 (j:=1) rfl
   rw [ahp,fJ];have e:N7 g z=if y∈g then none else some z:=by unfold N7;rw [if_pos hw,hy];rfl
   rw [e] at q;exact iteD (fun hm=>q _ _ (U9 H) (by rw [if_pos hm];rfl)) fun hm=>q _ _ (U9 H) (by rw [if_neg hm];exact ⟨a,rfl,ha⟩)
  .rw [decide_eq_false hw,hv];have e:N7 g z=some z:=by unfold N7;rw [if_neg hw,hs]
   rw [e] at q;exact iteF (iteT (q _ _ (U9 H) ⟨a,rfl,ha⟩))
  .rw [decide_eq_false hw,hv];have e:N7 g z=if keepR g (z.2.drop k)=[] then none else some (z.1,z.2.take k++keepR g (z.2.drop k)):=by unfold N7;rw [if_neg hw,hs]
   rw [e] at q;have pH:z.2.length<=1000:=hF.1;refine iteF (iteF ⟨_,rfl,_,rfl,rSlR.t (.of ha) (g3 (k:=k+1) (by lia) (by simp)) fun p np=>?_⟩);rw [alS];have S1:Same H (A0 H p (.tup ((z.2.drop k).map V.str))):=Same.new np;have hp:A0 H p (.tup ((z.2.drop k).map V.str)) p=some (.tup ((z.2.drop k).map V.str)):=A1;generalize A0 H p (.tup ((z.2.drop k).map V.str))=H1 at S1 hp;refine ⟨p,rfl,⟨_,.of hp⟩,compT (xs:=(z.2.drop k).map V.str) [some (.ref d)] rfl (fun D i ys H4=>ys=(keepR g ((z.2.drop k).take i)).map V.str/\Same H1 H4) (fun D nD=>⟨rfl,Same.new nD⟩) (by rintro D i ys H4 nD _ ⟨_,S⟩;exact .of (S _ _ hp)) ?_ ?_⟩
   .rintro D i x ys H4 nD hi hx ⟨rfl,S⟩ hD hy;obtain ⟨y,xC,rfl⟩:=J1 hx;walk_at "rd";refine rInR.d (p8 (k:=Sum.inr y) (S _ _ (S1 _ _ hd))) ⟨_,rfl,?_⟩;rw [ahp,Bool.true_xor];have es:keepR g ((z.2.drop k).take (i+1))=if y∈g then keepR g ((z.2.drop k).take i) else keepR g ((z.2.drop k).take i)++[y]:=by
     unfold keepR;rw [R4,xC,o1]
     by_cases hm:y∈g
     .rw [if_pos hm];simp [hm]
     .rw [if_neg hm];simp [hm]
    have dY:(keepR g ((z.2.drop k).take i)).length<=1000:=by
     have h1:=cU (fun p=>decide (p∉g)) ((z.2.drop k).take i);rw [K3,o7] at h1;unfold keepR;lia
    refine iteN (fun hm=>⟨hD,by rw [A4];exact J5 (by lia),CW.put hi hy ⟨?_,S.put nD⟩⟩) fun hm=>⟨hD,jB hi hy ⟨?_,S⟩⟩
    .rw [es,if_neg hm,E5];rfl
    .rw [es,if_pos hm]
   .rintro D ys H4 nD ⟨rfl,S⟩ hD hy;rw [A4,K0] at hD;walk_at "rd";refine rTupR.l (.of hD) fun t nt=>?_
    have dY:(keepR g (z.2.drop k)).length<=1000:=by
     have h1:=cU (fun p=>decide (p∉g)) (z.2.drop k);rw [o7] at h1;unfold keepR;lia
    refine ⟨_,.inr (.inl ⟨_,.of A1,rfl⟩),?_⟩;have S2:Same H (A0 H4 t (.tup ((keepR g (z.2.drop k)).map V.str))):=fun b o h=>C4 (S b o (S1 b o h)) nt
    by_cases iG:keepR g (z.2.drop k)=[]
    .rw [iG];rw [if_pos iG] at q;rw [iG] at S2;exact iteF (q _ _ S2 rfl)
    .have G4:(!((keepR g (z.2.drop k)).map V.str).isEmpty)=true:=by
      rw [Bool.not_eq_true',List.isEmpty_eq_false_iff]
      simpa using iG
     rw [G4];rw [if_neg iG] at q;refine iteT (rSlR.t (.of (S2 _ _ ha)) (aia (k:=k+1) (by simp;lia)) fun p2 m7=>?_);rw [akb];walk_at "rd";refine rAddR.t (.of A1) (.of (C4 A1 m7)) (by simp) ?_ (fun e=>?_) fun _ p3 xD=>q _ _ (fun b o h=>C4 (C4 (S2 b o h) m7) xD) ⟨p3,rfl,?_⟩
     .simp only [E8,A4,K3];exact N1 (by lia)
     .simp at e;exact absurd e iG
     .rw [A1];show _=some (HO.tup (b9 V.str (z.1::(List.take k z.2++keepR g (List.drop k z.2)))));rw [<- List.cons_append,E5];rfl
theorem sc_changed:FnScope ["rules", "more", "gone", "elder", "both"] ["rules", "more"] (C3 Y5):=G1
abbrev oI:List Str:=["rules", "more", "gone", "elder", "both"]
theorem vb6:VS oI Y5 "rules" 0:=vq
theorem vb7:VS oI Y5 "more" 1:=vq
theorem vb8:VS oI Y5 "elder" 3:=vq
theorem vb9:VS oI Y5 "both" 4:=vq
theorem vca:LS Y5 "gone":=lq
theorem vcb:LS Y5 "elder":=lq
theorem vcc:LS Y5 "both":=lq
theorem air(F:FunD K "changed" "changed" Y5 f fd)(T:Txt P w K mg C C_Book C_NoName C_Ring)(G_forgotten:FO P w K mg base 1 "forgotten" ["rules"] [] aem)(G_without:FO P w K mg base 1 "without" ["rule", "gone"] [] af9):FnOk P w K mg base D9 2 f fd ["rules", "more"] aga:=by
 refine F.ok sc_changed ?_ ?_
 .rintro _ _ _ _ ⟨a,b,rs,ms,R,M,rfl,_⟩;rfl
 .intro cdv A outer s H vs Q E hr h;have C6:=hu_of hr;have hu:=hr.units;refine ⟨_,QSs.out (A5 (C9 (n:=2) sc_changed.nd rfl vca (F9 G_forgotten (hm hr) (qa_c (vi vb7) A2)))
   (A5 (rX (n:=3) sc_changed.nd rfl vcb (T0:CompOk ["rules", "more", "gone", "elder", "both"] (C3 Y5).names _ ["rule", "gone"] 1 [2]) (O8 (K:=K) (vi vb6)) (fun _ _ _ _ _=>E6 (n:=0) (show List.Nodup (["rule", "gone"]:List Str) by decide +kernel) rfl (Or.inl rfl)) (fun _ _ _ _ _=>y9) (fun _ _ _ _ _=>(F9 G_without (hm hr) (qa_c (qv 0) (qa_c (qv 1) A2)))))
   (A5 (C9 (n:=4) sc_changed.nd rfl vcc (qe_op (q_add (K:=K)) (V9  (T0:CompOk ["rules", "more", "gone", "elder", "both"] (C3 Y5).names _ ["rule"] 1 []) (O8 (K:=K) (vi vb8)) (fun _ _ _ _ _=>E6 (n:=0) (show List.Nodup (["rule"]:List Str) by decide +kernel) rfl (Or.inl rfl)) (fun _ _ _ _ _=>(bP (E4 amg (qv 0) dB))) (fun _ _ _ _ _=>(qv 0))) (qe_cT (jI (K:=K) (calm:=true)) T.b_list gC (qa_c (vi vb7) A2))))
   (A7 (D6 (V9  (T0:CompOk ["rules", "more", "gone", "elder", "both"] (C3 Y5).names _ ["rule"] 1 []) (O8 (K:=K) (vi vb9)) (fun _ _ _ _ _=>E6 (n:=0) (show List.Nodup (["rule"]:List Str) by decide +kernel) rfl (Or.inl rfl)) (fun _ _ _ _ _=>(bP (E4 (q_ne (K:=K) hu) (qe_ix (K:=K) (qv 0) A6) D4))) (fun _ _ _ _ _=>(qv 0)))))))),?_⟩
  obtain ⟨a,b,rs,ms,R,M,rfl,hR,hM,hF,hG,hl,hm,q⟩:=h;have hrl:rs.length=R.length:=Paired.length hR.row;have xA:ms.length=M.length:=Paired.length hM.row;walk_at "rd";refine ⟨b,ms,M,rfl,hM,hG,hm,fun d H1 nd S1 hd=>?_⟩;have hR1:=hR.same S1;have hM1:=hM.same S1;refine ⟨⟨_,.of hR1.top⟩,compL (xs:=rs.map V.ref) [some (.ref d)] rfl (fun D i ys H4=>Paired (RelR H4) ys ((R.take i).map (N7 (goneL M)))/\Same H1 H4) (fun D nD=>⟨.nil,Same.new nD⟩) (by rintro D i ys H4 nD _ ⟨_,S⟩;exact .of (S _ _ hR1.top)) ?_ ?_⟩
  .rintro D i x ys H4 nD hi hx ⟨P,S⟩ hD hy;obtain ⟨r,hr,rfl⟩:=J1 hx;obtain ⟨z,hz,C7⟩:=Paired.at hR1.row hr;rw [A4] at hi;walk_at "rd";refine ⟨r,d,z,goneL M,rfl,S _ _ C7,S _ _ hd,hF z (G2 hz),fun x H5 S5 hx=>⟨S5 _ _ hD,J5 (by lia),CW.put (by rw [A4];exact hi) hy ⟨?_,(S.trans S5).put nD⟩⟩⟩;rw [R4,hz,fL,E5];exact Paired.snoc (R1 P fun _ _ h=>(h.same S5).put (S5 _ _ hD)) (hx.put (S5 _ _ hD))
  .rintro D ys H4 nD ⟨P,S⟩ hD hy;rw [A4,hrl,K0] at P;have v7:ys.length<=500:=by rw [A4] at hy;lia
   refine ⟨D,rfl,⟨_,.of hD⟩,compL (xs:=ys) [] rfl (fun D2 i ws H5=>∃ qs:List Addr,ws=qs.map V.ref/\Paired (fun r z=>H5 r=some (tupR z)) qs (((R.map (N7 (goneL M))).take i).filterMap id)/\Same H4 H5) (fun D2 nD2=>⟨[],rfl,.nil,Same.new nD2⟩) (by rintro D2 i ws H5 nD2 _ ⟨_,_,_,S⟩;exact .of (S _ _ hD)) ?_ ?_⟩
   .rintro D2 i x ws H5 nD2 hi hx ⟨qs,rfl,P5,S5⟩ hD2 eJ;obtain ⟨o,ho,aP⟩:=Paired.at P hx;walk_at "rd";have e2:((R.map (N7 (goneL M))).take (i+1)).filterMap id=((R.map (N7 (goneL M))).take i).filterMap id++[o].filterMap id:=by rw [R4,ho,fL,lZ]
    cases o with
    | none=>
     obtain rfl:x=V.non:=aP;rw [decide_eq_true rfl];exact iteF ⟨hD2,jB hi eJ ⟨qs,rfl,by rw [e2,List.filterMap_cons_none rfl,List.filterMap_nil,M9];exact P5,S5⟩⟩
    | some z=>
     obtain ⟨r,rfl,hr⟩:=aP;rw [decide_eq_false (by simp)];refine iteT ⟨hD2,J5 (by lia),CW.put hi eJ ⟨qs++[r],by rw [E5];rfl,?_,S5.put nD2⟩⟩;rw [e2,show List.filterMap id [some z]=[z] from rfl];exact Paired.snoc (R1 P5 fun _ _ h=>jY hD2 h) (jY hD2 (S5 _ _ hr))
   .rintro D2 ws H5 nD2 ⟨qs,rfl,P5,S5⟩ hD2 eJ;rw [show ys.length=(R.map (N7 (goneL M))).length from Paired.length P,K0,List.filterMap_map] at P5;have hM5:=(hM1.same S).same S5;refine rListR.l (.inl (.of hM5.top)) fun l2 pW=>?_
    walk_at "rd";have hql:qs.length<=500:=by rw [A4] at eJ;lia
    refine rAddR.l (C4 hD2 pW) A1 (by rw [A4,A4];exact N1 (by lia)) fun l3 xE=>?_
    have P6:Paired (fun r z=>A0 (A0 H5 l2 (HO.lst (ms.map V.ref))) l3 (HO.lst (qs.map V.ref++ms.map V.ref)) r=some (tupR z)) (qs++ms) (R.filterMap (N7 (goneL M))++M):=
     Paired.append (R1 P5 fun _ _ h=>C4 (C4 h pW) xE) (R1 hM5.row fun _ _ h=>C4 (C4 h pW) xE)
    have h6:A0 (A0 H5 l2 (HO.lst (ms.map V.ref))) l3 (HO.lst (qs.map V.ref++ms.map V.ref)) l3=some (HO.lst ((qs++ms).map V.ref)):=by rw [A1,E5]
    have S6:Same H (A0 (A0 H5 l2 (HO.lst (ms.map V.ref))) l3 (HO.lst (qs.map V.ref++ms.map V.ref))):=fun b o h=>C4 (C4 (S5 b o (S b o (S1 b o h))) pW) xE
    generalize A0 (A0 H5 l2 (HO.lst (ms.map V.ref))) l3 (HO.lst (qs.map V.ref++ms.map V.ref))=H6 at P6 h6 S6;have hxl:(qs++ms).length<=1000:=by rw [E3];lia
    have hqr:(qs++ms).length=(R.filterMap (N7 (goneL M))++M).length:=Paired.length P6;refine ⟨l3,rfl,⟨_,.of h6⟩,compL (xs:=(qs++ms).map V.ref) [] rfl (fun D3 i ws H7=>∃ us:List Addr,ws=us.map V.ref/\Paired (fun r z=>H7 r=some (tupR z)) us (young ((R.filterMap (N7 (goneL M))++M).take i))/\Same H6 H7) (fun D3 nD3=>⟨[],rfl,.nil,Same.new nD3⟩) (by rintro D3 i ws H7 nD3 _ ⟨_,_,_,S⟩;exact .of (S _ _ h6)) ?_ ?_⟩
    .rintro D3 i x ws H7 nD3 hi hx ⟨us,rfl,P7,S7⟩ hD3 pX;obtain ⟨r,hr,rfl⟩:=J1 hx;obtain ⟨z,hz,C7⟩:=Paired.at P6 hr;rw [A4] at hi;walk_at "rd";refine ⟨_,.inr (.of (S7 _ _ C7)),V.str z.1,M4 _ _,?_⟩;walk_at "rd";have e:young ((R.filterMap (N7 (goneL M))++M).take (i+1))=young ((R.filterMap (N7 (goneL M))++M).take i)++if z.1=k4 then [] else [z]:=by
      rw [R4,hz,fL];unfold young;rw [o1]
      by_cases hw:z.1=k4
      .rw [if_pos hw];simp [hw]
      .rw [if_neg hw];simp [hw]
     refine iteN (fun hw=>⟨hD3,J5 (by rw [A4] at pX;rw [A4];lia),CW.put (by rw [A4];exact hi) pX ⟨us++[r],by rw [E5];rfl,?_,S7.put nD3⟩⟩) fun hw=>⟨hD3,jB (by rw [A4];exact hi) pX ⟨us,rfl,?_,S7⟩⟩
     .rw [e,if_neg hw];exact Paired.snoc (R1 P7 fun _ _ h=>jY hD3 h) (jY hD3 (S7 _ _ C7))
     .rw [e,if_pos hw,M9];exact P7
    .rintro D3 ws H7 nD3 ⟨us,rfl,P7,S7⟩ hD3 pX;rw [A4,hqr,K0] at P7;exact q D3 us H7 (S6.free nD3) (S6.trans S7) ⟨hD3,P7⟩
theorem ais:FnScope ["word"] ["word"] (C3 jW):=G1
abbrev aku:List Str:=["word"]
theorem vcd:VS aku jW "word" 0:=vq
theorem ait(F:FunD K "is_name" "is_name" jW f fd)(T:Txt P w K mg C C_Book C_NoName C_Ring):FnOk P w K mg base D9 1 f fd ["word"] ahz:=by
 refine F.ok ais ?_ ?_
 .rintro _ _ _ _ ⟨z,rfl,_⟩;rfl
 .intro cdv A outer s H vs Q E hr h;have C6:=hu_of hr;have hu:=hr.units;refine ⟨_,QSs.out (A7 (D6 (y7 (jE q_le q_le A6 (qe_cB (q_len (K:=K)) T.b_len X9 (qa_c (vi vcd) A2)) A6) (dC (qe_cB (q_all (calm:=true)) T.b_all rN (qa_c (V9  (T0:CompOk ["word"] (C3 jW).names _ ["sign"] 1 []) (rW (vi vcd)) (fun _ _ _ _ _=>E6 (n:=0) (show List.Nodup (["sign"]:List Str) by decide +kernel) rfl (Or.inl rfl)) (fun _ _ _ _ _=>y9) (fun _ _ _ _ _=>(jE q_le q_le D4 (qv 0) D4))) A2)))))),?_⟩;obtain ⟨z,rfl,hz,q⟩:=h;have len:z.length=z.cps.toList.length:=by simp [Str.length]
  have e1:(Str.ofString "a").cps.toList=[97]:=by decide +kernel
  have e2:(Str.ofString "z").cps.toList=[122]:=by decide +kernel
  walk_at "rd";refine ⟨N1 (by lia),iteD (fun h1=>iteD (fun h2=>?_) fun h2=>?_) fun h1=>?_⟩
  .refine compS [] rfl (fun D i ys H4=>ys=((z.cps.toList.take i).map fun c=>decide (97<=c)&&decide (c<=122)).map V.bl/\Same H H4) (fun D nD=>⟨rfl,Same.new nD⟩) ?_ ?_
   .rintro D i x ys H4 nD hi hx ⟨rfl,S⟩ hD hy;have m8:((((z.cps.toList.take i).map fun c=>decide (97<=c)&&decide (c<=122)).map V.bl)).length<sizeLine:=by
     rw [A4,A4,K3];exact J5 (by lia)
    walk_at "rd";rw [e1,e2];simp only [sS];refine iteN (fun h3=>⟨hD,m8,CW.put hi hy ⟨?_,S.put nD⟩⟩) fun h3=>⟨hD,m8,CW.put hi hy ⟨?_,S.put nD⟩⟩
    .have e:(decide (97<=x)&&decide (x<=122))=!decide (122<x):=by
      rw [decide_eq_true (by lia:97<=x),bH]
      by_cases h4:x<=122
      .rw [decide_eq_true h4,decide_eq_false (by lia)];rfl
      .rw [decide_eq_false h4,decide_eq_true (by lia)];rfl
     rw [L9 hx,E5,E5];show _=_++[V.bl (decide (97<=x)&&decide (x<=122))];rw [e]
    .have e:(decide (97<=x)&&decide (x<=122))=false:=by rw [decide_eq_false (by lia:¬ 97<=x)];rfl
     rw [L9 hx,E5,E5];show _=_++[V.bl (decide (97<=x)&&decide (x<=122))];rw [e]
   .rintro D ys H4 nD ⟨rfl,S⟩ hD hy;refine ⟨_,rfl,hD,?_⟩;have e:nameB z=((z.cps.toList.take z.cps.size).map fun c=>decide (97<=c)&&decide (c<=122)).all id:=by
     unfold nameB;rw [decide_eq_true (by lia:1<=z.length),decide_eq_true (by lia:z.length<=8),X4 (by simp)]
     simp
    rw [e] at q;exact q H4 S
  .have e:nameB z=false:=by
    unfold nameB;rw [decide_eq_false (by lia:¬ z.length<=8)]
    simp
   rw [e] at q;exact q H (U9 H)
  .have e:nameB z=false:=by
    unfold nameB;rw [decide_eq_false (by lia:¬ 1<=z.length)]
    simp
   rw [e] at q;exact q H (U9 H)
theorem aet:FnScope ["words"] ["words"] (C3 nP):=G1
abbrev aeC:List Str:=["words"]
theorem dN:VS aeC nP "words" 0:=vq
theorem aeu(F:FunD K "is_beginning" "is_beginning" nP f fd)(T:Txt P w K mg C C_Book C_NoName C_Ring)(G_is_name:FO P w K mg base 1 "is_name" ["word"] [] ahz):FnOk P w K mg base D9 2 f fd ["words"] akc:=by
 refine F.ok aet ?_ ?_
 .rintro _ _ _ _ ⟨a,l,rfl,_⟩;rfl
 .intro cdv A outer s H vs Q E hr h;have C6:=hu_of hr;have hu:=hr.units;refine ⟨_,QSs.out (A5 (qs_if (E4 (q_ne (K:=K) hu) (qe_ix (K:=K) (vi dN) A6) D4) (A7 (D6 qe_bl)) G7)
   (A5 (qs_if (E4 (q_eq (K:=K) hu) (qe_cB (q_len (K:=K)) T.b_len X9 (qa_c (vi dN) A2)) A6) (A7 (D6 (F9 G_is_name (hm hr) (qa_c (qe_ix (K:=K) (vi dN) A6) A2)))) G7)
   (A7 (D6 (y7 (j4 (q_eq (K:=K) hu) (qe_cB (q_len (K:=K)) T.b_len X9 (qa_c (vi dN) A2)) A6) (y7 (F9 G_is_name (hm hr) (qa_c (qe_ix (K:=K) (vi dN) A6) A2)) (y7 (j4 (q_eq (K:=K) hu) (qe_ix (K:=K) (vi dN) A6) D4) (dC (F9 G_is_name (hm hr) (qa_c (qe_ix (K:=K) (vi dN) A6) A2)))))))))),?_⟩
  obtain ⟨a,l,rfl,ha,ho,q⟩:=h
  cases l with
  | beg n x=>
   have hn:=ho.1;obtain ⟨cJ,k9,_⟩:=g8 hn
   cases x with
   | none=>
    have ha:H a=some (.lst [V.str "order",V.str n]):=ha;walk_at "rd";refine ⟨_,.inl (.of ha),V.str "order",M4 _ _,?_⟩;walk_at "rd";rw [show (!decide True)=false from rfl];refine iteF ⟨2,.inl ⟨_,.of ha,rfl⟩,iteT ⟨_,.inl (.of ha),V.str n,N9 (j:=1) rfl,n,rfl,by lia,fun H' S=>?_⟩⟩;rw [hn];exact q H' S
   | some e=>
    have he:=ho.2 e rfl;obtain ⟨he1,he2,_⟩:=g8 he;have ha:H a=some (.lst [V.str "order",V.str n,V.str "of",V.str e]):=ha;walk_at "rd";refine ⟨_,.inl (.of ha),V.str "order",M4 _ _,?_⟩;walk_at "rd";rw [show (!decide True)=false from rfl];refine iteF ⟨4,.inl ⟨_,.of ha,rfl⟩,iteF ⟨4,.inl ⟨_,.of ha,rfl⟩,iteT ⟨_,.inl (.of ha),V.str n,N9 (j:=1) rfl,n,rfl,by lia,fun H' S=>?_⟩⟩⟩;rw [hn];refine ⟨true,rfl,iteT ⟨_,.inl (.of (S _ _ ha)),V.str "of",N9 (j:=2) rfl,?_⟩⟩;walk_at "rd";rw [show (decide True)=true from rfl];refine iteT ⟨_,.inl (.of (S _ _ ha)),V.str e,N9 (j:=3) rfl,e,rfl,by lia,fun H2 S2=>?_⟩;rw [he];exact q H2 (S.trans S2)
  | rule z=>
   have ho:Fine z:=ho;have ha:H a=some (.lst (V.str z.1::z.2.map V.str)):=ha;have G4:¬ z.1=(Str.ofString "order"):=by
    rcases ho.2.2 with ⟨hw,_⟩ | ⟨n,hw,_⟩
    .simp only [D7,O2,or_false] at hw
     rcases hw with hw | hw | hw <;> rw [hw] <;> decide +kernel
    .simp only [D7,O2,or_false,Prod.mk.injEq] at hw
     rcases hw with ⟨hw,_⟩ | ⟨hw,_⟩ | ⟨hw,_⟩ | ⟨hw,_⟩ | ⟨hw,_⟩ | ⟨hw,_⟩ <;> rw [hw] <;> decide +kernel
   walk_at "rd";refine ⟨_,.inl (.of ha),V.str z.1,M4 _ _,?_⟩;walk_at "rd";rw [decide_eq_false G4];exact iteT (q H (U9 H))
theorem sc_Book_begin:FnScope ["self", "words", "name"] ["self", "words"] (C3 t8):=G1
abbrev uU:List Str:=["self", "words", "name"]
theorem oJ:VS uU t8 "self" 0:=vq
theorem uV:VS uU t8 "words" 1:=vq
theorem oK:VS uU t8 "name" 2:=vq
theorem vci:LS t8 "name":=lq
theorem afr(F:FunD K "begin" "Book.begin" t8 f fd)(T:Txt P w K mg C C_Book C_NoName C_Ring):FnOk P w K mg base D9 1 f fd ["self", "words"] (tN C_Book):=by
 refine F.ok sc_Book_begin ?_ ?_
 .rintro _ _ _ _ ⟨b,w,dx,o,e,n,x,H0,B,ad,as,k,rfl,_⟩;rfl
 .intro cdv A outer s H vs Q E hr h;have C6:=hu_of hr;have hu:=hr.units;refine ⟨_,QSs.out (A5 (C9 (n:=2) sc_Book_begin.nd rfl vci (qe_ix (K:=K) (vi uV) A6))
   (A5 (qs_if (E4 (q_in (K:=K) hu) (vi oK) (f9 (K:=K) (vi oJ))) (A7 dD) G7)
   (A5 (g0 C6 (f9 (K:=K) (vi oJ)) (vi oK) (V7 A2))
   (gD (qs_if (E4 q_gt (qe_cB (q_len (K:=K)) T.b_len X9 (qa_c (vi uV) A2)) A6) (A7 (g0 C6 (f9 (K:=K) (vi oJ)) (vi oK) (qe_ix (K:=K) (vi uV) A6))) G7)
   (A7 (j5 (K:=K) (vi oJ) (vi oK))))))),?_⟩
  obtain ⟨b,w,dx,o,e,n,x,H0,B,ad,as,k,rfl,hw,bk,ft,gd,q⟩:=h;have hw1:L7 ((Ln.beg n x).words.map V.str) 1=some (V.str n):=by cases x <;> exact N9 (j:=1) rfl
  walk_at "rd";refine ⟨_,.inl (.of hw),V.str n,hw1,C_Book,dx,_,bk.obj,T.cl_Book,T.na_own,V.ref o,gK _ _ _ _,?_⟩;walk_at "rd";refine rInR.d (p8 (k:=Sum.inr n) bk.own) ⟨_,rfl,?_⟩;rw [M7,if_neg ft.1,Option.isSome_none,fJ];refine iteF fun p np=>⟨C_Book,dx,_,C4 bk.obj np,T.cl_Book,T.na_own,V.ref o,gK _ _ _ _,o,rfl,_,j3 (k:=Sum.inr n) (C4 bk.own np) (by rw [Y2];have:=gd.cnt;exact J5 (by lia)),?_⟩
  have cK:b≠o:=fun z=>by have:=bk.obj;rw [z,bk.own] at this;cases this
  have Y7:b≠e:=fun z=>by have:=bk.obj;rw [z,bk.eld] at this;cases this
  have hwo:w≠o:=fun z=>by rw [z,bk.own] at hw;cases hw
  have hwe:w≠e:=fun z=>by rw [z,bk.eld] at hw;cases hw
  have npH0:H0 p=none:=bk.same.free np;have dr1:=bk.dr.more ft.1 np npH0;have noT:∀ {H:Hp} {q:Addr} {kvs:List (B5×V)},H q=some (.dK kvs)->∀ z:Rl,H q≠some (tupR z):=fun h z e=>by rw [h] at e;cases e
  have nad:∀ {q:Addr} {kvs:List (B5×V)},H q=some (.dK kvs)->∀ t∈B.names++[n],(if t=n then p else ad t)≠q:=fun {q kvs} h t ht=>by
   by_cases z:t=n
   .rw [if_pos z];exact fun z2=>by rw [<- z2,np] at h;cases h
   .rw [if_neg z];intro z2;have n8:t∈B.names:=by
     rcases J8.mp ht with h | h
     .exact h
     .exact absurd (K7.mp h) z
    have:=(bk.dr.row t n8).top
    rw [z2,h] at this
    cases this
  have h2o:A0 (A0 H p (.lst [])) o (.dK (putK (C0 B.names fun t=>V.ref (ad t)) (Sum.inr n) (V.ref p))) o=some (.dK (C0 (B.names++[n]) fun t=>V.ref (if t=n then p else ad t))):=by
   rw [A1,z8 _ ft.1];refine congrArg (fun x=>some (HO.dK x)) (Q2 fun t _=>?_)
   by_cases z:t=n
   .rw [if_pos z,if_pos z]
   .rw [if_neg z,if_neg z]
  have h2b:A0 (A0 H p (.lst [])) o (.dK (putK (C0 B.names fun t=>V.ref (ad t)) (Sum.inr n) (V.ref p))) b=some (.ins C_Book dx (flds o e (orNon B.nw) k)):=by rw [A3 cK];exact C4 bk.obj np
  have h2e:A0 (A0 H p (.lst [])) o (.dK (putK (C0 B.names fun t=>V.ref (ad t)) (Sum.inr n) (V.ref p))) e=some (.dK (C0 (B.names.filter fun t=>(B.el t).isSome) fun t=>.str ((B.el t).getD ""))):=by rw [A3 bk.oe.symm];exact C4 bk.eld np
  have h2w:A0 (A0 H p (.lst [])) o (.dK (putK (C0 B.names fun t=>V.ref (ad t)) (Sum.inr n) (V.ref p))) w=some (.lst ((Ln.beg n x).words.map V.str)):=by rw [A3 hwo];exact C4 hw np
  have S2:Same H0 (A0 (A0 H p (.lst [])) o (.dK (putK (C0 B.names fun t=>V.ref (ad t)) (Sum.inr n) (V.ref p)))):=(bk.same.trans (Same.new np)).put bk.no;have xF:=dr1.put (b:=o) (v:=.dK (putK (C0 B.names fun t=>V.ref (ad t)) (Sum.inr n) (V.ref p))) (nad bk.own) (noT (C4 bk.own np));generalize A0 (A0 H p (.lst [])) o (.dK (putK (C0 B.names fun t=>V.ref (ad t)) (Sum.inr n) (V.ref p)))=H2 at h2o h2b h2e h2w S2 xF ⊢
  refine mid (fun Y H3=>Y=[some (.ref b),some (.ref w),some (.str n)]/\H3 b=some (.ins C_Book dx (flds o e (orNon B.nw) k))/\H3 o=some (.dK (C0 (B.names++[n]) fun t=>V.ref (if t=n then p else ad t)))/\
    H3 e=some (.dK (C0 ((B.names++[n]).filter fun t=>(if t=n then x else B.el t).isSome) fun t=>.str ((if t=n then x else B.el t).getD "")))/\Same H0 H3/\DR H0 H3 (B.names++[n]) (fun t=>if t=n then p else ad t) (fun t=>if t=n then [] else as t) (fun t=>if t=n then [] else B.rl t)) ?_ ?_
  .walk_at "rd";have oldE:(C0 (B.names.filter fun t=>(B.el t).isSome) fun t=>V.str ((B.el t).getD ""))=C0 (B.names.filter fun t=>(B.el t).isSome) fun t=>V.str ((if t=n then x else B.el t).getD ""):=Q2 fun t ht=>by rw [if_neg (fun z=>ft.1 (by rw [<- z];exact (N8.mp ht).1))]
   cases x with
   | none=>
    refine ⟨2,.inl ⟨_,.of h2w,rfl⟩,iteF ⟨h2b,h2o,?_,S2,xF⟩⟩;rw [h2e,alT ft.1,oldE]
   | some y=>
    refine ⟨4,.inl ⟨_,.of h2w,rfl⟩,iteT ⟨_,.inl (.of h2w),V.str y,N9 (j:=3) rfl,C_Book,dx,_,h2b,T.cl_Book,T.na_elders,V.ref e,amu _ _ _ _,e,rfl,_,j3 (k:=Sum.inr n) h2e (by rw [Y2];have:=gd.cnt;have h3:=cU (fun t=>(B.el t).isSome) B.names;exact J5 (by lia)),?_,?_,?_,S2.put bk.ne,xF.put (nad bk.eld) (noT h2e)⟩⟩
    .rw [A3 Y7];exact h2b
    .rw [A3 bk.oe];exact h2o
    .rw [A1,alU ft.1,z8 _ (fun z=>ft.1 (N8.mp z).1)];refine congrArg (fun x=>some (HO.dK x)) (Q2 fun t _=>?_)
     by_cases z:t=n
     .rw [if_pos z,if_pos z];rfl
     .rw [if_neg z,if_neg z]
  rintro Y H3 ⟨rfl,h3b,h3o,h3e,S3,dr3⟩;walk_at "rd";refine ⟨C_Book,dx,_,h3b,T.cl_Book,T.na_newest,(by show 4<1000;decide),?_⟩;rw [aq5];have noI:∀ z:Rl,H3 b≠some (tupR z):=fun z e=>by rw [h3b] at e;cases e
  refine q _ _ _ ⟨A1,?_,?_,dr3.put (fun t ht z=>?_) noI,bk.nb,bk.no,bk.ne,bk.oe,S3.put bk.nb⟩
  .rw [A3 cK.symm];exact h3o
  .rw [A3 Y7.symm];exact h3e
  .have:=(dr3.row t ht).top
   rw [z,h3b] at this
   cases this
theorem sc_Book_add_rule:FnScope ["self", "line", "rule"] ["self", "line"] (C3 t9):=G1
abbrev uW:List Str:=["self", "line", "rule"]
theorem uX:VS uW t9 "self" 0:=vq
theorem vck:VS uW t9 "line" 1:=vq
theorem vcl:VS uW t9 "rule" 2:=vq
theorem vcm:LS t9 "rule":=lq
theorem adM(F:FunD K "add_rule" "Book.add_rule" t9 f fd)(T:Txt P w K mg C C_Book C_NoName C_Ring)(G_read_rule:FO P w K mg base 4 "read_rule" ["line"] [] aeV):FnOk P w K mg base D9 5 f fd ["self", "line"] (tO C_Book):=by
 refine F.ok sc_Book_add_rule ?_ ?_
 .rintro _ _ _ _ ⟨b,dx,o,e,z,H0,B,ad,as,k,rfl,_⟩;rfl
 .intro cdv A outer s H vs Q E hr h;have C6:=hu_of hr;have hu:=hr.units;refine ⟨_,QSs.out (A5 (qs_if (E4 q_isN (f9 (K:=K) (vi uX)) dB) (A7 dD) G7)
   (A5 (anT (fun _=>(C9 (n:=2) sc_Book_add_rule.nd rfl vcm (F9 G_read_rule (hm hr) (qa_c (vi vck) A2)))))
   (A7 (Q1 (qe_mB (K:=K) T8 e8 d0 g1 (Y0 C6 (f9 (K:=K) (vi uX)) (f9 (K:=K) (vi uX))) (qa_c (vi vcl) A2)))))),?_⟩
  obtain ⟨b,dx,o,e,z,H0,B,ad,as,k,rfl,bk,ft,gd,q⟩:=h;obtain ⟨t,pY⟩:∃ t,B.nw=some t:=by
   cases hh:B.nw with
   | none=>exact absurd hh ft.1
   | some t=>exact ⟨t,rfl⟩
  have ht:=gd.nw t pY;have hok:LnOk (.rule z):=ft.ok;walk_at "rd";refine ⟨C_Book,dx,_,bk.obj,T.cl_Book,T.na_newest,orNon B.nw,amv _ _ _ _,?_⟩;rw [pY];refine iteF ⟨(Ln.rule z).text,z.1,z.2,rfl,F6 (Ln.len hok) (by decide),Ln.split hok,ft.2,fun p H1 np S1 hp=>?_⟩;have b1:=bk.keep S1;refine ⟨C_Book,dx,_,b1.obj,T.cl_Book,T.na_own,V.ref o,gK _ _ _ _,C_Book,dx,_,b1.obj,T.cl_Book,T.na_newest,orNon B.nw,amv _ _ _ _,o,rfl,V.ref (ad t),.inl ⟨_,Sum.inr t,.inl b1.own,by rw [pY];rfl,by rw [M7,if_pos ht]⟩,R6 (b1.dr.row t ht).top,appOk (b1.dr.row t ht).top ?_ ?_⟩
  .rw [A4,show (as t).length=(B.rl t).length from Paired.length (b1.dr.row t ht).row]
   have:=gd.len t ht
   exact J5 (by lia)
  have vT:H1 p=some (tupR z):=hp;have J3:H1 (ad t)=some (.lst ((as t).map V.ref)):=(b1.dr.row t ht).top;refine q _ _ _ ⟨?_,?_,?_,(b1.dr.app ht vT).congr fun u hu=>?_,bk.nb,bk.no,bk.ne,bk.oe,b1.same.put (bk.dr.new t ht)⟩
  .rw [A3 (fun z=>by rw [<- z,b1.obj] at J3;cases J3)];exact b1.obj
  .rw [A3 (fun z=>by rw [<- z,b1.own] at J3;cases J3)];exact b1.own
  .rw [A3 (fun z=>by rw [<- z,b1.eld] at J3;cases J3)];exact b1.eld
  .show (if u=t then B.rl t++[z] else B.rl u)=if B.nw=some u then B.rl u++[z] else B.rl u
   rw [pY]
   by_cases h:u=t
   .rw [if_pos h,h,if_pos rfl]
   .rw [if_neg h,if_neg (fun z=>h (Option.some.inj z).symm)]
theorem sc_Book_tell:FnScope ["self", "line", "words"] ["self", "line"] (C3 u0):=G1
abbrev uY:List Str:=["self", "line", "words"]
theorem uZ:VS uY u0 "self" 0:=vq
theorem vco:VS uY u0 "line" 1:=vq
theorem vcp:VS uY u0 "words" 2:=vq
theorem vcq:LS u0 "words":=lq
theorem agq(F:FunD K "tell" "Book.tell" u0 f fd)(T:Txt P w K mg C C_Book C_NoName C_Ring)(G_is_beginning:FO P w K mg base 2 "is_beginning" ["words"] [] akc)(G_Book_begin:MO P w K mg base 1 C_Book "begin" ["self", "words"] (tN C_Book))(G_Book_add_rule:MO P w K mg base 5 C_Book "add_rule" ["self", "line"] (tO C_Book)):FnOk P w K mg base D9 6 f fd ["self", "line"] (tP C_Book):=by
 refine F.ok sc_Book_tell ?_ ?_
 .rintro _ _ _ _ ⟨b,dx,o,e,l,H0,B,ad,as,k,rfl,_⟩;rfl
 .intro cdv A outer s H vs Q E hr h;have C6:=hu_of hr;have hu:=hr.units;refine ⟨_,QSs.out (A5 (C9 (n:=2) sc_Book_tell.nd rfl vcq (qe_mB (K:=K) iQ PySem.F.slot_str_split PySem.F.type_str_split sC (vi vco) (qa_c D4 A2)))
   (gD (qs_if (f8 (K:=K) (F9 G_is_beginning (hm hr) (qa_c (vi vcp) A2))) (A7 (Q1 (sP (vi uZ) G_Book_begin (hm hr) (qa_c (vi vcp) A2)))) (A7 (Q1 (sP (vi uZ) G_Book_add_rule (hm hr) (qa_c (vi vco) A2)))))
   (A7 (ajD (K:=K) (vi uZ) A6 amh)))),?_⟩
  obtain ⟨b,dx,o,e,l,H0,B,ad,as,k,rfl,bk,ft,gd,q⟩:=h;have hok:=ft.ok;have pD:=uah hok;walk_at "rd";refine ⟨l.text, " ",rfl,rfl,by decide,N1 (by have:=Ln.len hok;lia),by rw [Ln.split hok];exact N1 (by lia),fun p np=>?_⟩;rw [Ln.split hok];have S1:Same H (A0 H p (.lst (l.words.map V.str))):=Same.new np;have b1:=bk.keep S1;have i3:A0 H p (.lst (l.words.map V.str)) p=some (.lst (l.words.map V.str)):=A1;generalize A0 H p (.lst (l.words.map V.str))=H1 at S1 b1 i3 ⊢
  refine mid (fun Y H3=>Y=[some (.ref b),some (.str l.text),some (.ref p)]/\∃ ad' as',BookAt C_Book H0 H3 b dx o e (B.step l) ad' as' k) ?_ ?_
  .walk_at "rd";refine ⟨p,l,rfl,i3,hok,fun H2 S2=>?_⟩;have b2:=b1.keep S2
   cases l with
   | beg n x=>
    exact ⟨true,rfl,iteT ⟨dx,_,b2.obj,rfl,b,p,dx,o,e,n,x,H0,B,ad,as,k,rfl,S2 _ _ i3,b2,ft,gd,fun ad' as' H3 b3=>⟨ad',as',b3⟩⟩⟩
   | rule z=>
    exact ⟨false,rfl,iteF ⟨dx,_,b2.obj,rfl,b,dx,o,e,z,H0,B,ad,as,k,rfl,b2,ft,gd,fun ad' as' H3 b3=>⟨ad',as',b3⟩⟩⟩
  rintro Y H3 ⟨rfl,ad',as',b3⟩;walk_at "rd";refine ⟨C_Book,dx,_,b3.obj,T.cl_Book,T.na_length,.int k,aq4 _ _ _ _,k,1,rfl,rfl,dx,_,b3.obj,(by show 4<1000;decide),?_⟩;rw [aq6];exact q ad' as' _ (b3.tick (k+1))
theorem sc_Book___init__:FnScope ["self", "text", "line"] ["self", "text"] (C3 u3):=G1
abbrev vA:List Str:=["self", "text", "line"]
theorem kE:VS vA u3 "self" 0:=vq
theorem vcs:VS vA u3 "text" 1:=vq
theorem vct:VS vA u3 "line" 2:=vq
theorem vcu:LS u3 "line":=lq
theorem adN(F:FunD K "__init__" "Book.__init__" u3 f fd)(T:Txt P w K mg C C_Book C_NoName C_Ring)(G_Book_tell:MO P w K mg base 6 C_Book "tell" ["self", "line"] (tP C_Book)):FnOk P w K mg base D9 7 f fd ["self", "text"] (tQ C_Book):=by
 refine F.ok sc_Book___init__ ?_ ?_
 .rintro _ _ _ _ ⟨b,dx,ls,H0,rfl,_⟩;rfl
 .intro cdv A outer s H vs Q E hr h;have C6:=hu_of hr;have hu:=hr.units;refine ⟨_,QSs.out (A5 (j5 (K:=K) (vi kE) y8)
   (A5 (j5 (K:=K) (vi kE) y8)
   (A5 (j5 (K:=K) (vi kE) dB)
   (A5 (j5 (K:=K) (vi kE) A6)
   (A7 (qs_if (f8 (K:=K) (vi vcs)) (A7 (N5 PassesOwn.never (O8 (K:=K) (qe_mB (K:=K) iQ PySem.F.slot_str_split PySem.F.type_str_split sC (vi vcs) (qa_c D4 A2))) (E6 (n:=2) sc_Book___init__.nd rfl vcu (.inl rfl)) (A7 (Q1 (sP (vi kE) G_Book_tell (hm hr) (qa_c (vi vct) A2)))))) G7)))))),?_⟩
  obtain ⟨b,dx,ls,H0,rfl,rfl,nb,ndx,G4,hf,hl,q⟩:=h;have hok:=hf.ok;walk_at "rd";intro o no;have S0:Same H0 (A0 (A0 H0 dx (.own b)) b (.ins C_Book dx [])):=fun c u h=>by rw [A3 (M6 h nb),A3 (M6 h ndx)];exact h
  have xG:A0 (A0 H0 dx (.own b)) b (.ins C_Book dx []) b=some (.ins C_Book dx []):=A1;generalize A0 (A0 H0 dx (.own b)) b (.ins C_Book dx [])=Ha at S0 xG no ⊢
  have noH:=S0.free no;have cK:b≠o:=fun z=>by rw [<- z,xG] at no;cases no
  refine ⟨C_Book,dx,[],C4 xG no,T.cl_Book,T.na_own,by decide,fun e ne=>?_⟩;rw [show putF (Str.ofString "own") (V.ref o) []=[(Str.ofString "own",V.ref o)] from rfl] at ne ⊢
  have h1b:A0 (A0 Ha o (.dK [])) b (.ins C_Book dx [(Str.ofString "own",V.ref o)]) b=some (.ins C_Book dx [(Str.ofString "own",V.ref o)]):=A1;have h1o:A0 (A0 Ha o (.dK [])) b (.ins C_Book dx [(Str.ofString "own",V.ref o)]) o=some (.dK []):=by rw [A3 cK.symm,A1]
  have S1:Same H0 (A0 (A0 Ha o (.dK [])) b (.ins C_Book dx [(Str.ofString "own",V.ref o)])):=(S0.trans (Same.new no)).put nb;generalize A0 (A0 Ha o (.dK [])) b (.ins C_Book dx [(Str.ofString "own",V.ref o)])=Hb at h1b h1o S1 ne ⊢
  have neH:=S1.free ne;have Y7:b≠e:=fun z=>by rw [<- z,h1b] at ne;cases ne
  have hoe:o≠e:=fun z=>by rw [<- z,h1o] at ne;cases ne
  refine ⟨C_Book,dx,_,C4 h1b ne,T.cl_Book,T.na_elders,(by show 1<1000;decide),?_⟩;rw [show putF (Str.ofString "elders") (V.ref e) [(Str.ofString "own",V.ref o)]=[(Str.ofString "own",V.ref o),(Str.ofString "elders",V.ref e)] from rfl];have h2b:A0 (A0 Hb e (.dK [])) b (.ins C_Book dx [(Str.ofString "own",V.ref o),(Str.ofString "elders",V.ref e)]) b=some (.ins C_Book dx [(Str.ofString "own",V.ref o),(Str.ofString "elders",V.ref e)]):=A1;have h2o:A0 (A0 Hb e (.dK [])) b (.ins C_Book dx [(Str.ofString "own",V.ref o),(Str.ofString "elders",V.ref e)]) o=some (.dK []):=by rw [A3 cK.symm];exact C4 h1o ne
  have h2e:A0 (A0 Hb e (.dK [])) b (.ins C_Book dx [(Str.ofString "own",V.ref o),(Str.ofString "elders",V.ref e)]) e=some (.dK []):=by rw [A3 Y7.symm,A1]
  have S2:Same H0 (A0 (A0 Hb e (.dK [])) b (.ins C_Book dx [(Str.ofString "own",V.ref o),(Str.ofString "elders",V.ref e)])):=(S1.trans (Same.new ne)).put nb;generalize A0 (A0 Hb e (.dK [])) b (.ins C_Book dx [(Str.ofString "own",V.ref o),(Str.ofString "elders",V.ref e)])=Hc at h2b h2o h2e S2 ⊢
  refine ⟨C_Book,dx,_,h2b,T.cl_Book,T.na_newest,(by show 2<1000;decide),C_Book,dx,_,A1,T.cl_Book,T.na_length,(by show 3<1000;decide),?_⟩;rw [qI,show putF (Str.ofString "length") (V.int 0) (putF (Str.ofString "newest") V.non [(Str.ofString "own",V.ref o),(Str.ofString "elders",V.ref e)])=flds o e V.non 0 from rfl];have bk:BookAt C_Book H0 (A0 Hc b (.ins C_Book dx (flds o e V.non 0))) b dx o e Bk.nil (fun _=>0) (fun _=>[]) 0:=⟨A1,by rw [A3 cK.symm];exact h2o,by rw [A3 Y7.symm];exact h2e,DR.nil _ _ _ _ _,nb,noH,neH,hoe,S2.put nb⟩
  generalize A0 Hc b (.ins C_Book dx (flds o e V.non 0))=Hd at bk ⊢
  have A9:(Str.join "\n" (ls.map Ln.text)).length<=900000:=by
   have h1:=PySem.StrLaws.join_length_le "\n" (ls.map Ln.text);rw [show ("\n" : Str).length=1 from rfl,A4] at h1;have h2:∀ ls:List Ln,(∀ l∈ls,LnOk l)->((ls.map Ln.text).map (·.length)).sum<=4000*ls.length:=by
    intro ls
    induction ls with
    | nil=>intro _;simp
    | cons l ls ih=>
     intro h
     have:=ih fun y hy=>h y (G5 _ hy)
     have h3:=Ln.len (h l G9);rw [D0,D0,p0,E8];lia
   have:=h2 ls hok
   lia
  refine ⟨N1 (by lia),?_⟩
  cases ls with
  | nil=>
   exact iteF (q o e _ _ Hd bk)
  | cons l0 pZ=>
   have Z3:0<(Str.join "\n" ((l0::pZ).map Ln.text)).length:=by
    have e:(Str.join "\n" ((l0::pZ).map Ln.text)).length=(Str.join "\n" ((l0::pZ).map Ln.text)).cps.toList.length:=by simp [Str.length]
    rw [e,ake,jK];exact agg (Ln.pos (hok l0 G9))
   generalize hLS:l0::pZ=ls at *;have U3:Txt.split (Str.join "\n" (ls.map Ln.text)) "\n"=ls.map Ln.text:=by
    rw [ake];refine sF (by decide) (by rw [<- hLS];simp) fun z hz hm=>?_
    obtain ⟨l,hl,rfl⟩:=G6.mp hz;exact uaj (hok l hl) hm
   rw [show (((Str.join "\n" (ls.map Ln.text)).length:Int) != 0)=true by simp;lia];refine iteT ⟨_, "\n",rfl,rfl,by decide,N1 (by lia),by rw [U3,A4];exact N1 (by lia),fun p np=>?_⟩;rw [U3];have npH0:H0 p=none:=bk.same.free np;have bp:∀ {c:Addr} {u:HO},Hd c=some u->c≠p:=fun h z=>by rw [z,np] at h;cases h
   have bs:BookAt C_Book (A0 H0 p (.lst ((ls.map Ln.text).map V.str))) (A0 Hd p (.lst ((ls.map Ln.text).map V.str))) b dx o e Bk.nil (fun _=>0) (fun _=>[]) 0:=by
    refine ⟨C4 bk.obj np,C4 bk.own np,C4 bk.eld np,DR.nil _ _ _ _ _,?_,?_,?_,hoe,fun c u h=>?_⟩
    .rw [A3 (bp bk.obj)];exact nb
    .rw [A3 (bp bk.own)];exact noH
    .rw [A3 (bp bk.eld)];exact neH
    .by_cases z:c=p
     .rw [z,A1] at h ⊢;exact h
     .rw [A3 z] at h ⊢;exact bk.same c u h
   refine ⟨p,rfl,⟨_,.of A1⟩,forL (xs:=(ls.map Ln.text).map V.str) (fun i Y H2=>∃ (u:Option V) (ad:Str->Addr) (as:Str->List Addr),Y=[some (.ref b),some (.str (Str.join "\n" (ls.map Ln.text))),u]/\BookAt C_Book (A0 H0 p (.lst ((ls.map Ln.text).map V.str))) H2 b dx o e (Bk.of (ls.take i)) ad as (i:Nat)) ⟨none,_,_,rfl,bs⟩ (by rintro i Y H2 _ ⟨_,_,_,_,x⟩;exact .of (x.same _ _ A1)) ?_ ?_⟩
   .rintro i x Y H2 hx ⟨u,ad,as,rfl,bi⟩;obtain ⟨z,hz,rfl⟩:=J1 hx;obtain ⟨l,xH,rfl⟩:=J1 hz;have hi:i<ls.length:=(J4.mp xH).1;walk_at "rd";refine ⟨dx,_,bi.obj,rfl,b,dx,o,e,l,_,Bk.of (ls.take i),ad,as,(i:Nat),rfl,bi,hf i l xH,(hf.good i (by lia)).mono (by lia),fun ad' as' H3 b3=>?_⟩;rw [L9 xH,aF];exact ⟨ad',as',b3⟩
   .rintro Y H2 ⟨u,ad,as,rfl,bi⟩;rw [A4,A4,K0] at bi;exact q o e ad as H2 (bi.base (Same.new npH0))
theorem sc_Book_elders_from:FnScope ["self", "name", "met", "at"] ["self", "name"] (C3 g6):=G1
abbrev oM:List Str:=["self", "name", "met", "at"]
theorem vcv:VS oM g6 "self" 0:=vq
theorem vcw:VS oM g6 "name" 1:=vq
theorem kF:VS oM g6 "met" 2:=vq
theorem dO:VS oM g6 "at" 3:=vq
theorem vcz:LS g6 "met":=lq
theorem vcA:LS g6 "at":=lq
theorem ac3(F:FunD K "elders_from" "Book.elders_from" g6 f fd)(T:Txt P w K mg C C_Book C_NoName C_Ring)(G_NoName___init__:EO P w K mg base 1 C_NoName "NoName" ["self", "name"] (tV K C_NoName "name"))(G_Ring___init__:EO P w K mg base 1 C_Ring "Ring" ["self", "around"] (tT K C_Ring "around")):FnOk P w K mg base (Y4 P w) 3 f fd ["self", "name"] (tX C_Book C_NoName C_Ring):=by
 refine F.okX sc_Book_elders_from ?_ ?_
 .rintro _ _ _ _ ⟨b,dx,o,e,H0,B,ad,as,k,n,c,nx,rfl,_⟩;rfl
 .intro cdv A outer s H vs Q E hr h;have C6:=hu_of hr;have hu:=hr.units;refine ⟨_,QSs.out (A5 (C9 (n:=2) sc_Book_elders_from.nd rfl vcz (V7 A2))
   (A5 (C9 (n:=3) sc_Book_elders_from.nd rfl vcA (vi vcw))
   (A5 (rV PassesOwn.leaving (E4 amg (vi dO) dB) (A5 (qs_if (E4 (mU (K:=K) hu) (vi dO) (f9 (K:=K) (vi vcv))) (A7 (ahu (fun _ _ _ _ _ _ _ I h1 h2=>amq I h1 h2) (amr G_NoName___init__ (hm hr) (qa_c (vi dO) A2)) (K:=K))) G7)
   (A5 (qs_if (E4 (q_in (K:=K) hu) (vi dO) (vi kF)) (A7 (ahu (fun _ _ _ _ _ _ _ I h1 h2=>amq I h1 h2) (amr G_Ring___init__ (hm hr) (qa_c (R7 (K:=K) (vi kF) (Q0 (qe_mB (K:=K) T8 PySem.F.slot_list_index PySem.F.type_list_index alz (vi kF) (qa_c (vi dO) A2))) V8) A2)) (K:=K))) G7)
   (A5 (Q1 (qe_mB (K:=K) T8 e8 d0 g1 (vi kF) (qa_c (vi dO) A2)))
   (A7 (C9 (n:=3) sc_Book_elders_from.nd rfl vcA (nB C6 (f9 (K:=K) (vi vcv)) (vi dO))))))))
   (A7 (D6 (vi kF)))))),?_⟩
  obtain ⟨b,dx,o,e,H0,B,ad,as,k,n,c,nx,rfl,bk,gd,Q5,cJ,k9,Z4,W,WX,q⟩:=h;obtain ⟨fN,MN⟩:=T.er_NoName;obtain ⟨fR,MR⟩:=T.er_Ring;walk_at "rd";intro p np;have iE:c.length<=100:=by
   have h1:=jN W.nd W.mem
   have:=gd.cnt
   lia
  refine rZ (fun m Y H2=>∃ i:Nat,Y=[some (.ref b),some (.str n),some (.ref p),some (orNon (c++nx.toList)[i]?)]/\H2=A0 H p (.lst ((c.take i).map V.str))/\i<=c.length/\m=c.length-i) c.length
   ⟨0,by rw [<- List.head?_eq_getElem?,W.st];rfl,rfl,K8 _,rfl⟩ ?_
  rintro m Y H2 ⟨i,rfl,rfl,hi,rfl⟩;have S2:Same H (A0 H p (.lst ((c.take i).map V.str))):=Same.new np;have b2:=bk.keep S2;walk_at "rd"
  by_cases C1:i<c.length
  .have lN:c[i]?=some c[i]:=by simp
   generalize c[i]=t at lN;obtain ⟨ht,Z4⟩:=W.lk i t lN;rw [Z9 C1,lN];refine iteT ⟨fun σ' H'=>∃ j:Nat,σ'=[some (.ref b),some (.str n),some (.ref p),some (orNon (c++nx.toList)[j]?)]/\H'=A0 H p (.lst ((c.take j).map V.str))/\j<=c.length/\c.length-j<c.length-i,?_,?_⟩
   .rintro σ' H' ⟨j,rfl,rfl,h1,h2⟩;exact ⟨_,h2,j,rfl,rfl,h1,rfl⟩
   refine ⟨C_Book,dx,_,b2.obj,T.cl_Book,T.na_own,V.ref o,gK _ _ _ _,?_⟩;rw [ah2];walk_at "rd";refine rInR.d (p8 (k:=Sum.inr t) b2.own) ⟨_,rfl,?_⟩;rw [M7,if_pos ht,Option.isSome_some,Bool.true_xor,Bool.not_true];refine iteF (rInR.l (.inl (.of A1)) rfl (rQ _) ⟨_,rfl,?_⟩);rw [mS,decide_eq_false (gE W.nd lN),fJ];refine iteF ⟨R6 A1,appOk A1 (by rw [A4,K3];exact J5 (by lia)) ?_⟩;rw [qI];have S3:Same H (A0 H p (.lst ((c.take i).map V.str++[V.str t]))):=Same.new np;have b3:=bk.keep S3;refine ⟨C_Book,dx,_,b3.obj,T.cl_Book,T.na_elders,V.ref e,amu _ _ _ _,e,rfl,.inl ⟨_,.inl b3.eld⟩,_,p8 (k:=Sum.inr t) b3.eld,i+1,?_,?_,by lia,by lia⟩
   .rw [<- Z4,M7];cases h:B.el t with
    | none=>
     rw [if_neg (fun hm=>by have:=(N8.mp hm).2;rw [h] at this;cases this)];rfl
    | some y=>
     rw [if_pos (N8.mpr ⟨ht,by rw [h];rfl⟩)];rfl
   .rw [L9 lN,E5];rfl
  .have ei:i=c.length:=by lia
   rw [ei,X2 (C2 _),Nat.sub_self,K0];have S2:Same H (A0 H p (.lst (c.map V.str))):=Same.new np;have b2:=bk.keep S2
   cases nx with
   | none=>
    refine iteF ?_
    try walk_at "rd"
    exact q rfl p _ np (Same.new np) A1
   | some x=>
    have hW:V0 x:=W.last ⟨cJ,k9⟩ Z4;refine iteT ⟨fun _ _=>False,fun _ _ z=>z.elim,?_⟩;rw [show orNon (some x).toList[0]?=V.str x from rfl];refine ⟨C_Book,dx,_,b2.obj,T.cl_Book,T.na_own,V.ref o,gK _ _ _ _,?_⟩
    try walk_at "rd"
    refine rInR.d (p8 (k:=Sum.inr x) b2.own) ⟨_,rfl,?_⟩;rw [M7]
    by_cases hx:x∈B.names
    .have eP:x∈c:=(W.en x rfl).resolve_left (fun h=>h hx);rw [if_pos hx,Option.isSome_some,Bool.true_xor,Bool.not_true];refine iteF (rInR.l (.inl (.of A1)) rfl (rQ _) ⟨_,rfl,?_⟩);rw [mS,decide_eq_true eP,fJ];refine iteT ⟨R6 A1,p,c,x,rfl,rfl,A1,eP,_,rfl,rSlR.l (.of A1) fun l nl=>?_⟩;rw [z0,<- w6];refine ⟨by decide,fun y ny=>?_⟩;refine ⟨s.heap.objs.size,y,l,fR,c.drop (c.idxOf x),rfl,A1,MR,T.na_Ring,C4 A1 ny,by rw [o7];lia,fun z hz=>gM (Q5 z (W.mem z (mC hz))),fun p2 X0 m7 nd ne=>?_⟩;obtain ⟨r1,r2,r3,r4⟩:=aoq (fld:=Str.ofString "around") ny m7 nd ne;exact ⟨rfl,C_Ring,X0,r1,⟨fR,MR⟩,WX.2 x rfl eP X0 p2 _ (fun b o h=>r2 _ _ (C4 (S2 _ _ h) nl)) r3 r4⟩
    .rw [if_neg hx];refine iteT ⟨by decide,fun y ny=>⟨s.heap.objs.size,y,x,fN,rfl,A1,MN,T.na_NoName,F6 hW.1 (by decide),hW.2,fun X0 nd ne=>⟨rfl,C_NoName,X0,(tU ny nd ne).1,⟨fN,MN⟩,WX.1 x rfl hx X0 _ (S2.trans (tU ny nd ne).2.1) (tU ny nd ne).2.2⟩⟩⟩
theorem sc_Book_rules_of:FnScope ["self", "name", "rules", "elder"] ["self", "name"] (C3 g7):=G1
abbrev oN:List Str:=["self", "name", "rules", "elder"]
theorem vcB:VS oN g7 "self" 0:=vq
theorem vcC:VS oN g7 "name" 1:=vq
theorem vcD:VS oN g7 "rules" 2:=vq
theorem vcE:VS oN g7 "elder" 3:=vq
theorem vcF:LS g7 "rules":=lq
theorem vcG:LS g7 "elder":=lq
theorem adO(F:FunD K "rules_of" "Book.rules_of" g7 f fd)(T:Txt P w K mg C C_Book C_NoName C_Ring)(G_changed:FO P w K mg base 2 "changed" ["rules", "more"] [] aga)(G_Book_elders_from:z9 P w K mg base 3 C_Book "elders_from" ["self", "name"] (tX C_Book C_NoName C_Ring)):FnOk P w K mg base (Y4 P w) 4 f fd ["self", "name"] (nR C_Book C_NoName C_Ring):=by
 refine F.okX sc_Book_rules_of ?_ ?_
 .rintro _ _ _ _ ⟨b,dx,o,e,H0,B,ad,as,k,n,c,nx,rfl,_⟩;rfl
 .intro cdv A outer s H vs Q E hr h;have C6:=hu_of hr;have hu:=hr.units;refine ⟨_,QSs.out (A5 (C9 (n:=2) sc_Book_rules_of.nd rfl vcF (V7 A2))
   (A5 (N5 PassesOwn.leaving (aqL T.b_reversed (qa_c (ahw (vi vcB) G_Book_elders_from (hm hr) ajY (qa_c (vi vcC) A2)) A2)) (E6 (n:=3) sc_Book_rules_of.nd rfl vcG (.inl rfl)) (A7 (C9 (n:=2) sc_Book_rules_of.nd rfl vcF (F9 G_changed (hm hr) (qa_c (vi vcD) (qa_c (Y0 C6 (f9 (K:=K) (vi vcB)) (vi vcE)) A2))))))
   (A7 (D6 (vi vcD))))),?_⟩
  obtain ⟨b,dx,o,e,H0,B,ad,as,k,n,c,nx,rfl,bk,gd,Q5,cJ,k9,Z4,W,WX,hs,q⟩:=h;walk_at "rd";intro p np;have S1:Same H (A0 H p (.lst [])):=Same.new np;have b1:=bk.keep S1;have i3:A0 H p (.lst []) p=some (.lst []):=A1;generalize A0 H p (.lst [])=H1 at S1 b1 i3 ⊢
  refine ⟨dx,_,b1.obj,rfl,b,dx,o,e,H0,B,ad,as,k,n,c,nx,rfl,b1,gd,Q5,cJ,k9,Z4,W,WX.same S1,fun aX l H2 nl S2 hl=>⟨l,rfl,_,hl,?_⟩⟩;subst aX;have hc:=W.chain.1;have gd:B.Good 1000:=gd.mono (by decide);have q:=q rfl;have b2:=b1.keep S2;have Q4:∀ t∈c,t∈B.names:=fun t ht=>by
   obtain ⟨i,hi⟩:=n9.mp ht;exact (hc.nx i t hi).1
  refine forV (xs:=c.map V.str) (fun i Y H3=>∃ (u:Option V) (r:Addr) (qs:List Addr),Y=[some (.ref b),some (.str n),some (.ref r),u]/\Same H2 H3/\H r=none/\IsRules H3 r qs ((c.reverse.take i).foldl (fun R t=>W2 R (B.rl t)) [])) ⟨none,p,[],rfl,U9 _,np,⟨S2 _ _ i3,.nil⟩⟩ (by rintro i Y H3 ⟨_,_,_,_,S,_⟩;exact S _ _ hl) ?_ ?_
  .rintro i x Y H3 hx ⟨u,r,qs,rfl,S3,nr,hR⟩;rw [<- List.map_reverse] at hx;obtain ⟨t,xI,rfl⟩:=J1 hx;have ht:t∈B.names:=Q4 t (List.mem_reverse.mp (G2 xI));obtain ⟨f1,f2⟩:=ahA (B:=B) (c.reverse.take i) [] (fun t ht=>gd.fine t (Q4 t (List.mem_reverse.mp (mB ht)))) (by simp);have f3:=ahB (fun t=>(B.rl t).length) c.reverse i;rw [aon] at f3;have b3:=b2.keep S3;have C1:(B.rl t).length<=400:=by
    have:(B.rl t).length<=(c.map fun t=>(B.rl t).length).sum:=amw (G6.mpr ⟨t,List.mem_reverse.mp (G2 xI),rfl⟩)
    lia
   walk_at "rd";refine ⟨C_Book,dx,_,b3.obj,T.cl_Book,T.na_own,V.ref o,gK _ _ _ _,o,rfl,V.ref (ad t),.inl ⟨_,Sum.inr t,.inl b3.own,rfl,by rw [M7,if_pos ht]⟩,r,ad t,qs,as t,_,B.rl t,rfl,hR,b3.dr.row t ht,f1,gd.fine t ht,by rw [T7] at f2;lia,by lia,fun l' qs' H4 nl' S4 hR'=>?_⟩;exact ⟨_,l',rfl,rfl,S3.trans S4,((S1.trans S2).trans S3).free nl',qs',by rw [L9 xI,o5];exact hR'⟩
  .rintro Y H3 ⟨u,r,qs,rfl,S3,nr,hR⟩;rw [A4,<- List.length_reverse,K0] at hR;walk_at "rd";exact q r qs H3 nr ((S1.trans S2).trans S3) hR
theorem adP:FnScope ["self", "name"] ["self", "name"] (C3 cC):=G1
abbrev acJ:List Str:=["self", "name"]
theorem vcH:VS acJ cC "self" 0:=vq
theorem vcI:VS acJ cC "name" 1:=vq
theorem adQ(F:FunD K "order_of" "Book.order_of" cC f fd)(T:Txt P w K mg C C_Book C_NoName C_Ring)(G_Order___init__:KO P w K mg base 5 C "Order" ["self", "rules"] (tI C))(G_Book_rules_of:z9 P w K mg base 4 C_Book "rules_of" ["self", "name"] (nR C_Book C_NoName C_Ring)):FnOk P w K mg base (Y4 P w) 7 f fd ["self", "name"] (uD C C_Book C_NoName C_Ring):=by
 refine F.okX adP ?_ ?_
 .rintro _ _ _ _ ⟨b,dx,o,e,H0,B,ad,as,k,n,c,nx,rfl,_⟩;rfl
 .intro cdv A outer s H vs Q E hr h;have C6:=hu_of hr;have hu:=hr.units;refine ⟨_,QSs.out (A7 (D6 (sO G_Order___init__ (hm hr) (qa_c (ahw (vi vcH) G_Book_rules_of (hm hr) ajY (qa_c (vi vcI) A2)) A2)))),?_⟩;obtain ⟨b,dx,o,e,H0,B,ad,as,k,n,c,nx,rfl,bk,gd,Q5,cJ,k9,Z4,W,WX,hs,hg,q⟩:=h;walk_at "rd";refine ⟨dx,_,bk.obj,rfl,b,dx,o,e,H0,B,ad,as,k,n,c,nx,rfl,bk,gd,Q5,cJ,k9,Z4,W,WX,hs,fun aX l qs H2 nl S2 hR=>?_⟩;obtain ⟨g,r1,r2,gr⟩:=hg aX;intro x X0 nx' ndx ndxx;have S1:Same H2 (A0 (A0 H2 X0 (.own x)) x (.ins C X0 [])):=(Same.new ndx).trans (Same.new (by rw [A3 ndxx.symm];exact nx'));have cL:A0 (A0 H2 X0 (.own x)) x (.ins C X0 []) x=some (.ins C X0 []):=A1;generalize A0 (A0 H2 X0 (.own x)) x (.ins C X0 [])=H1 at S1 cL;exact ⟨x,X0,l,qs,_,g,r1,r2,rfl,cL,hR.same S1,gr,fun j ll ml md L M H3 _ _ _ _ B3 hO=>⟨rfl,q aX x H3 fun b o hb=>B3 b o (fun e=>by rw [e] at hb;have:=S2 _ _ hb;rw [nx'] at this;cases this) (S1 b o (S2 b o hb))⟩⟩
theorem agr:FnScope ["_law_script", "_law_k"] ["_law_script", "_law_k"] (C3 jX):=G1
abbrev aev:List Str:=["_law_script", "_law_k"]
theorem vcJ:VS aev jX "_law_script" 0:=vq
theorem vcK:VS aev jX "_law_k" 1:=vq
theorem ags(F:FunD K "_law_cell_at" "_law_cell_at" jX f fd)(T:Txt P w K mg C C_Book C_NoName C_Ring):FnOk P w K mg base D9 1 f fd ["_law_script", "_law_k"] (sT K):=by
 refine F.ok agr ?_ ?_
 .rintro _ _ _ _ ⟨a,ns,k,rfl,_⟩;rfl
 .intro cdv A outer s H vs Q E hr h;have C6:=hu_of hr;have hu:=hr.units;refine ⟨_,QSs.out (A5 (qs_if (E4 q_lt (vi vcK) (qe_cB (q_len (K:=K)) T.b_len X9 (qa_c (vi vcJ) A2))) (A7 (D6 (qe_ix (K:=K) (vi vcJ) (vi vcK)))) G7)
   (A7 (D6 A6))),?_⟩
  obtain ⟨a,ns,k,rfl,hS,hk,q⟩:=h;walk_at "rd";unfold cellF at q;refine ⟨ns.length,.inl ⟨_,hS,by rw [A4]⟩,iteD (fun C1=>?_) fun pM=>?_⟩
  .rw [if_pos C1] at q;have hi:k.toNat<ns.length:=by lia
   refine ⟨_,.inl hS,V.int (ns.getD k.toNat 0),?_,q⟩;have e:((k.toNat:Nat):Int)=k:=by lia
   have h1:L7 (ns.map V.int) ((k.toNat:Nat):Int)=some (V.int (ns.getD k.toNat 0)):=N9 (by rw [M0,X3,G8 hi];rfl);rw [e] at h1;exact h1
  .rw [if_neg pM] at q;exact q
theorem sc_l_names:FnScope ["_law_number", "_law_many", "_law_letters", "_law_shape", "_law_names_here", "_law_k", "_law_code", "_law_ahead", "_law_behind", "_law_tell"] ["_law_number", "_law_many"] (C3 O1):=G1
abbrev u5:List Str:=["_law_number", "_law_many", "_law_letters", "_law_shape", "_law_names_here", "_law_k", "_law_code", "_law_ahead", "_law_behind", "_law_tell"]
theorem aJ:VS u5 O1 "_law_number" 0:=vq
theorem vB:VS u5 O1 "_law_many" 1:=vq
theorem gR:VS u5 O1 "_law_letters" 2:=vq
theorem vcO:VS u5 O1 "_law_shape" 3:=vq
theorem oO:VS u5 O1 "_law_names_here" 4:=vq
theorem vC:VS u5 O1 "_law_k" 5:=vq
theorem vcR:VS u5 O1 "_law_code" 6:=vq
theorem vcS:VS u5 O1 "_law_ahead" 7:=vq
theorem vcT:VS u5 O1 "_law_behind" 8:=vq
theorem vcU:VS u5 O1 "_law_tell" 9:=vq
theorem vcV:LS O1 "_law_number":=lq
theorem vcW:LS O1 "_law_letters":=lq
theorem vcX:LS O1 "_law_shape":=lq
theorem vcY:LS O1 "_law_names_here":=lq
theorem vcZ:LS O1 "_law_k":=lq
theorem vc0:LS O1 "_law_code":=lq
theorem vc1:LS O1 "_law_ahead":=lq
theorem vc2:LS O1 "_law_behind":=lq
theorem vc3:LS O1 "_law_tell":=lq
theorem aiu(F:FunD K "_law_names" "_law_names" O1 f fd)(T:Txt P w K mg C C_Book C_NoName C_Ring):FnOk P w K mg base D9 1 f fd ["_law_number", "_law_many"] spNms:=by
 refine F.ok sc_l_names ?_ ?_
 .rintro _ _ _ _ ⟨n,m,rfl,_⟩;rfl
 .intro cdv A outer s H vs Q E hr h;have C6:=hu_of hr;have hu:=hr.units;refine ⟨_,QSs.out (A5 (C9 (n:=2) sc_l_names.nd rfl vcW D4)
   (A5 (C9 (n:=3) sc_l_names.nd rfl vcX (qe_op q_mod (vi aJ) A6))
   (A5 (C9 (n:=0) sc_l_names.nd rfl vcV (qe_op Y1 (vi aJ) A6))
   (A5 (C9 (n:=4) sc_l_names.nd rfl vcY (V7 A2))
   (A5 (N5 PassesOwn.never (qi_r1 T.b_range (qa_c (vi vB) A2)) (E6 (n:=5) sc_l_names.nd rfl vcZ (.inl rfl)) (A5 (C9 (n:=6) sc_l_names.nd rfl vc0 (qe_op q_mod (qe_op (q_add (K:=K)) (vi aJ) (qe_op q_mul A6 (vi vC))) A6))
   (A7 (qs_if (QW.pt (rT (E4 (q_eq (K:=K) hu) (vi vcO) A6) (rS (E4 q_le (vi vB) A6)))) (A7 (Q1 (qe_mB (K:=K) T8 e8 d0 g1 (vi oO) (qa_c (qe_op sV (qe_ix (K:=K) (vi gR) (qe_op q_mod (vi aJ) A6)) (qe_op (q_add (K:=K)) (vi vC) A6)) A2)))) (A7 (qs_if (QW.pt (rT (E4 (q_eq (K:=K) hu) (vi vcO) A6) (rS (E4 q_le (vi vB) A6)))) (A7 (Q1 (qe_mB (K:=K) T8 e8 d0 g1 (vi oO) (qa_c (qe_ix (K:=K) (vi gR) (qe_op q_mod (qe_op (q_add (K:=K)) (vi aJ) (qe_op q_mul A6 (vi vC))) A6)) A2)))) (A5 (C9 (n:=7) sc_l_names.nd rfl vc1 (qe_op sV (qe_ix (K:=K) (vi gR) (qe_op q_mod (qe_op Y1 (vi aJ) A6) A6)) (qe_op q_mod (qe_op Y1 (vi aJ) A6) A6)))
   (A5 (C9 (n:=8) sc_l_names.nd rfl vc2 (qe_op sV (qe_ix (K:=K) (vi gR) (qe_op q_mod (qe_op Y1 (vi aJ) A6) A6)) (qe_op q_mod (qe_op Y1 (vi aJ) A6) A6)))
   (A5 (C9 (n:=9) sc_l_names.nd rfl vc3 (qe_op (q_add (K:=K)) (qe_ix (K:=K) (vi gR) (qe_op Y1 (vi vcR) A6)) (qe_ix (K:=K) (vi gR) (qe_op q_mod (vi vcR) A6))))
   (A7 (Q1 (qe_mB (K:=K) T8 e8 d0 g1 (vi oO) (qa_c (qe_op (q_add (K:=K)) (qe_op (q_add (K:=K)) (vi vcS) (vi vcU)) (vi vcT)) A2)))))))))))))
   (A7 (D6 (vi oO)))))))),?_⟩
  obtain ⟨n,m,rfl,kQ,iH,Z5,q⟩:=h;walk_at "rd";intro p np;refine ⟨by lia,by lia,?_⟩;generalize hN:n / 4=N;have hN0:0<=N:=by lia
  obtain ⟨m1,m2,m3⟩:=amx (c:=97+(N / 676 % 26).toNat) (n:=N / 17576 % 4) (U6 _ (by decide)) (Int.le_of_lt_add_one (p5 _ (by decide)));obtain ⟨k1,k2,k3⟩:=amx (c:=97+(N / 70304 % 26).toNat) (n:=N / 1827904 % 4) (U6 _ (by decide)) (Int.le_of_lt_add_one (p5 _ (by decide)));generalize hA:Txt.mul ⟨#[97+(N / 676 % 26).toNat]⟩ (N / 17576 % 4)=A at m1 m2 m3;generalize hZ:Txt.mul ⟨#[97+(N / 70304 % 26).toNat]⟩ (N / 1827904 % 4)=Z at k1 k2 k3;refine forR (fun i Y H2=>∃ (u v w x y:Option V),Y=[some (.int N),some (.int m),some (.str LT),some (.int (n % 4)),some (.ref p),u,v,w,x,y]/\Same H H2/\H2 p=some (.lst (((M3 i).map (nm86 A Z N (n % 4) m)).map V.str)))
   ⟨none,none,none,none,none,rfl,Same.new np,A1⟩ ?_ ?_
  .rintro i Y H2 hi ⟨u,v,w,x,y,rfl,S,hl⟩;have m8:(((M3 i).map (nm86 A Z N (n % 4) m)).map V.str).length<sizeLine:=by rw [A4,A4,fD];exact J5 (by lia)
   have l2:∀ x y:Nat,(⟨#[x]⟩:Str).length+(⟨#[y]⟩:Str).length<=sizeLine:=fun _ _=>by show 1+1<=sizeLine;decide
   have l22:∀ x y:Nat,((⟨#[x]⟩:Str)++(⟨#[y]⟩:Str)).length=2:=fun _ _=>rfl
   have fin:∀ z,nm86 A Z N (n % 4) m i=z->cY (V.ref p) [V.str z] H2 fun x H1=>Same H H1/\H1 p=some (HO.lst (b9 V.str (b9 (nm86 A Z N (n % 4) m) (M3 (i+1))))):=fun z hz=>
    appOk hl m8 ⟨S.put np,by rw [A1,List.range_succ,E5,E5];simp [hz]⟩
   walk_at "rd";rw [Int.zero_add];have r0:0<=(N+7*(i:Int)) % 676:=U6 _ (by decide);have r1:(N+7*(i:Int)) % 676<676:=p5 _ (by decide);have a1:=LT_at (i:=(N+7*(i:Int)) % 676 / 26) (by lia) (by lia);have a2:=LT_at (i:=(N+7*(i:Int)) % 676 % 26) (by lia) (by lia);have a3:=LT_at (i:=N / 676 % 26) (U6 _ (by decide)) (p5 _ (by decide));have a4:=LT_at (i:=N / 70304 % 26) (U6 _ (by decide)) (p5 _ (by decide));have a5:=LT_at (i:=N % 26) (U6 _ (by decide)) (p5 _ (by decide));have a6:=LT_at (i:=(N+5*(i:Int)) % 26) (U6 _ (by decide)) (p5 _ (by decide));refine ⟨.inl ⟨by decide,by decide⟩,aq7 (fun h1 h2=>?_) (fun h1 h2 h3=>?_) fun h1 h2=>?_⟩
   .have e1:((i:Int)+1)=((i+1:Nat):Int):=by lia
    refine ⟨R6 hl,gL,_,a5,_,_,rfl,rfl,by rw [e1];exact (nS (by lia)).1,fin _ ?_⟩;unfold nm86;rw [if_pos ⟨h1,h2⟩]
   .refine ⟨R6 hl,.inl ⟨by decide,by decide⟩,gL,_,a6,fin _ ?_⟩;unfold nm86;rw [if_neg h1,if_pos ⟨h2,h3⟩]
   .refine ⟨gL,_,a3,_,_,rfl,rfl,m1,gL,_,a4,_,_,rfl,rfl,k1,gL,_,a1,gL,_,a2,l2 _ _,R6 hl,?_⟩;rw [hA,hZ];walk_at "rd";refine ⟨N1 (by rw [l22];lia),N1 (by rw [Str.length_append,l22];lia),fin _ ?_⟩;unfold nm86;rw [if_neg h1,if_neg h2];rfl
  .rintro Y H2 ⟨u,v,w,x,y,rfl,S,hl⟩;walk_at "rd";exact q p _ H2 np S hl (by simp) (aic Z5) fun z hz=>by
    obtain ⟨k,hk,rfl⟩:=G6.mp hz;rw [b8] at hk;exact akk m2 k2 (fun x hx=>by have:=m3 x hx;lia) (fun x hx=>by have:=k3 x hx;lia) (by lia)
theorem sc_l_elders:FnScope ["_law_script", "_law_many", "_law_elders_here", "_law_k", "_law_number", "_law_elder"] ["_law_script", "_law_many"] (C3 Y6):=G1
abbrev gS:List Str:=["_law_script", "_law_many", "_law_elders_here", "_law_k", "_law_number", "_law_elder"]
theorem vc4:VS gS Y6 "_law_script" 0:=vq
theorem vc5:VS gS Y6 "_law_many" 1:=vq
theorem vc6:VS gS Y6 "_law_elders_here" 2:=vq
theorem vc7:VS gS Y6 "_law_k" 3:=vq
theorem vc8:VS gS Y6 "_law_number" 4:=vq
theorem vc9:VS gS Y6 "_law_elder" 5:=vq
theorem vda:LS Y6 "_law_elders_here":=lq
theorem vdb:LS Y6 "_law_k":=lq
theorem vdc:LS Y6 "_law_number":=lq
theorem vdd:LS Y6 "_law_elder":=lq
theorem ag5(F:FunD K "_law_elders" "_law_elders" Y6 f fd)(T:Txt P w K mg C C_Book C_NoName C_Ring)(G_l_cell_at:FO P w K mg base 1 "_law_cell_at" ["_law_script", "_law_k"] [] (sT K)):FnOk P w K mg base D9 2 f fd ["_law_script", "_law_many"] (amy K):=by
 refine F.ok sc_l_elders ?_ ?_
 .rintro _ _ _ _ ⟨a,ns,m,rfl,_⟩;rfl
 .intro cdv A outer s H vs Q E hr h;have C6:=hu_of hr;have hu:=hr.units;refine ⟨_,QSs.out (A5 (C9 (n:=2) sc_l_elders.nd rfl vda (V7 A2))
   (A5 (N5 PassesOwn.never (qi_r1 T.b_range (qa_c (vi vc5) A2)) (E6 (n:=3) sc_l_elders.nd rfl vdb (.inl rfl)) (A5 (C9 (n:=4) sc_l_elders.nd rfl vdc (qe_op q_mod (qe_op q_mul (F9 G_l_cell_at (hm hr) (qa_c (vi vc4) (qa_c (qe_op (q_add (K:=K)) A6 (vi vc7)) A2))) A6) A6))
   (A5 (C9 (n:=5) sc_l_elders.nd rfl vdd (qe_op q_mod (vi vc8) (qe_op (q_add (K:=K)) (vi vc5) A6)))
   (A5 (qs_if (E4 (q_eq (K:=K) hu) (qe_op q_mod (qe_op Y1 (vi vc8) A6) A6) A6) (A7 (C9 (n:=5) sc_l_elders.nd rfl vdd (qe_un q_neg A6))) G7)
   (A7 (Q1 (qe_mB (K:=K) T8 e8 d0 g1 (vi vc6) (qa_c (vi vc9) A2))))))))
   (A7 (D6 (vi vc6))))),?_⟩
  obtain ⟨a,ns,m,rfl,hS,iH,Z5,q⟩:=h;walk_at "rd";intro p np;refine ⟨by lia,by lia,?_⟩;rw [show ((m:Int)).toNat=m from iS m];refine forRs (fun i Y H2=>∃ (u v w:Option V) (el:List Int),Y=[some (.ref a),some (.int m),some (.ref p),u,v,w]/\Same H H2/\H2 p=some (.lst (el.map V.int))/\el.length=i/\∀ e∈el,e=-1\/(0<=e/\e<=(m:Int))) ⟨none,none,none,[],rfl,Same.new np,A1,rfl,by simp⟩ ?_ ?_
  .rintro P' Bk hP i Y H2 hi ⟨u,v,w,el,rfl,S2,h2,hl,he⟩;walk_at "rd";refine ⟨a,ns,_,rfl,S2.seq hS,by lia,?_⟩;walk_at "rd";have ap:∀ (e:Int) (Z:VK),(e=-1\/(0<=e/\e<=(m:Int)))->(∀ H3,Same H H3->H3 p=some (.lst ((el++[e]).map V.int))->Z .non H3)->j2 K "list" (V.ref p) H2/\cY (V.ref p) [V.int e] H2 Z:=fun e Z hh hz=>⟨R6 h2,appOk h2 (by rw [A4];exact J5 (by lia)) (hz _ (S2.put np) (by rw [A1,E5];rfl))⟩
   have mem:∀ {e:Int},(e=-1\/(0<=e/\e<=(m:Int)))->∀ x∈el++[e],x=-1\/(0<=x/\x<=(m:Int)):=fun hh x hx=>(J8.mp hx).elim (he x) fun q=>by rw [K7.mp q];exact hh
   generalize cellF ns (2+(0+(i:Int)))=cv;have c2:0<=cv*48271 % 2147483647 % ((m:Int)+1)/\cv*48271 % 2147483647 % ((m:Int)+1)<=(m:Int):=by
    have h1:=U6 (cv*48271 % 2147483647) (show ((m:Int)+1)≠0 by lia);have h2:=p5 (cv*48271 % 2147483647) (show 0<(m:Int)+1 by lia);lia
   refine ⟨.inr ⟨by decide,by decide⟩,by lia,iteD (fun _=>ap _ _ (.inl rfl) fun H3 S3 h3=>hP _ _ _ ⟨_,_,_,el++[-1],rfl,S3,h3,by rw [E3,hl];rfl,mem (.inl rfl)⟩) fun _=>ap _ _ (.inr c2) fun H3 S3 h3=>hP _ _ _ ⟨_,_,_,_,rfl,S3,h3,by rw [E3,hl];rfl,mem (.inr c2)⟩⟩
  rintro Y H2 ⟨u,v,w,el,rfl,S2,h2,hl,he⟩;walk_at "rd";exact q p el H2 np S2 h2 hl he
theorem sc_l_text:FnScope ["_law_names_here", "_law_elders_here", "_law_lines", "_law_k", "_law_line"] ["_law_names_here", "_law_elders_here"] (C3 j9):=G1
abbrev kG:List Str:=["_law_names_here", "_law_elders_here", "_law_lines", "_law_k", "_law_line"]
theorem vD:VS kG j9 "_law_names_here" 0:=vq
theorem vE:VS kG j9 "_law_elders_here" 1:=vq
theorem vF:VS kG j9 "_law_lines" 2:=vq
theorem oP:VS kG j9 "_law_k" 3:=vq
theorem vdi:VS kG j9 "_law_line" 4:=vq
theorem vdj:LS j9 "_law_lines":=lq
theorem vdk:LS j9 "_law_k":=lq
theorem vdl:LS j9 "_law_line":=lq
theorem akv(F:FunD K "_law_text" "_law_text" j9 f fd)(T:Txt P w K mg C C_Book C_NoName C_Ring):FnOk P w K mg base D9 1 f fd ["_law_names_here", "_law_elders_here"] ahF:=by
 refine F.ok sc_l_text ?_ ?_
 .rintro _ _ _ _ ⟨a,b,nms,el,m,rfl,_⟩;rfl
 .intro cdv A outer s H vs Q E hr h;have C6:=hu_of hr;have hu:=hr.units;refine ⟨_,QSs.out (A5 (C9 (n:=2) sc_l_text.nd rfl vdj (V7 A2))
   (A5 (N5 PassesOwn.never (qi_r1 T.b_range (qa_c (qe_cB (q_len (K:=K)) T.b_len X9 (qa_c (vi vE) A2)) A2)) (E6 (n:=3) sc_l_text.nd rfl vdk (.inl rfl)) (A5 (C9 (n:=4) sc_l_text.nd rfl vdl (qe_op (q_add (K:=K)) D4 (qe_ix (K:=K) (vi vD) (vi oP))))
   (A5 (qs_if (E4 q_ge (qe_ix (K:=K) (vi vE) (vi oP)) A6) (A7 (C9 (n:=4) sc_l_text.nd rfl vdl (qe_op (q_add (K:=K)) (qe_op (q_add (K:=K)) (vi vdi) D4) (qe_ix (K:=K) (vi vD) (qe_ix (K:=K) (vi vE) (vi oP)))))) G7)
   (A5 (Q1 (qe_mB (K:=K) T8 e8 d0 g1 (vi vF) (qa_c (vi vdi) A2)))
   (A7 (Q1 (qe_mB (K:=K) T8 e8 d0 g1 (vi vF) (qa_c (qe_op (q_add (K:=K)) D4 (R7 (K:=K) (qe_ix (K:=K) (vi vD) (vi oP)) V8 (Q0 A6))) A2))))))))
   (A7 (D6 (qe_mB (K:=K) iQ PySem.F.slot_str_join PySem.F.type_str_join (aqB (K:=K)) D4 (qa_c (vi vF) A2)))))),?_⟩
  obtain ⟨a,b,nms,el,m,rfl,ha,hb,I87,q⟩:=h;have iH:=I87.m1;have Z5:=I87.m2;have wA:=I87.l1;have W4:=I87.l2;have v1:=I87.nd;have Q5:=I87.nm;walk_at "rd";refine fun p np=>⟨m,.inl ⟨_,.of (C4 hb np),by rw [A4,W4]⟩,by lia,by lia,?_⟩
  rw [show ((m:Int)).toNat=m from iS m];refine forRs (fun i Y H2=>∃ (u v:Option V) (ls:List Ln),Y=[some (.ref a),some (.ref b),some (.ref p),u,v]/\Same H H2/\H2 p=some (.lst ((ls.map Ln.text).map V.str))/\Fits ls/\BkIs (Bk.of ls) nms el (F87 nms m) i/\ls.length=2*i)
   ⟨none,none,[],rfl,Same.new np,A1,Fits.nil,BkIs.start _ _ _,rfl⟩ ?_ ?_
  .rintro P' Bk' hP i Y H2 hi ⟨u,v,ls,rfl,S2,h2p,hf,bi,v6⟩;obtain ⟨t,ht⟩:∃ t,nms[i]?=some t:=⟨_,G8 (by lia)⟩
   obtain ⟨e,he⟩:∃ e,el[i]?=some e:=⟨_,G8 (by lia)⟩
   have qA:=Q5 t (G2 ht);obtain ⟨pF,hl1',_⟩:=g8 qA;have J3:L7 (nms.map V.str) (0+(i:Int))=some (V.str t):=by
    rw [Int.zero_add];exact N9 (by rw [M0,ht];rfl)
   have hae:L7 (el.map V.int) (0+(i:Int))=some (V.int e):=by
    rw [Int.zero_add];exact N9 (by rw [M0,he];rfl)
   have xJ:=S2 _ _ ha;have pL:=S2 _ _ hb;have A9:((ls.map Ln.text).map V.str).length=ls.length:=by rw [A4,A4]
   have xK:t∉(Bk.of ls).names:=by rw [bi.names];exact gE v1 ht
   have o6:(Str.ofString "order ").length=6:=by decide +kernel
   have o4:(Str.ofString " of ").length=4:=by decide +kernel
   have r4:(Str.ofString "row ").length=4:=by decide +kernel
   have hfp:=agh qA;have l9:(fst87 t).length<=2:=(jC hfp).2.2;have hF:F87 nms m i=[(("row" : Str),[fst87 t])]:=by
    unfold F87;rw [if_neg (by lia),X3,ht];rfl
   have fin:∀ (w:Str) (Z:Prop),w=(Ln.beg t (eldOf nms el i)).text->LnOk (Ln.beg t (eldOf nms el i))->(∀ H4,H4 p=some (.lst (((ls++[Ln.beg t (eldOf nms el i)]++[Ln.rule (("row" : Str),[fst87 t])]).map Ln.text).map V.str))->Same H H4->P' (i+1) [some (.ref a),some (.ref b),some (.ref p),some (.int (0+(i:Int))),some (.str w)] H4):=fun w _ hw hok H4 h4 S4=>by
    have f1:Fits (ls++[Ln.beg t (eldOf nms el i)]):=hf.snoc ⟨xK,hok⟩;have b1:BkIs (Bk.of (ls++[Ln.beg t (eldOf nms el i)])) nms el (fun j=>if j=i then [] else F87 nms m j) (i+1):=by rw [aF];exact bi.beg v1 ht
    have w1:(Bk.of (ls++[Ln.beg t (eldOf nms el i)])).nw=some t:=by rw [aF];rfl
    refine hP _ _ _ ⟨_,_,_,rfl,S4,h4,f1.snoc (l:=.rule _) ⟨by rw [w1];simp,ahE hfp⟩,?_,by rw [E3,E3,v6];simp only [E8,T7];lia⟩;rw [aF];refine (b1.rule v1 ht w1).congr fun j hj=>?_
    by_cases e2:j=i
    .rw [if_pos e2,if_pos rfl,e2,hF];rfl
    .rw [if_neg e2,if_neg e2]
   have tail:∀ (w:Str),w=(Ln.beg t (eldOf nms el i)).text->LnOk (Ln.beg t (eldOf nms el i))->j2 K "list" (V.ref p) H2/\cY (V.ref p) [V.str w] H2 fun _ H1=>j2 K "list" (V.ref p) H1/\∃ xs,(D1 K H1 a xs\/C8 K H1 a xs)/\∃ x,L7 xs (0+(i:Int))=some x/\rSlU K x none (some 1) H1 fun y H3=>rAddU K (V.str (Str.ofString "row ")) y H3 fun z H4=>cY (V.ref p) [z] H4 fun _ H5=>P' (i+1) [some (.ref a),some (.ref b),some (.ref p),some (.int (0+(i:Int))),some (.str w)] H5:=fun w hw hok=>by
    have hap:a≠p:=fun e=>by rw [e,np] at ha;cases ha
    refine ⟨R6 h2p,appOk h2p (by rw [A9];exact J5 (by lia)) ⟨R6 A1,_,.inl (.of (by rw [A3 hap];exact xJ)),V.str t,J3,N1 (by lia),?_⟩⟩;rw [show cutS t none (some 1)=fst87 t from rfl];walk_at "rd";refine ⟨N1 (by lia),?_⟩;rw [ahI,hw];refine appOk A1 (by rw [E3,A9];exact J5 (by simp only [E8,T7];lia)) (fin _ True rfl hok _ ?_ ?_)
    .rw [A1,E5,E5,E5,E5];rfl
    .rw [qI];exact S2.put np
   walk_at "rd";refine ⟨_,.inl (.of xJ),V.str t,J3,?_⟩;walk_at "rd";refine ⟨N1 (by lia),_,.inl (.of pL),V.int e,hae,?_⟩;walk_at "rd";refine iteD (fun h0=>?_) fun h0=>?_
   .have hr:=(I87.rg e (G2 he)).resolve_left (by lia);obtain ⟨y,hy⟩:∃ y,nms[e.toNat]?=some y:=⟨_,G8 (by lia)⟩
    have e1:eldOf nms el i=some y:=by unfold eldOf;rw [he];show (if e<0 then none else nms[e.toNat]?)=_;rw [if_neg (by lia),hy]
    have hny:=Q5 y (G2 hy);obtain ⟨hy0,hy1,_⟩:=g8 hny;have hay:L7 (nms.map V.str) e=some (V.str y):=by
     rw [show e=((e.toNat:Nat):Int) by lia];exact N9 (by rw [M0,hy];rfl)
    refine ⟨N1 (by rw [Str.length_append];lia),_,.inl (.of pL),V.int e,hae,?_⟩;walk_at "rd";refine ⟨_,.inl (.of xJ),V.str y,hay,?_⟩;walk_at "rd";exact ⟨N1 (by rw [Str.length_append,Str.length_append];lia),tail _ (by rw [e1,akf]) ⟨qA,fun x h=>by rw [e1] at h;cases h;exact hny⟩⟩
   .have e1:eldOf nms el i=none:=by unfold eldOf;rw [he];exact if_pos (by lia)
    exact tail _ (by rw [e1,ahC]) ⟨qA,fun x h=>by rw [e1] at h;cases h⟩
  rintro Y H2 ⟨u,v,ls,rfl,S2,h2p,hf,bi,v6⟩;walk_at "rd";have hok:=hf.ok;have lO:∀ ls:List Ln,(∀ l∈ls,LnOk l)->((ls.map Ln.text).map (·.length)).sum<=4000*ls.length:=by
   intro ls
   induction ls with
   | nil=>intro _;simp
   | cons l ls ih=>
    intro h
    have:=ih fun y hy=>h y (G5 _ hy)
    have h3:=Ln.len (h l G9);rw [D0,D0,p0,E8];lia
  have hsm:=lO ls hok;exact ⟨"\n",p,ls.map Ln.text,rfl,rfl,.inl (.of h2p),by decide,by rw [A4];lia,q ls H2 S2 hf v6 bi⟩
theorem sc_l_due:FnScope ["_law_names_here", "_law_elders_here", "_law_at", "_law_met"] ["_law_names_here", "_law_elders_here", "_law_at"] (C3 u4):=G1
abbrev oQ:List Str:=["_law_names_here", "_law_elders_here", "_law_at", "_law_met"]
theorem vdm:VS oQ u4 "_law_names_here" 0:=vq
theorem vdn:VS oQ u4 "_law_elders_here" 1:=vq
theorem dP:VS oQ u4 "_law_at" 2:=vq
theorem kH:VS oQ u4 "_law_met" 3:=vq
theorem vdq:LS u4 "_law_at":=lq
theorem vdr:LS u4 "_law_met":=lq
theorem al2(F:FunD K "_law_due" "_law_due" u4 f fd)(T:Txt P w K mg C C_Book C_NoName C_Ring):FnOk P w K mg base D9 1 f fd ["_law_names_here", "_law_elders_here", "_law_at"] akl:=by
 refine F.ok sc_l_due ?_ ?_
 .rintro _ _ _ _ ⟨a,b,nms,el,m,k,rfl,_⟩;rfl
 .intro cdv A outer s H vs Q E hr h;have C6:=hu_of hr;have hu:=hr.units;refine ⟨_,QSs.out (A5 (C9 (n:=3) sc_l_due.nd rfl vdr (V7 A2))
   (A5 (rV PassesOwn.never (E4 q_ge (vi dP) A6) (A5 (qs_if (E4 (q_in (K:=K) hu) (vi dP) (vi kH)) (A7 (D6 (P9 (qa_c D4 (qa_c (V9  (T0:CompOk ["_law_names_here", "_law_elders_here", "_law_at", "_law_met"] (C3 u4).names _ ["_law_k", "_law_names_here"] 1 [0]) (O8 (K:=K) (R7 (K:=K) (vi kH) (Q0 (qe_mB (K:=K) T8 PySem.F.slot_list_index PySem.F.type_list_index alE (vi kH) (qa_c (vi dP) A2))) V8)) (fun _ _ _ _ _=>E6 (n:=0) (show List.Nodup (["_law_k", "_law_names_here"]:List Str) by decide +kernel) rfl (Or.inl rfl)) (fun _ _ _ _ _=>y9) (fun _ _ _ _ _=>(qe_ix (K:=K) (qv 1) (qv 0)))) A2))))) G7)
   (A5 (qs_if (E4 (q_eq (K:=K) hu) (vi dP) (qe_cB (q_len (K:=K)) T.b_len X9 (qa_c (vi vdn) A2))) (A7 (D6 (P9 (qa_c D4 (qa_c (qe_ix (K:=K) (vi vdm) (vi dP)) A2))))) G7)
   (A5 (Q1 (qe_mB (K:=K) T8 e8 d0 g1 (vi kH) (qa_c (vi dP) A2)))
   (A7 (C9 (n:=2) sc_l_due.nd rfl vdq (qe_ix (K:=K) (vi vdn) (vi dP))))))))
   (A7 (D6 (P9 (qa_c D4 (qa_c (qe_cB (q_len (K:=K)) T.b_len X9 (qa_c (vi kH) A2)) A2))))))),?_⟩
  obtain ⟨a,b,nms,el,m,k,rfl,ha,hb,I87,hk,q⟩:=h;have iH:=I87.m1;have Z5:=I87.m2;have wA:=I87.l1;have W4:=I87.l2;walk_at "rd";intro p np;refine rZ (fun d Y H2=>∃ (met:List Nat) (at':Int),Y=[some (.ref a),some (.ref b),some (.int at'),some (.ref p)]/\Same H H2/\H2 p=some (.lst ((met.map fun k:Nat=>(k:Int)).map V.int))/\PW el m k met at'/\(at'=-1\/(0<=at'/\at'<=(m:Int)))/\d=m-met.length) m
   ⟨[],k,rfl,Same.new np,A1,PW.start el m k,.inr ⟨by lia,by lia⟩,rfl⟩ ?_
  rintro d Y H2 ⟨met,at',rfl,S2,h2,pw,hr,rfl⟩;have xA:met.length<=m:=by
   have:=tW (m:=M3 m) pw.nd fun x hx=>by
    obtain ⟨i,hi⟩:=n9.mp hx;exact b8.mpr (pw.lk i x hi).1
   rw [fD] at this;exact this
  walk_at "rd";refine iteD (fun h0=>?_) fun h0=>?_
  .obtain ⟨y,rfl⟩:∃ y:Nat,at'=y:=⟨at'.toNat,by lia⟩
   have qB:y<=m:=by lia
   refine ⟨fun σ' H'=>∃ (met2:List Nat) (eQ:Int),σ'=[some (.ref a),some (.ref b),some (.int eQ),some (.ref p)]/\Same H H'/\H' p=some (.lst ((met2.map fun k:Nat=>(k:Int)).map V.int))/\PW el m k met2 eQ/\(eQ=-1\/(0<=eQ/\eQ<=(m:Int)))/\met2.length=met.length+1/\met2.length<=m,?_,?_⟩
   .rintro σ' H' ⟨met2,eQ,rfl,S',h',pw',hr',hl',hl3⟩;exact ⟨m-met2.length,by lia,met2,eQ,rfl,S',h',pw',hr',rfl⟩
   refine rInR.l (.inl (.of h2)) rfl (aeZ _) ⟨_,rfl,?_⟩;rw [ahG,fJ];refine iteD (fun L5=>?_) fun L5=>?_
   .have C1:y<m:=by
     obtain ⟨i,hi⟩:=n9.mp L5;exact (pw.lk i y hi).1
    refine ⟨R6 h2,p,_,_,rfl,rfl,h2,G6.mpr ⟨y,L5,rfl⟩,_,rfl,rSlR.l (.of h2) fun l nl=>?_⟩;rw [z0,ahH,<- w6,<- w6];have S3:Same H2 (A0 H2 l (.lst (((met.drop (met.idxOf y)).map fun k:Nat=>(k:Int)).map V.int))):=Same.new nl;have h3:A0 H2 l (.lst (((met.drop (met.idxOf y)).map fun k:Nat=>(k:Int)).map V.int)) l=some (.lst (((met.drop (met.idxOf y)).map fun k:Nat=>(k:Int)).map V.int)):=A1;generalize A0 H2 l (.lst (((met.drop (met.idxOf y)).map fun k:Nat=>(k:Int)).map V.int))=H3 at S3 h3;have pV:∀ k∈met.drop (met.idxOf y),k<m:=fun k hk=>by
     obtain ⟨i,hi⟩:=n9.mp (mC hk);exact (pw.lk i k hi).1
    have hdl:(met.drop (met.idxOf y)).length<=m:=by rw [o7];lia
    have lP:∀ l' H',Same H H'->H' l'=some (.lst (((met.drop (met.idxOf y)).map (C5 nms)).map V.str))->∀ t,H' t=none->Q (.ref t) (A0 H' t (.tup [.str (Str.ofString "ring"),.ref l'])):=fun l' H' S' h' t nt=>by
     refine q t _ met (some y) (S'.trans (Same.new nt)) (pw.out.2 y rfl (.inr L5)) ?_;show if y=m then _ else _
     rw [if_neg (by lia)];exact ⟨l',A1,C4 h' nt⟩
    generalize met.drop (met.idxOf y)=ms at h3 pV hdl lP;refine ⟨l,rfl,⟨_,.of h3⟩,compL (xs:=(ms.map fun k:Nat=>(k:Int)).map V.int) [some (.ref a)] rfl (fun D i ys H4=>ys=((ms.take i).map (C5 nms)).map V.str/\Same H3 H4) (fun D nD=>⟨rfl,Same.new nD⟩) (by rintro D i ys H4 nD _ ⟨_,S⟩;exact .of (S _ _ h3)) ?_ ?_⟩
    .rintro D i x ys H4 nD hi hx ⟨rfl,S4⟩ hD v7;obtain ⟨x1,cL,rfl⟩:=J1 hx;obtain ⟨kk,lG,rfl⟩:=J1 cL;have hk1:=pV kk (G2 lG);have hii:=(J4.mp lG).1;walk_at "rd";refine ⟨_,.inl (.of (S4 _ _ (S3 _ _ (S2 _ _ ha)))),V.str (C5 nms kk),N9 (by rw [M0,G8 (by lia)];unfold C5;rw [X3,G8 (by lia)];rfl),hD,by rw [A4,A4,K3];exact J5 (by lia),CW.put hi v7 ⟨?_,S4.put nD⟩⟩;rw [L9 lG,E5,E5];rfl
    rintro D ys H4 nD ⟨rfl,S4⟩ hD v7;rw [A4,A4,K0] at hD
    try walk_at "rd"
    exact ⟨by decide,lP D H4 (S2.trans (S3.trans S4)) hD⟩
   .refine ⟨m,.inl ⟨_,.of (S2 _ _ hb),by rw [A4,W4]⟩,iteD (fun he=>?_) fun he=>?_⟩
    .have he:y=m:=by lia
     refine ⟨_,.inl (.of (S2 _ _ ha)),V.str (C5 nms m),N9 (by rw [he,M0,G8 (by lia)];unfold C5;rw [X3,G8 (by lia)];rfl),by decide,fun t nt=>q t _ met (some y) (S2.trans (Same.new nt)) (pw.out.2 y rfl (.inl he)) ?_⟩;show if y=m then _ else _
     rw [if_pos he,A1]
    .have C1:y<m:=by lia
     obtain ⟨e,xL⟩:∃ e,el[y]?=some e:=⟨_,G8 (by lia)⟩
     have xM:=pw.step L5 C1 xL;have xN:(met++[y]).length<=m:=by
      have:=tW (m:=M3 m) xM.nd fun x hx=>by
       obtain ⟨i,hi⟩:=n9.mp hx;exact b8.mpr (xM.lk i x hi).1
      rw [fD] at this;exact this
     have hbp:b≠p:=fun e=>by rw [e,np] at hb;cases hb
     refine ⟨R6 h2,appOk h2 (by rw [A4,A4];exact J5 (by lia)) ⟨_,.inl (.of (by rw [A3 hbp];exact S2 _ _ hb)),V.int e,N9 (by rw [M0,xL];rfl),met++[y],e,rfl,S2.put np,by rw [A1,E5,E5];rfl,xM,I87.rg e (G2 xL),by rw [E3];rfl,xN⟩⟩
  .try walk_at "rd"
   refine ⟨met.length,.inl ⟨_,.of h2,by rw [A4,A4]⟩,by decide,fun t nt=>q t _ met none (S2.trans (Same.new nt)) (pw.out.1 (by lia)) ?_⟩;show A0 H2 t _ t=_;rw [A1]
theorem sc_l_told:FnScope ["_law_book", "_law_name", "_law_got", "e"] ["_law_book", "_law_name"] (C3 aD):=G1
abbrev oR:List Str:=["_law_book", "_law_name", "_law_got", "e"]
theorem vds:VS oR aD "_law_book" 0:=vq
theorem vdt:VS oR aD "_law_name" 1:=vq
theorem vdu:VS oR aD "_law_got" 2:=vq
theorem vdv:VS oR aD "e" 3:=vq
theorem oS:LS aD "_law_got":=lq
theorem ae0:(C3 aD).names.lookup ("e" : Str)=some .local:=by decide +kernel
theorem akw(F:FunD K "_law_told" "_law_told" aD f fd)(T:Txt P w K mg C C_Book C_NoName C_Ring)(G_Book_rules_of:z9 P w K mg base 4 C_Book "rules_of" ["self", "name"] (nR C_Book C_NoName C_Ring)):FnOk P w K mg base D9 5 f fd ["_law_book", "_law_name"] (tY C_Book):=by
 refine F.ok sc_l_told ?_ ?_
 .rintro _ _ _ _ ⟨b,dx,o,e,H0,B,ad,as,k,n,c,nx,nms,el,m,j,rfl,_⟩;rfl
 .intro cdv A outer s H vs Q E hr h;have C6:=hu_of hr;have hu:=hr.units;obtain ⟨d_NoName,md_NoName,CC_NoName,mr_NoName⟩:=T.c_NoName;obtain ⟨d_Ring,md_Ring,CC_Ring,mr_Ring⟩:=T.c_Ring;refine ⟨_,QSs.out (A5 (C9 (n:=2) sc_l_told.nd rfl oS dB)
   (A5 (aj6 (alP (qh_as md_Ring CC_Ring sc_l_told.nd (i:=3) rfl ae0 (fun _ _=>(A7 (C9 (n:=2) sc_l_told.nd rfl oS (P9 (qa_c D4 (qa_c (aj3 (vi vdv) (K:=K)) A2)))))) (qh_as md_NoName CC_NoName sc_l_told.nd (i:=3) rfl ae0 (fun _ _=>(A7 (C9 (n:=2) sc_l_told.nd rfl oS (P9 (qa_c D4 (qa_c (aj3 (vi vdv) (K:=K)) A2)))))) ams (K:=K)) (K:=K)) (aom (fun _=>D4) (qx_cB (fun _=>(q_len (K:=K))) T.b_len X9 (aj8 (fun _=>(vi vds)) G_Book_rules_of (hm hr) (fun _=>(qa_c (vi vdt) A2))))) sc_l_told.nd (j:=2) rfl oS))
   (A7 (D6 (vi vdu))))),?_⟩
  obtain ⟨b,dx,o,e,H0,B,ad,as,k,n,c,nx,nms,el,m,j,rfl,bk,I87,b87,hn,W,q⟩:=h;obtain ⟨fN,MN⟩:=T.er_NoName;obtain ⟨fR,MR⟩:=T.er_Ring;have eR:=b87.one I87;have Q4:=W.mem;have iI:∀ t∈c,∃ z,B.rl t=[z]/\OneR z:=fun t ht=>eR t (Q4 t ht)
  have iE:c.length<=100:=by
   have h1:=jN W.nd Q4
   have:=b87.gd.cnt
   lia
  have eS:(c.map fun t=>(B.rl t).length).sum<=400:=by rw [uB iI];lia
  have xO:∀ t∈B.names,nameB t=true:=b87.gd.nm;obtain ⟨mr1,mr2⟩:=mr_Ring;obtain ⟨mn1,mn2⟩:=mr_NoName;walk_at "rd";refine ⟨dx,_,bk.obj,rfl,b,dx,o,e,H0,B,ad,as,k,n,c,nx,rfl,bk,b87.gd,xO,hn.1,hn.2,b87.el,W,⟨fun x hx xP dx' H' S hd=>⟨C_NoName,dx',rfl,rfl,false,mr1,?_⟩,fun x hx eP dx' l H' S hd hl=>⟨C_Ring,dx',rfl,rfl,true,mr2,?_⟩⟩,eS,fun aX l qs H' nl S hR=>?_⟩
  .rw [if_neg K9];refine ⟨true,mn1,?_⟩;rw [if_pos rfl];intro y ny;walk_at "rd";refine ⟨C_NoName,dx',A1,fN,_,C4 hd ny,MN,T.na_NoName,_,rfl,by decide,fun t nt=>q t _ (S.trans ((Same.new ny).trans (Same.new nt))) ?_⟩;rw [hx];show if x∈B.names then _ else _
   rw [if_neg xP,A1]
  .rw [if_pos rfl];intro y ny;walk_at "rd";refine ⟨C_Ring,dx',A1,fR,_,C4 hd ny,MR,T.na_Ring,_,rfl,by decide,fun t nt=>q t _ (S.trans ((Same.new ny).trans (Same.new nt))) ?_⟩;rw [hx];show if x∈B.names then _ else _
   rw [if_pos (Q4 x eP)];exact ⟨l,A1,C4 (C4 hl ny) nt⟩
  .have hln:=hR.len;walk_at "rd";refine ⟨qs.length,.inl ⟨_,.of hR.top,by rw [A4]⟩,by decide,fun t nt=>q t _ (S.trans (Same.new nt)) ?_⟩;rw [aX];show A0 H' t _ t=_;rw [A1,hln,(uA iI).1]
theorem sc_l_kinds:FnScope ["_law_book", "_law_name", "_law_kinds_here", "e"] ["_law_book", "_law_name"] (C3 aE):=G1
abbrev oU:List Str:=["_law_book", "_law_name", "_law_kinds_here", "e"]
theorem vdx:VS oU aE "_law_book" 0:=vq
theorem vdy:VS oU aE "_law_name" 1:=vq
theorem vdz:VS oU aE "_law_kinds_here" 2:=vq
theorem oV:VS oU aE "e" 3:=vq
theorem vdB:LS aE "_law_kinds_here":=lq
theorem ag6:(C3 aE).names.lookup ("e" : Str)=some .local:=by decide +kernel
theorem aiv(F:FunD K "_law_kinds" "_law_kinds" aE f fd)(T:Txt P w K mg C C_Book C_NoName C_Ring)(G_Book_order_of:z9 P w K mg base 7 C_Book "order_of" ["self", "name"] (uD C C_Book C_NoName C_Ring)):FnOk P w K mg base D9 8 f fd ["_law_book", "_law_name"] (tZ C_Book):=by
 refine F.ok sc_l_kinds ?_ ?_
 .rintro _ _ _ _ ⟨b,dx,o,e,H0,B,ad,as,k,n,c,nx,nms,el,m,j,rfl,_⟩;rfl
 .intro cdv A outer s H vs Q E hr h;have C6:=hu_of hr;have hu:=hr.units;obtain ⟨a_Clash,m_Clash,M_Clash⟩:=T.x_Clash;obtain ⟨a_NoDeed,m_NoDeed,M_NoDeed⟩:=T.x_NoDeed;obtain ⟨a_NoLetter,m_NoLetter,M_NoLetter⟩:=T.x_NoLetter;obtain ⟨a_NoName,m_NoName,M_NoName⟩:=T.x_NoName;obtain ⟨a_NoRule,m_NoRule,M_NoRule⟩:=T.x_NoRule;obtain ⟨a_NoSign,m_NoSign,M_NoSign⟩:=T.x_NoSign;obtain ⟨a_NoText,m_NoText,M_NoText⟩:=T.x_NoText;obtain ⟨a_NotPlain,m_NotPlain,M_NotPlain⟩:=T.x_NotPlain;obtain ⟨a_Ring,m_Ring,M_Ring⟩:=T.x_Ring;obtain ⟨a_Round,m_Round,M_Round⟩:=T.x_Round;obtain ⟨a_Twice,m_Twice,M_Twice⟩:=T.x_Twice;obtain ⟨d_LoreError,md_LoreError,CC_LoreError,mr_LoreError⟩:=T.c_LoreError;refine ⟨_,QSs.out (A5 (C9 (n:=2) sc_l_kinds.nd rfl vdB (P9 (qa_c qe_bl (qa_c qe_bl (qa_c qe_bl (qa_c qe_bl A2))))))
   (A5 (aj6 (aj7 (qh_as md_LoreError CC_LoreError sc_l_kinds.nd (i:=3) rfl ag6 (fun _ _=>(A7 (C9 (n:=2) sc_l_kinds.nd rfl vdB (P9 (qa_c (qe_cB (q_isX T.cn T.ct (K:=K)) T.b_isinstance gB (qa_c (vi oV) (qa_c (O7 m_Ring) A2))) (qa_c (qe_cB (q_isX T.cn T.ct (K:=K)) T.b_isinstance gB (qa_c (vi oV) (qa_c (O7 m_NoName) A2))) (qa_c (qe_cB (q_isX T.cn T.ct (K:=K)) T.b_isinstance gB (qa_c (vi oV) (qa_c (qe_ty T.b_ValueError afj) A2))) (qa_c (qe_cB (aqX T.cn T.ct (K:=K)) T.b_isinstance gB (qa_c (vi oV) (qa_c (P9 (qa_c (O7 m_Clash) (qa_c (O7 m_NoDeed) (qa_c (O7 m_NoLetter) (qa_c (O7 m_NoRule) (qa_c (O7 m_NoSign) (qa_c (O7 m_NotPlain) (qa_c (O7 m_NoText) (qa_c (O7 m_Round) (qa_c (O7 m_Twice) A2)))))))))) A2))) A2)))))))) ams (K:=K)) (aj8 (fun _=>(vi vdx)) G_Book_order_of (hm hr) (fun _=>(qa_c (vi vdy) A2)))))
   (A7 (D6 (vi vdz))))),?_⟩
  obtain ⟨b,dx,o,e,H0,B,ad,as,k,n,c,nx,nms,el,m,j,rfl,bk,I87,b87,hn,W,q⟩:=h;obtain ⟨fN,MN⟩:=T.er_NoName;obtain ⟨fR,MR⟩:=T.er_Ring;have eR:=b87.one I87;have Q4:=W.mem;have iI:∀ t∈c,∃ z,B.rl t=[z]/\OneR z:=fun t ht=>eR t (Q4 t ht)
  have iE:c.length<=100:=by
   have h1:=jN W.nd Q4
   have:=b87.gd.cnt
   lia
  have eS:(c.map fun t=>(B.rl t).length).sum<=400:=by rw [uB iI];lia
  have xO:∀ t∈B.names,nameB t=true:=b87.gd.nm;obtain ⟨ml1,ml2⟩:=mr_LoreError;walk_at "rd";refine ⟨by decide,fun p np=>?_⟩;have S0:Same H (A0 H p (HO.tup [V.bl false,V.bl false,V.bl false,V.bl false])):=Same.new np;have hp0:A0 H p (HO.tup [V.bl false,V.bl false,V.bl false,V.bl false]) p=some (.tup ((kb87 B none).map V.bl)):=A1;generalize A0 H p (HO.tup [V.bl false,V.bl false,V.bl false,V.bl false])=H1 at S0 hp0;have bk1:=bk.keep S0;refine ⟨dx,_,bk1.obj,rfl,b,dx,o,e,H0,B,ad,as,k,n,c,nx,rfl,bk1,b87.gd,xO,hn.1,hn.2,b87.el,W,⟨fun x hx xP dx' H' S hd=>⟨C_NoName,dx',rfl,rfl,true,ml1,?_⟩,fun x hx eP dx' l H' S hd hl=>⟨C_Ring,dx',rfl,rfl,true,ml2,?_⟩⟩,eS,fun aX=>⟨_,_,_,akm (uA iI).2 (by rw [(uA iI).1];exact iE)⟩,fun aX x H' S=>?_⟩
  .rw [if_pos rfl];intro y ny;walk_at "rd";refine ⟨y,C_NoName,dx',fN,_,.ref _,.ref _,false,rfl,A1,C4 hd ny,MN,rfl,M_Ring.1,y,C_NoName,dx',fN,_,.ref _,.ref _,true,rfl,A1,C4 hd ny,MN,rfl,M_NoName.1,y,C_NoName,dx',fN,_,.ty "ValueError",.type "ValueError",true,rfl,A1,C4 hd ny,MN,rfl,T.y_ValueError,by decide,fun t nt=>?_⟩;refine ⟨y,C_NoName,dx',fN,_,t,_,_,false,rfl,C4 A1 nt,C4 (C4 hd ny) nt,MN,.of A1,rfl,tM ?_,by decide,fun t2 xQ=>q t2 _ (S0.trans (S.trans ((Same.new ny).trans ((Same.new nt).trans (Same.new xQ))))) ?_⟩
   .intro c hc;simp only [D7,O2,or_false] at hc
    rcases hc with rfl | rfl | rfl | rfl | rfl | rfl | rfl | rfl | rfl
    .exact M_Clash.1
    .exact M_NoDeed.1
    .exact M_NoLetter.1
    .exact M_NoRule.1
    .exact M_NoSign.1
    .exact M_NotPlain.1
    .exact M_NoText.1
    .exact M_Round.1
    .exact M_Twice.1
   .rw [A1,hx];show _=some (HO.tup ([decide (x∈B.names),!decide (x∈B.names),true,false].map V.bl));rw [decide_eq_false xP];rfl
  .rw [if_pos rfl];intro y ny;walk_at "rd";refine ⟨y,C_Ring,dx',fR,_,.ref _,.ref _,true,rfl,A1,C4 hd ny,MR,rfl,M_Ring.2,y,C_Ring,dx',fR,_,.ref _,.ref _,false,rfl,A1,C4 hd ny,MR,rfl,M_NoName.2,y,C_Ring,dx',fR,_,.ty "ValueError",.type "ValueError",true,rfl,A1,C4 hd ny,MR,rfl,T.y_ValueError_Ring,by decide,fun t nt=>?_⟩;refine ⟨y,C_Ring,dx',fR,_,t,_,_,false,rfl,C4 A1 nt,C4 (C4 hd ny) nt,MR,.of A1,rfl,tM ?_,by decide,fun t2 xQ=>q t2 _ (S0.trans (S.trans ((Same.new ny).trans ((Same.new nt).trans (Same.new xQ))))) ?_⟩
   .intro c hc;simp only [D7,O2,or_false] at hc
    rcases hc with rfl | rfl | rfl | rfl | rfl | rfl | rfl | rfl | rfl
    .exact M_Clash.2
    .exact M_NoDeed.2
    .exact M_NoLetter.2
    .exact M_NoRule.2
    .exact M_NoSign.2
    .exact M_NotPlain.2
    .exact M_NoText.2
    .exact M_Round.2
    .exact M_Twice.2
   .rw [A1,hx];show _=some (HO.tup ([decide (x∈B.names),!decide (x∈B.names),true,false].map V.bl));rw [decide_eq_true (Q4 x eP)];rfl
  .rw [aX] at q;exact q p H' (S0.trans S) (S _ _ hp0)
theorem akx:FnScope ["_law_book", "_law_names_here", "_law_due_here", "_law_at"] ["_law_book", "_law_names_here", "_law_due_here", "_law_at"] (C3 dJ):=G1
abbrev oW:List Str:=["_law_book", "_law_names_here", "_law_due_here", "_law_at"]
theorem vdC:VS oW dJ "_law_book" 0:=vq
theorem vdD:VS oW dJ "_law_names_here" 1:=vq
theorem oX:VS oW dJ "_law_due_here" 2:=vq
theorem vdF:VS oW dJ "_law_at" 3:=vq
theorem aky(F:FunD K "_law_held" "_law_held" dJ f fd)(T:Txt P w K mg C C_Book C_NoName C_Ring)(G_l_told:FO P w K mg base 5 "_law_told" ["_law_book", "_law_name"] [] (tY C_Book))(G_l_kinds:FO P w K mg base 8 "_law_kinds" ["_law_book", "_law_name"] [] (tZ C_Book)):FnOk P w K mg base D9 9 f fd ["_law_book", "_law_names_here", "_law_due_here", "_law_at"] (ahL C_Book):=by
 refine F.ok akx ?_ ?_
 .rintro _ _ _ _ ⟨b,a,t,dx,o,e,H0,B,ad,as,k,nms,el,m,j,i,met,x,rfl,_⟩;rfl
 .intro cdv A outer s H vs Q E hr h;have C6:=hu_of hr;have hu:=hr.units;refine ⟨_,QSs.out (gD (qs_if (E4 (q_ne (K:=K) hu) (F9 G_l_told (hm hr) (qa_c (vi vdC) (qa_c (qe_ix (K:=K) (vi vdD) (vi vdF)) A2))) (vi oX)) (A7 (D6 qe_bl)) G7)
   (A7 (D6 (j4 (q_eq (K:=K) hu) (F9 G_l_kinds (hm hr) (qa_c (vi vdC) (qa_c (qe_ix (K:=K) (vi vdD) (vi vdF)) A2))) (P9 (qa_c (j4 (q_eq (K:=K) hu) (qe_ix (K:=K) (vi oX) A6) D4) (qa_c (j4 (q_eq (K:=K) hu) (qe_ix (K:=K) (vi oX) A6) D4) (qa_c (j4 (q_ne (K:=K) hu) (qe_ix (K:=K) (vi oX) A6) D4) (qa_c qe_bl A2))))))))),?_⟩
  obtain ⟨b,a,t,dx,o,e,H0,B,ad,as,k,nms,el,m,j,i,met,x,rfl,bk,ha,I87,b87,hj1,pK,him,iw,hxj,due,q⟩:=h;obtain ⟨W,qC⟩:=iw.walk I87 b87 hj1 pK hxj;have wA:=I87.l1;have lQ:V0 (C5 nms i):=gM (I87.nm _ (G2 (V1 (i:=i) (by lia))));have J3:∀ {H1:Hp},Same H H1->∃ xs,(D1 K H1 a xs\/C8 K H1 a xs)/\L7 xs (i:Int)=some (V.str (C5 nms i)):=fun S=>⟨_,.inl (.of (S _ _ ha)),N9 (by rw [M0,V1 (by lia)];rfl)⟩
  have C1:=iw.lt;have qB:∀ y,x=some y->y<=m:=fun y e=>by
   rcases iw.en y e with q | q
   .lia
   .have:=C1 y q;lia
  try walk_at "rd"
  refine midS (fun Y H2=>Y=[some (.ref b),some (.ref a),some (.ref t),some (.int i)]/\Same H H2) ?_ ?_
  .intro M' hM';obtain ⟨xs,h1,h2⟩:=J3 (U9 _);walk_at "rd";refine ⟨xs,h1,_,h2,b,dx,o,e,H0,B,ad,as,k,_,_,_,nms,el,m,j,rfl,bk,I87,b87,lQ,W,fun t2 H2 S2 n8=>?_⟩;have due2:DueT H2 t nms m met x:=due.same S2;have told2:=uam I87 C1 qC qB n8;refine ⟨_,(told2.dn I87 C1).1,_,(due2.dn I87 C1).1,F6 (Nat.min_le_left _ _) (nW _ _ _ _).2,?_⟩;rw [(nW _ _ _ _).1,if_neg (by decide)];exact hM' _ _ ⟨rfl,S2⟩
  rintro Y H2 ⟨rfl,S2⟩;obtain ⟨xs,h1,h2⟩:=J3 S2;walk_at "rd";refine ⟨xs,h1,_,h2,b,dx,o,e,H0,B,ad,as,k,_,_,_,nms,el,m,j,rfl,bk.keep S2,I87,b87,lQ,W,fun t2 H3 S3 n8=>?_⟩;obtain ⟨v,hv⟩:=((due.same (S2.trans S3)).dn (K:=K) I87 C1).2;refine ⟨_,.inr (.of hv),V.str (dueW m x),M4 _ _,?_⟩
  try walk_at "rd"
  refine ⟨_,.inr (.of hv),V.str (dueW m x),M4 _ _,?_⟩
  try walk_at "rd"
  refine ⟨_,.inr (.of hv),V.str (dueW m x),M4 _ _,?_⟩
  try walk_at "rd"
  rw [kb_is qC] at n8;refine ⟨by decide,fun p np=>?_⟩;have h4:A0 H3 p (.tup ([decide (dueW m x=Str.ofString "ring"),decide (dueW m x=Str.ofString "name"),!decide (dueW m x=Str.ofString "rules"),false].map V.bl)) p=some (.tup ([decide (dueW m x=Str.ofString "ring"),decide (dueW m x=Str.ofString "name"),!decide (dueW m x=Str.ofString "rules"),false].map V.bl)):=A1;refine ⟨_,.tup (.of (C4 n8 np)) (kA _),_,.tup (.of h4) (kA _),by simp [bI,e9],?_⟩;rw [show ∀ a b c d:Bool,(PyData.tuple ([a,b,c,d].map PyData.bool)).eqv (PyData.tuple ([a,b,c,d].map PyData.bool))=true by decide];exact q _ ((S2.trans S3).trans (Same.new np))
theorem sc_law:FnScope ["_law_script", "_law_cell", "_law_many", "_law_number", "_law_names_here", "_law_elders_here", "_law_text_here", "_law_book", "_law_mended", "_law_asked", "_law_at", "_law_due_here", "_law_odd"] ["_law_script"] (C3 s_law):=G1
abbrev n_law:List Str:=["_law_script", "_law_cell", "_law_many", "_law_number", "_law_names_here", "_law_elders_here", "_law_text_here", "_law_book", "_law_mended", "_law_asked", "_law_at", "_law_due_here", "_law_odd"]
theorem vG:VS n_law s_law "_law_script" 0:=vq
theorem vH:VS n_law s_law "_law_cell" 1:=vq
theorem u6:VS n_law s_law "_law_many" 2:=vq
theorem kI:VS n_law s_law "_law_number" 3:=vq
theorem aK:VS n_law s_law "_law_names_here" 4:=vq
theorem vdL:VS n_law s_law "_law_elders_here" 5:=vq
theorem vdM:VS n_law s_law "_law_text_here" 6:=vq
theorem oY:VS n_law s_law "_law_book" 7:=vq
theorem vdO:VS n_law s_law "_law_mended" 8:=vq
theorem vdP:VS n_law s_law "_law_asked" 9:=vq
theorem kJ:VS n_law s_law "_law_at" 10:=vq
theorem oZ:VS n_law s_law "_law_due_here" 11:=vq
theorem vI:VS n_law s_law "_law_odd" 12:=vq
theorem vdT:LS s_law "_law_cell":=lq
theorem vdU:LS s_law "_law_many":=lq
theorem vdV:LS s_law "_law_number":=lq
theorem vdW:LS s_law "_law_names_here":=lq
theorem vdX:LS s_law "_law_elders_here":=lq
theorem vdY:LS s_law "_law_text_here":=lq
theorem vdZ:LS s_law "_law_book":=lq
theorem vd0:LS s_law "_law_mended":=lq
theorem vd1:LS s_law "_law_asked":=lq
theorem vd2:LS s_law "_law_at":=lq
theorem vd3:LS s_law "_law_due_here":=lq
theorem vd4:LS s_law "_law_odd":=lq
theorem aq8(F:FunD K "law" "law" s_law f fd)(T:Txt P w K mg C C_Book C_NoName C_Ring)(G_Book___init__:KO P w K mg base 7 C_Book "Book" ["self", "text"] (tQ C_Book))(G_l_cell_at:FO P w K mg base 1 "_law_cell_at" ["_law_script", "_law_k"] [] (sT K))(G_l_names:FO P w K mg base 1 "_law_names" ["_law_number", "_law_many"] [] spNms)(G_l_elders:FO P w K mg base 2 "_law_elders" ["_law_script", "_law_many"] [] (amy K))(G_l_text:FO P w K mg base 1 "_law_text" ["_law_names_here", "_law_elders_here"] [] ahF)(G_l_due:FO P w K mg base 1 "_law_due" ["_law_names_here", "_law_elders_here", "_law_at"] [] akl)(G_l_told:FO P w K mg base 5 "_law_told" ["_law_book", "_law_name"] [] (tY C_Book))(G_l_kinds:FO P w K mg base 8 "_law_kinds" ["_law_book", "_law_name"] [] (tZ C_Book))(G_l_held:FO P w K mg base 9 "_law_held" ["_law_book", "_law_names_here", "_law_due_here", "_law_at"] [] (ahL C_Book)):FnOk P w K mg base D9 10 f fd ["_law_script"] (spLaw K):=by
 refine F.ok sc_law ?_ ?_
 .rintro _ _ _ _ ⟨a,ns,rfl,_⟩;rfl
 .intro cdv A outer s H vs Q E hr h;have C6:=hu_of hr;have hu:=hr.units;refine ⟨_,QSs.out (A5 (C9 (n:=1) sc_law.nd rfl vdT (F9 G_l_cell_at (hm hr) (qa_c (vi vG) (qa_c A6 A2))))
   (A5 (C9 (n:=2) sc_law.nd rfl vdU (qe_op (q_add (K:=K)) A6 (qe_op q_mod (vi vH) A6)))
   (gD (qs_if (E4 (q_eq (K:=K) hu) (qe_op q_mod (qe_op Y1 (vi vH) A6) A6) A6) (A7 (C9 (n:=2) sc_law.nd rfl vdU (qe_op (q_add (K:=K)) A6 (qe_op q_mod (qe_op Y1 (vi vH) A6) A6)))) G7)
   (A5 (C9 (n:=3) sc_law.nd rfl vdV (qe_op q_mod (qe_op q_mul (F9 G_l_cell_at (hm hr) (qa_c (vi vG) (qa_c A6 A2))) A6) A6))
   (A5 (C9 (n:=4) sc_law.nd rfl vdW (F9 G_l_names (hm hr) (qa_c (vi kI) (qa_c (qe_op (q_add (K:=K)) (vi u6) A6) A2))))
   (A5 (C9 (n:=5) sc_law.nd rfl vdX (F9 G_l_elders (hm hr) (qa_c (vi vG) (qa_c (vi u6) A2))))
   (A5 (C9 (n:=6) sc_law.nd rfl vdY (F9 G_l_text (hm hr) (qa_c (vi aK) (qa_c (vi vdL) A2))))
   (A5 (C9 (n:=7) sc_law.nd rfl vdZ (sO G_Book___init__ (hm hr) (qa_c (vi vdM) A2)))
   (A5 (C9 (n:=8) sc_law.nd rfl vd0 (sO G_Book___init__ (hm hr) (qa_c (qe_op (q_add (K:=K)) (qe_op (q_add (K:=K)) (qe_op (q_add (K:=K)) (vi vdM) D4) (qe_ix (K:=K) (vi aK) (vi u6))) D4) A2)))
   (A5 (C9 (n:=9) sc_law.nd rfl vd1 (qe_op (q_add (K:=K)) (qe_cT (anU (calm:=true)) T.b_list gC (qa_c (qe_cT aqR T.b_range ajG (qa_c (vi u6) A2)) A2)) (V7 (qa_c (vi u6) A2))))
   (gD (qs_if (E4 q_gt (vi u6) A6) (A7 (C9 (n:=9) sc_law.nd rfl vd1 (V7 (qa_c (qe_op q_mod (qe_op Y1 (vi kI) A6) (vi u6)) (qa_c (qe_op q_mod (qe_op Y1 (vi kI) A6) (vi u6)) (qa_c (vi u6) (qa_c (qe_op q_mod (qe_op Y1 (vi kI) A6) (vi u6)) (qa_c A6 A2)))))))) G7)
   (gD (N5 PassesOwn.never (O8 (K:=K) (vi vdP)) (E6 (n:=10) sc_law.nd rfl vd2 (.inl rfl)) (A5 (C9 (n:=11) sc_law.nd rfl vd3 (F9 G_l_due (hm hr) (qa_c (vi aK) (qa_c (vi vdL) (qa_c (vi kJ) A2)))))
   (A5 (qs_if (jF (f8 (K:=K) (F9 G_l_held (hm hr) (qa_c (vi oY) (qa_c (vi aK) (qa_c (vi oZ) (qa_c (vi kJ) A2))))))) (A7 (D6 qe_bl)) G7)
   (A7 (qs_if (E4 (q_ne (K:=K) hu) (qe_ix (K:=K) (vi oZ) A6) D4) (A7 (qs_if (jF (f8 (K:=K) (F9 G_l_held (hm hr) (qa_c (vi vdO) (qa_c (vi aK) (qa_c (vi oZ) (qa_c (vi kJ) A2))))))) (A7 (D6 qe_bl)) G7)) (A7 (qs_if (QW.pt (qw_or (E4 (q_ne (K:=K) hu) (qe_ix (K:=K) (F9 G_l_told (hm hr) (qa_c (vi vdO) (qa_c (qe_ix (K:=K) (vi aK) (vi kJ)) A2))) A6) D4) (amf (E4 (q_ne (K:=K) hu) (F9 G_l_told (hm hr) (qa_c (vi oY) (qa_c (qe_ix (K:=K) (vi aK) (vi kJ)) A2))) (vi oZ))))) (A7 (D6 qe_bl)) G7)))))))
   (A5 (C9 (n:=12) sc_law.nd rfl vd4 (qe_ix (K:=K) (V7 (qa_c D4 (qa_c D4 (qa_c D4 (qa_c D4 (qa_c (qe_op (q_add (K:=K)) (qe_ix (K:=K) (vi aK) A6) D4) (qa_c (qe_m0 (K:=K) iQ PySem.F.slot_str_upper PySem.F.type_str_upper aod (qe_ix (K:=K) (vi aK) A6)) (qa_c D4 A2)))))))) (qe_op q_mod (qe_op Y1 (vi kI) A6) A6)))
   (A7 (D6 (y7 (j4 (q_eq (K:=K) hu) (F9 G_l_told (hm hr) (qa_c (vi oY) (qa_c (vi vI) A2))) (P9 (qa_c D4 (qa_c (vi vI) A2)))) (dC (j4 (q_eq (K:=K) hu) (F9 G_l_kinds (hm hr) (qa_c (vi oY) (qa_c (vi vI) A2))) (P9 (qa_c qe_bl (qa_c qe_bl (qa_c qe_bl (qa_c qe_bl A2))))))))))))))))))))))),?_⟩
  obtain ⟨a,ns,rfl,hS,A9,q⟩:=h;walk_at "rd";refine ⟨a,ns,0,rfl,hS,by decide,?_⟩
  try walk_at "rd"
  refine midS (fun Y H2=>∃ (m:Nat),Y=[some (.ref a),some (.int (cellF ns 0)),some (.int m),none,none,none,none,none,none,none,none,none,none]/\H2=H/\1<=m/\m<=40) ?_ ?_
  .intro M' hM'
   try walk_at "rd"
   refine iteD (fun _=>hM' _ _ ⟨(1+cellF ns 0 / 36 % 40).toNat,by rw [iR (by lia)],rfl,by lia,by lia⟩) fun _=>hM' _ _ ⟨(1+cellF ns 0 % 9).toNat,by rw [iR (by lia)],rfl,by lia,by lia⟩
  rintro Y H2 ⟨m,rfl,rfl,iH,Z5⟩;walk_at "rd";refine ⟨a,ns,1,rfl,hS,by decide,?_⟩
  try walk_at "rd"
  refine ⟨.inr ⟨by decide,by decide⟩,?_⟩;have hN0:0<=cellF ns 1*16807 % 2147483629:=U6 _ (by decide);generalize cellF ns 1*16807 % 2147483629=N at hN0;refine ⟨_,_,rfl,hN0,by lia,by lia,fun la nms H3 nla S3 hla hnl v1 Q5=>?_⟩;refine ⟨a,ns,m,rfl,S3.seq hS,iH,Z5,fun lb el H4 nlb S4 hlb xR xS=>?_⟩;have I87:In87 nms el m:=⟨by lia,v1,Q5,xR,xS,iH,Z5⟩
  refine ⟨la,lb,nms,el,m,rfl,S4 _ _ hla,hlb,I87,fun ls H5 S5 hf v6 bi=>?_⟩;have lR:ls≠[]:=fun e=>by rw [e] at v6;simp at v6;lia
  have hok:=hf.ok;have cI:=alZ hok;have V3:nms[m]?=some (C5 nms m):=V1 (by lia);have xT:=g8 (Q5 _ (G2 V3));have lS:eldOf nms el m=none:=by
   unfold eldOf;rw [List.getElem?_eq_none (by lia)]
  have hf1:Fits (ls++[Ln.beg (C5 nms m) none]):=hf.snoc ⟨by rw [bi.names];exact gE v1 V3,Q5 _ (G2 V3),fun x h=>by cases h⟩;have b1:BkIs (Bk.of (ls++[Ln.beg (C5 nms m) none])) nms el (fun j=>if j=m then [] else F87 nms m j) (m+1):=by rw [aF,<- lS];exact bi.beg v1 V3
  have w1:(Bk.of (ls++[Ln.beg (C5 nms m) none])).nw=some (C5 nms m):=by rw [aF];rfl
  have qD:Fits (ls++[Ln.beg (C5 nms m) none]++[Ln.rule (("row" : Str),["a"])]):=hf1.snoc (l:=.rule _) ⟨by rw [w1];simp,ahE (by decide +kernel)⟩;have b2:BkIs (Bk.of (ls++[Ln.beg (C5 nms m) none]++[Ln.rule (("row" : Str),["a"])])) nms el (F87 nms m) (m+1):=by
   rw [aF];refine (b1.rule v1 V3 w1).congr fun j hj=>?_
   by_cases e2:j=m
   .rw [if_pos e2,if_pos rfl,e2];unfold F87;rw [if_pos rfl];rfl
   .rw [if_neg e2,if_neg e2]
  have gdb:∀ {l:List Ln},Fits l->l.length<=100->(Bk.of l).Good 100:=fun {l} hl h100=>by
   have:=hl.good l.length (C2 _)
   rw [K0] at this;exact this.mono h100
  have B1:Bk87 nms el m m (Bk.of ls):=⟨bi,gdb hf (by lia),hf.elder⟩
  have hl2':(ls++[Ln.beg (C5 nms m) none]++[Ln.rule (("row" : Str),["a"])]).length=2*m+2:=by rw [E3,E3,v6];rfl
  have B2:Bk87 nms el m (m+1) (Bk.of (ls++[Ln.beg (C5 nms m) none]++[Ln.rule (("row" : Str),["a"])])):=⟨b2,gdb qD (by lia),qD.elder⟩
  intro b dx nb ndx ndxb;refine ⟨b,dx,ls,H5,rfl,rfl,nb,ndx,ndxb,hf,by lia,fun o e ad as H6 bk=>⟨rfl,?_⟩⟩;have eT:=bk.same _ _ (S5 _ _ (S4 _ _ hla));have lT:=bk.same _ _ (S5 _ _ hlb);have c8:(Str.ofString "\norder ").length=7:=by decide +kernel
  have c6:(Str.ofString "\nrow a").length=6:=by decide +kernel
  walk_at "rd";refine ⟨N1 (by lia),_,.inl (.of eT),V.str (C5 nms m),N9 (by rw [M0,V3];rfl),?_⟩;walk_at "rd";refine ⟨N1 (by rw [Str.length_append];lia),N1 (by rw [Str.length_append,Str.length_append];lia),?_⟩;rw [akq lR];intro b' dx' nb' ndx' ndxb';refine ⟨b',dx',_,H6,rfl,rfl,nb',ndx',ndxb',qD,by lia,fun o' e' ad' as' H7 bk'=>⟨rfl,?_⟩⟩;have xU:=bk.keep bk'.same;have lU:=bk'.same _ _ eT;have lV:=bk'.same _ _ lT;generalize Bk.of (ls++[Ln.beg (C5 nms m) none]++[Ln.rule (("row" : Str),["a"])])=BB' at B2 bk';generalize hBB:Bk.of ls=BB at B1 xU;clear bk eT lT hf1 qD b1 b2 w1 cI hok bi gdb lS V3 xT lR;intro r nr;refine ⟨(m:Int),A1,by lia,by lia,fun l nl=>⟨by decide,fun p np=>?_⟩⟩;rw [show ((m:Int)).toNat=m from iS m];rw [show ((m:Int)).toNat=m from iS m] at np;have S8:Same H7 (A0 (A0 (A0 H7 r (HO.rng 0 (m:Int))) l (HO.lst (b9 (fun k:Nat=>V.int (k:Int)) (M3 m)))) p (HO.lst [V.int (m:Int)])):=((Same.new nr).trans (Same.new nl)).trans (Same.new np);have h8l:A0 (A0 (A0 H7 r (HO.rng 0 (m:Int))) l (HO.lst (b9 (fun k:Nat=>V.int (k:Int)) (M3 m)))) p (HO.lst [V.int (m:Int)]) l=some (HO.lst (b9 (fun k:Nat=>V.int (k:Int)) (M3 m))):=C4 A1 np;have h8p:A0 (A0 (A0 H7 r (HO.rng 0 (m:Int))) l (HO.lst (b9 (fun k:Nat=>V.int (k:Int)) (M3 m)))) p (HO.lst [V.int (m:Int)]) p=some (HO.lst [V.int (m:Int)]):=A1;generalize A0 (A0 (A0 H7 r (HO.rng 0 (m:Int))) l (HO.lst (b9 (fun k:Nat=>V.int (k:Int)) (M3 m)))) p (HO.lst [V.int (m:Int)])=H8 at S8 h8l h8p;refine rAddR.l h8l h8p (by rw [A4,fD];exact N1 (by simp only [E8,T7];lia)) fun lk nlk=>?_
  have S9:Same H8 (A0 H8 lk (.lst (b9 (fun k:Nat=>V.int (k:Int)) (M3 m)++[V.int (m:Int)]))):=Same.new nlk;have h9:A0 H8 lk (.lst (b9 (fun k:Nat=>V.int (k:Int)) (M3 m)++[V.int (m:Int)])) lk=some (.lst ((M3 m++[m]).map fun k:Nat=>V.int (k:Int))):=by rw [A1,E5];rfl
  generalize A0 H8 lk (.lst (b9 (fun k:Nat=>V.int (k:Int)) (M3 m)++[V.int (m:Int)]))=H9 at S9 h9;have xV:=S8.trans S9;clear S8 S9 h8l h8p nlk nl np nr;refine midS (fun Y Q3=>∃ (T:Str) (lk:Addr) (ks:List Nat),Y=[some (.ref a),some (.int (cellF ns 0)),some (.int m),some (.int N),some (.ref la),some (.ref lb),some (.str T),some (.ref b),some (.ref b'),some (.ref lk),none,none,none]/\Same H7 Q3/\Q3 lk=some (.lst (ks.map fun k:Nat=>V.int (k:Int)))/\∀ k∈ks,k<=m) ?_ ?_
  .intro M' hM';have em:∀ z:Int,0<=z % (m:Int)/\z % (m:Int)<(m:Int):=fun z=>⟨U6 _ (by lia),p5 _ (by lia)⟩
   have e7:=em (N / 7);have e11:=em (N / 11);have e13:=em (N / 13);walk_at "rd";refine iteD (fun h9m=>⟨by lia,by lia,by lia,by decide,fun l5 n5=>hM' _ _ ⟨_,l5,[(N / 7 % (m:Int)).toNat,(N / 11 % (m:Int)).toNat,m,(N / 13 % (m:Int)).toNat,0],rfl,xV.trans (Same.new n5),?_,?_⟩⟩) fun _=>hM' _ _ ⟨_,lk,_,rfl,xV,h9,?_⟩
   .rw [A1];simp only [D0,i7,iR e7.1,iR e11.1,iR e13.1];rfl
   .intro k hk;simp only [D7,O2,or_false] at hk
    rcases hk with h | h | h | h | h <;> lia
   .intro k hk
    rcases J8.mp hk with hk | hk
    .have:=b8.mp hk;lia
    .rw [K7.mp hk];exact C2 _
  rintro Y Q3 ⟨T,lk,ks,rfl,cR,h10,hks⟩;have bkA:=xU.keep cR;have bkB:=bk'.keep cR;have hlaA:=cR _ _ lU;have hlbA:=cR _ _ lV;clear xV h9 xU bk' lU lV;have J3:∀ {k:Nat} {H1:Hp},k<=m->Same Q3 H1->∃ xs,(D1 K H1 la xs\/C8 K H1 la xs)/\L7 xs (k:Int)=some (V.str (C5 nms k)):=fun hk S=>⟨_,.inl (.of (S _ _ hlaA)),N9 (by rw [M0,V1 (by lia)];rfl)⟩
  have lQ:∀ {k:Nat},k<=m->V0 (C5 nms k):=fun hk=>gM (Q5 _ (G2 (V1 (by lia))))
  refine midS (fun Y Z7=>∃ (u v:Option V),Y=[some (.ref a),some (.int (cellF ns 0)),some (.int m),some (.int N),some (.ref la),some (.ref lb),some (.str T),some (.ref b),some (.ref b'),some (.ref lk),u,v,none]/\Same Q3 Z7) ?_ ?_
  .intro M' hM';walk_at "rd";refine ⟨⟨_,.of h10⟩,forLs (xs:=ks.map fun k:Nat=>V.int (k:Int)) (fun _ Y Z7=>∃ (u v:Option V),Y=[some (.ref a),some (.int (cellF ns 0)),some (.int m),some (.int N),some (.ref la),some (.ref lb),some (.str T),some (.ref b),some (.ref b'),some (.ref lk),u,v,none]/\Same Q3 Z7) ⟨none,none,rfl,U9 _⟩ ?_ ?_ fun Y Z7 h=>hM' _ _ h⟩
   .rintro i Y Z7 _ ⟨u,v,rfl,cT⟩;exact .of (cT _ _ h10)
   .rintro P' Bk hP i x0 Y Z7 pN ⟨u,v,rfl,cT⟩;obtain ⟨k,hk,rfl⟩:=J1 pN;have eU:=hks k (G2 hk);walk_at "rd";refine ⟨la,lb,nms,el,m,k,rfl,cT _ _ hlaA,cT _ _ hlbA,I87,eU,fun t xB met x Z6 iw due=>?_⟩;have S:=cT.trans Z6;refine ⟨b,la,t,dx,o,e,_,BB,ad,as,_,nms,el,m,m,k,met,x,rfl,bkA.keep S,S _ _ hlaA,I87,B1,C2 _,by lia,eU,iw,fun _=>rfl,due,fun H13 qE=>?_⟩;have SS:=S.trans qE;have due3:=due.same qE;obtain ⟨v3,hv3⟩:=(due3.dn (K:=K) I87 iw.lt).2;have C1:=iw.lt;have qB:∀ y,x=some y->y<=m:=fun y e=>by
     rcases iw.en y e with q | q
     .lia
     .have:=C1 y q;lia
    try walk_at "rd"
    refine ⟨_,.inr (.of hv3),V.str (dueW m x),M4 _ _,?_⟩;walk_at "rd"
    by_cases hd:dueW m x=Str.ofString "name"
    .rw [if_neg (by rw [decide_eq_true hd];decide)];obtain rfl:x=some m:=al0 hd;obtain ⟨xs,h1,h2⟩:=J3 eU SS;refine ⟨xs,h1,_,h2,b',dx',o',e',_,BB',ad',as',_,_,_,none,nms,el,m,m+1,rfl,bkB.keep SS,I87,B2,lQ eU,iw.mended I87 B2,fun t4 qF lW xW=>?_⟩;have xW:qF t4=some (.tup [.str "rules",.int _]):=xW
     try walk_at "rd"
     refine ⟨_,.inr (.of xW),_,M4 _ _,?_⟩
     try walk_at "rd"
     try rw [if_neg (by decide +kernel)]
     have S4:=SS.trans lW;obtain ⟨xs,h1,h2⟩:=J3 eU S4;obtain ⟨W,qC⟩:=iw.walk I87 B1 (C2 _) (by lia) (fun _=>rfl);refine ⟨xs,h1,_,h2,b,dx,o,e,_,BB,ad,as,_,_,_,_,nms,el,m,m,rfl,bkA.keep S4,I87,B1,lQ eU,W,fun t5 H15 S15 ht5=>?_⟩;have told:=uam I87 C1 qC qB ht5;refine ⟨_,(told.dn I87 C1).1,_,((due3.same (lW.trans S15)).dn I87 C1).1,F6 (Nat.min_le_left _ _) (nW _ _ _ _).2,?_⟩;rw [(nW _ _ _ _).1,if_neg (by decide)];exact hP _ _ _ ⟨_,_,rfl,S4.trans S15⟩
    .rw [if_pos (by rw [decide_eq_false hd];rfl)];refine ⟨b',la,t,dx',o',e',_,BB',ad',as',_,nms,el,m,m+1,k,met,x,rfl,bkB.keep SS,SS _ _ hlaA,I87,B2,by lia,C2 _,eU,iw,fun hx=>absurd (by rw [hx];exact if_pos rfl) hd,due3,fun qF lW=>⟨true,rfl,?_⟩⟩;rw [if_neg (by decide)];exact hP _ _ _ ⟨_,_,rfl,SS.trans lW⟩
  rintro Y Z7 ⟨u,v,rfl,cT⟩;walk_at "rd";obtain ⟨xs,h1,h2⟩:=J3 (k:=0) (by lia) cT;have kQ:nameB (C5 nms 0)=true:=Q5 _ (G2 (V1 (by lia)));obtain ⟨n1,n2,n3⟩:=g8 kQ;obtain ⟨up1,up2,up3,up4⟩:=aig kQ;refine ⟨xs,h1,_,h2,?_⟩;walk_at "rd";refine ⟨N1 (by show _+1<=_;lia),xs,h1,_,h2,rfl,C5 nms 0,rfl,rfl,up1,by decide,fun p np=>?_⟩;have Z6:Same Z7 (A0 Z7 p (HO.lst [V.str (Str.ofString ""),V.str (Str.ofString "A"),V.str (Str.ofString "a b"),V.str (Str.ofString "abcdefghi"),V.str (C5 nms 0++Str.ofString " "),V.str (Txt.upper (C5 nms 0)),V.str (Str.ofString "1")])):=Same.new np;have h12:A0 Z7 p (HO.lst [V.str (Str.ofString ""),V.str (Str.ofString "A"),V.str (Str.ofString "a b"),V.str (Str.ofString "abcdefghi"),V.str (C5 nms 0++Str.ofString " "),V.str (Txt.upper (C5 nms 0)),V.str (Str.ofString "1")]) p=some (HO.lst [V.str (Str.ofString ""),V.str (Str.ofString "A"),V.str (Str.ofString "a b"),V.str (Str.ofString "abcdefghi"),V.str (C5 nms 0++Str.ofString " "),V.str (Txt.upper (C5 nms 0)),V.str (Str.ofString "1")]):=A1;generalize A0 Z7 p (HO.lst [V.str (Str.ofString ""),V.str (Str.ofString "A"),V.str (Str.ofString "a b"),V.str (Str.ofString "abcdefghi"),V.str (C5 nms 0++Str.ofString " "),V.str (Txt.upper (C5 nms 0)),V.str (Str.ofString "1")])=xB at Z6 h12;have odd:∃ z:Str,L7 [V.str (Str.ofString ""),V.str (Str.ofString "A"),V.str (Str.ofString "a b"),V.str (Str.ofString "abcdefghi"),V.str (C5 nms 0++Str.ofString " "),V.str (Txt.upper (C5 nms 0)),V.str (Str.ofString "1")] (N / 17 % 7)=some (V.str z)/\V0 z/\nameB z=false:=by
   rcases (show N / 17 % 7=0\/N / 17 % 7=1\/N / 17 % 7=2\/N / 17 % 7=3\/N / 17 % 7=4\/N / 17 % 7=5\/N / 17 % 7=6 by lia) with e | e | e | e | e | e | e <;> rw [e]
   .exact ⟨_,rfl,⟨by decide +kernel,by decide +kernel⟩,by decide +kernel⟩
   .exact ⟨_,rfl,⟨by decide +kernel,by decide +kernel⟩,by decide +kernel⟩
   .exact ⟨_,rfl,⟨by decide +kernel,by decide +kernel⟩,by decide +kernel⟩
   .exact ⟨_,rfl,⟨by decide +kernel,by decide +kernel⟩,by decide +kernel⟩
   .exact ⟨_,rfl,aie kQ⟩
   .exact ⟨_,rfl,up2,up3⟩
   .exact ⟨_,rfl,⟨by decide +kernel,by decide +kernel⟩,by decide +kernel⟩
  obtain ⟨z,hz,m4,hzn⟩:=odd;have X1:z∉BB.names:=fun hm=>by
   have:=B1.gd.nm z hm
   rw [hzn] at this
   cases this
  have SA:=cT.trans Z6;refine ⟨_,.inl (.of h12),_,hz,b,dx,o,e,_,BB,ad,as,_,z,_,_,nms,el,m,m,rfl,bkA.keep SA,I87,B1,m4,ahK X1,fun t2 H13 qE n8=>⟨by decide,fun p2 m7=>?_⟩⟩;have n8:if z∈BB.names then _ else H13 t2=some (.tup [.str "name",.str z]):=n8
  rw [if_neg X1] at n8;refine ⟨_,.tup (.of (C4 n8 m7)) (.cons (.str _ (by decide +kernel)) (.cons (.str _ m4.2) .nil)),_,.tup (.of A1) (.cons (.str _ (by decide +kernel)) (.cons (.str _ m4.2) .nil)),by simp [bI,e9],?_⟩;rw [if_pos (by simp [U7,i8])];have SB:=(SA.trans qE).trans (Same.new (u:=HO.tup [V.str (Str.ofString "name"),V.str z]) m7);refine ⟨b,dx,o,e,_,BB,ad,as,_,z,_,_,nms,el,m,m,rfl,bkA.keep SB,I87,B1,m4,ahK X1,fun t3 qF lW qG=>⟨by decide,fun p3 xD=>?_⟩⟩;have qG:qF t3=some (.tup ([decide (z∈BB.names),!decide (z∈BB.names),true,false].map V.bl)):=qG;rw [decide_eq_false X1] at qG;refine ⟨_,.tup (.of (C4 qG xD)) (kA _),_,.tup (.of A1) (kA [false,true,true,false]),by decide,?_⟩;rw [show (PyData.tuple ([false,!false,true,false].map PyData.bool)).eqv (PyData.tuple ([false,true,true,false].map PyData.bool))=true by decide];exact q _
end
theorem all_mk{l:PySem.W.OpenLaw}{w:World}{C_Book C_NoName C_Ring:Addr}(X:K.In h)(G:h.Ns mainGlobals mg)(hfa:mg "law"=some (.ref fa)){f0:Addr}{od0 an0:Option Addr}{sl0:Array (Option Value)}{oc0 kV0 dc0 pm0 cd0 ct0:Value}(i0:V4 K (.ref f0)=true)(l0:K.lookup f0=some ⟨oc0,od0,.func (O4 "__init__" "NoName.__init__" (Q7 bX) (O5 bX) (C3 bX) .none kV0 dc0 pm0 an0 cd0 ct0),sl0⟩)(c0:R5 K cd0 "NoName.__init__"=true)(k0:N4 K (.ref f0)=true){f1:Addr}{od1 an1:Option Addr}{sl1:Array (Option Value)}{oc1 kV1 dc1 pm1 cd1 ct1:Value}(i1:V4 K (.ref f1)=true)(l1:K.lookup f1=some ⟨oc1,od1,.func (O4 "__init__" "Ring.__init__" (Q7 bY) (O5 bY) (C3 bY) .none kV1 dc1 pm1 an1 cd1 ct1),sl1⟩)(c1:R5 K cd1 "Ring.__init__"=true)(k1:N4 K (.ref f1)=true)(d2:DF K "told" r8)(d3:DF K "followers" W1)(d4:DF K "count_ahead" s0)(d5:DF K "lined_up" O0)(d6:DF K "is_figure" nM)(d7:DF K "has_rule" jT)(d8:DF K "pieces_told" nN)(d9:DF K "is_clash" bZ)(d10:DF K "jobs_of" g4)(d11:DF K "misused" aA)(d12:DF K "check_letters" aB)(d13:DF K "line_of" jU)(d14:DF K "forms_of" cA)(d15:DF K "steps_of" N6){f16:Addr}{od16 an16:Option Addr}{sl16:Array (Option Value)}{oc16 kV16 dc16 pm16 cd16 ct16:Value}(a16:F8 K (.ref C) "__init__"=some (some (.ref f16)))(i16:V4 K (.ref f16)=true)(l16:K.lookup f16=some ⟨oc16,od16,.func (O4 "__init__" "Order.__init__" (Q7 cB) (O5 cB) (C3 cB) .none kV16 dc16 pm16 an16 cd16 ct16),sl16⟩)(c16:R5 K cd16 "Order.__init__"=true)(k16:N4 K (.ref f16)=true)(d17:DF K "is_sign" nO)(d18:DF K "is_piece" jV)(d19:DF K "is_rule" dI)(d20:DF K "read_rule" gJ)(d21:DF K "forgotten" t6)(d22:DF K "without" t7)(d23:DF K "changed" Y5)(d24:DF K "is_name" jW)(d25:DF K "is_beginning" nP){f26:Addr}{od26 an26:Option Addr}{sl26:Array (Option Value)}{oc26 kV26 dc26 pm26 cd26 ct26:Value}(a26:F8 K (.ref C_Book) "begin"=some (some (.ref f26)))(i26:V4 K (.ref f26)=true)(l26:K.lookup f26=some ⟨oc26,od26,.func (O4 "begin" "Book.begin" (Q7 t8) (O5 t8) (C3 t8) .none kV26 dc26 pm26 an26 cd26 ct26),sl26⟩)(c26:R5 K cd26 "Book.begin"=true)(k26:N4 K (.ref f26)=true){f27:Addr}{od27 an27:Option Addr}{sl27:Array (Option Value)}{oc27 kV27 dc27 pm27 cd27 ct27:Value}(a27:F8 K (.ref C_Book) "add_rule"=some (some (.ref f27)))(i27:V4 K (.ref f27)=true)(l27:K.lookup f27=some ⟨oc27,od27,.func (O4 "add_rule" "Book.add_rule" (Q7 t9) (O5 t9) (C3 t9) .none kV27 dc27 pm27 an27 cd27 ct27),sl27⟩)(c27:R5 K cd27 "Book.add_rule"=true)(k27:N4 K (.ref f27)=true){f28:Addr}{od28 an28:Option Addr}{sl28:Array (Option Value)}{oc28 kV28 dc28 pm28 cd28 ct28:Value}(a28:F8 K (.ref C_Book) "tell"=some (some (.ref f28)))(i28:V4 K (.ref f28)=true)(l28:K.lookup f28=some ⟨oc28,od28,.func (O4 "tell" "Book.tell" (Q7 u0) (O5 u0) (C3 u0) .none kV28 dc28 pm28 an28 cd28 ct28),sl28⟩)(c28:R5 K cd28 "Book.tell"=true)(k28:N4 K (.ref f28)=true){f29:Addr}{od29 an29:Option Addr}{sl29:Array (Option Value)}{oc29 kV29 dc29 pm29 cd29 ct29:Value}(a29:F8 K (.ref C_Book) "__init__"=some (some (.ref f29)))(i29:V4 K (.ref f29)=true)(l29:K.lookup f29=some ⟨oc29,od29,.func (O4 "__init__" "Book.__init__" (Q7 u3) (O5 u3) (C3 u3) .none kV29 dc29 pm29 an29 cd29 ct29),sl29⟩)(c29:R5 K cd29 "Book.__init__"=true)(k29:N4 K (.ref f29)=true){f30:Addr}{od30 an30:Option Addr}{sl30:Array (Option Value)}{oc30 kV30 dc30 pm30 cd30 ct30:Value}(a30:F8 K (.ref C_Book) "elders_from"=some (some (.ref f30)))(i30:V4 K (.ref f30)=true)(l30:K.lookup f30=some ⟨oc30,od30,.func (O4 "elders_from" "Book.elders_from" (Q7 g6) (O5 g6) (C3 g6) .none kV30 dc30 pm30 an30 cd30 ct30),sl30⟩)(c30:R5 K cd30 "Book.elders_from"=true)(k30:N4 K (.ref f30)=true){f31:Addr}{od31 an31:Option Addr}{sl31:Array (Option Value)}{oc31 kV31 dc31 pm31 cd31 ct31:Value}(a31:F8 K (.ref C_Book) "rules_of"=some (some (.ref f31)))(i31:V4 K (.ref f31)=true)(l31:K.lookup f31=some ⟨oc31,od31,.func (O4 "rules_of" "Book.rules_of" (Q7 g7) (O5 g7) (C3 g7) .none kV31 dc31 pm31 an31 cd31 ct31),sl31⟩)(c31:R5 K cd31 "Book.rules_of"=true)(k31:N4 K (.ref f31)=true){f32:Addr}{od32 an32:Option Addr}{sl32:Array (Option Value)}{oc32 kV32 dc32 pm32 cd32 ct32:Value}(a32:F8 K (.ref C_Book) "order_of"=some (some (.ref f32)))(i32:V4 K (.ref f32)=true)(l32:K.lookup f32=some ⟨oc32,od32,.func (O4 "order_of" "Book.order_of" (Q7 cC) (O5 cC) (C3 cC) .none kV32 dc32 pm32 an32 cd32 ct32),sl32⟩)(c32:R5 K cd32 "Book.order_of"=true)(k32:N4 K (.ref f32)=true)(d33:DF K "_law_cell_at" jX)(d34:DF K "_law_names" O1)(d35:DF K "_law_elders" Y6)(d36:DF K "_law_text" j9)(d37:DF K "_law_due" u4)(d38:DF K "_law_told" aD)(d39:DF K "_law_kinds" aE)(d40:DF K "_law_held" dJ){f41:Addr}{od41 an41:Option Addr}{sl41:Array (Option Value)}{oc41 kV41 dc41 pm41 cd41 ct41:Value}(a41:E2 K mainGlobals "law"=some (some (.ref f41)))(l41:K.lookup f41=some ⟨oc41,od41,.func (O4 "law" "law" (Q7 s_law) (O5 s_law) (C3 s_law) .none kV41 dc41 pm41 an41 cd41 ct41),sl41⟩)(c41:R5 K cd41 "law"=true)(k41:N4 K (.ref f41)=true){N_NoName:Addr}{nm_NoName q_NoName:Str}{bs_NoName bm_NoName sub_NoName:List Value}{sn_NoName:List Str}{ab_NoName:Bool}{col_NoName:Option Bool}{dd_NoName:Option Addr}{k0_NoName k1_NoName k2_NoName k3_NoName k5_NoName:Option Value}(aE_NoName:E2 K mainGlobals "NoName"=some (some (.ref C_NoName)))(lE_NoName:K.lookup C_NoName=some (excClassObj nm_NoName q_NoName C_NoName N_NoName bs_NoName bm_NoName true sn_NoName sub_NoName ab_NoName col_NoName dd_NoName k0_NoName k1_NoName k2_NoName k3_NoName k5_NoName "ValueError.__new__"))(t1_NoName:cW K dG bm_NoName=true)(t2_NoName:q9 dG (.ref C_NoName::bm_NoName)=true)(t3_NoName:fH K N_NoName=true)(t4_NoName:E2 K N_NoName "__init__"=some (some (.ref f0)))(sa_NoName:F8 K (.ref C_NoName) "__setattr__"=some (some (.builtin "object.__setattr__")))(ga_NoName:F8 K (.ref C_NoName) "__getattribute__"=some (some (.builtin "BaseException.__getattribute__")))(gt_NoName:F8 K (.ref C_NoName) "__getattr__"=some (none))(cl_NoName:F8 K (.ref C_NoName) "__class__"=some (some (.builtin "object.__class__")))(bx_NoName:N0 K C_NoName (.type "BaseException")=some true)(ob_NoName:N0 K C_NoName (.type "object")=some true)(kp_NoName:N4 K (.ref C_NoName)=true)(nE_NoName:F8 K (.ref C_NoName) "name"=some none){N_Ring:Addr}{nm_Ring q_Ring:Str}{bs_Ring bm_Ring sub_Ring:List Value}{sn_Ring:List Str}{ab_Ring:Bool}{col_Ring:Option Bool}{dd_Ring:Option Addr}{k0_Ring k1_Ring k2_Ring k3_Ring k5_Ring:Option Value}(aE_Ring:E2 K mainGlobals "Ring"=some (some (.ref C_Ring)))(lE_Ring:K.lookup C_Ring=some (excClassObj nm_Ring q_Ring C_Ring N_Ring bs_Ring bm_Ring true sn_Ring sub_Ring ab_Ring col_Ring dd_Ring k0_Ring k1_Ring k2_Ring k3_Ring k5_Ring "ValueError.__new__"))(t1_Ring:cW K dG bm_Ring=true)(t2_Ring:q9 dG (.ref C_Ring::bm_Ring)=true)(t3_Ring:fH K N_Ring=true)(t4_Ring:E2 K N_Ring "__init__"=some (some (.ref f1)))(sa_Ring:F8 K (.ref C_Ring) "__setattr__"=some (some (.builtin "object.__setattr__")))(ga_Ring:F8 K (.ref C_Ring) "__getattribute__"=some (some (.builtin "BaseException.__getattribute__")))(gt_Ring:F8 K (.ref C_Ring) "__getattr__"=some (none))(cl_Ring:F8 K (.ref C_Ring) "__class__"=some (some (.builtin "object.__class__")))(bx_Ring:N0 K C_Ring (.type "BaseException")=some true)(ob_Ring:N0 K C_Ring (.type "object")=some true)(kp_Ring:N4 K (.ref C_Ring)=true)(nE_Ring:F8 K (.ref C_Ring) "around"=some none){aL:Addr}(eL:E2 K mainGlobals "LoreError"=some (some (.ref aL)))(eL1:x5 K (.ref aL) "__getattribute__"=some (some (.builtin "type.__getattribute__")))(eL2:PySem.W.readsIn K aL (.type "type")=true)(eL3:PySem.W.findCls K (.ref aL) (.type "type") "__init__"=some (.val (.builtin "ValueError.__init__")))(ecn:x5 K (.builtin "object.__class__") "__get__"=some (some (.builtin "getset_descriptor.__get__")))(ect:cV K (.builtin "object.__class__")=some true){d_LoreError:Addr}{cd_LoreError:ClassData}(aD_LoreError:E2 K mainGlobals "LoreError"=some (some (.ref d_LoreError)))(D1_LoreError:fI K d_LoreError=some cd_LoreError)(D2_LoreError:PySem.W.typeIn K (.ref d_LoreError)=some (.type "type"))(D3_LoreError:N0 K d_LoreError (.type "BaseException")=some true)(D4NoName_LoreError:N0 K C_NoName (.ref d_LoreError)=some true)(D4Ring_LoreError:N0 K C_Ring (.ref d_LoreError)=some true){d_NoName:Addr}{cd_NoName:ClassData}(aD_NoName:E2 K mainGlobals "NoName"=some (some (.ref d_NoName)))(D1_NoName:fI K d_NoName=some cd_NoName)(D2_NoName:PySem.W.typeIn K (.ref d_NoName)=some (.type "type"))(D3_NoName:N0 K d_NoName (.type "BaseException")=some true)(D4NoName_NoName:N0 K C_NoName (.ref d_NoName)=some true)(D4Ring_NoName:N0 K C_Ring (.ref d_NoName)=some false){d_Ring:Addr}{cd_Ring:ClassData}(aD_Ring:E2 K mainGlobals "Ring"=some (some (.ref d_Ring)))(D1_Ring:fI K d_Ring=some cd_Ring)(D2_Ring:PySem.W.typeIn K (.ref d_Ring)=some (.type "type"))(D3_Ring:N0 K d_Ring (.type "BaseException")=some true)(D4NoName_Ring:N0 K C_NoName (.ref d_Ring)=some false)(D4Ring_Ring:N0 K C_Ring (.ref d_Ring)=some true){x_Clash:Addr}(aX_Clash:E2 K mainGlobals "Clash"=some (some (.ref x_Clash)))(X1NoName_Clash:D8 K (.ref C_NoName) (.ref x_Clash)=some false)(X1Ring_Clash:D8 K (.ref C_Ring) (.ref x_Clash)=some false){x_NoDeed:Addr}(aX_NoDeed:E2 K mainGlobals "NoDeed"=some (some (.ref x_NoDeed)))(X1NoName_NoDeed:D8 K (.ref C_NoName) (.ref x_NoDeed)=some false)(X1Ring_NoDeed:D8 K (.ref C_Ring) (.ref x_NoDeed)=some false){x_NoLetter:Addr}(aX_NoLetter:E2 K mainGlobals "NoLetter"=some (some (.ref x_NoLetter)))(X1NoName_NoLetter:D8 K (.ref C_NoName) (.ref x_NoLetter)=some false)(X1Ring_NoLetter:D8 K (.ref C_Ring) (.ref x_NoLetter)=some false){x_NoRule:Addr}(aX_NoRule:E2 K mainGlobals "NoRule"=some (some (.ref x_NoRule)))(X1NoName_NoRule:D8 K (.ref C_NoName) (.ref x_NoRule)=some false)(X1Ring_NoRule:D8 K (.ref C_Ring) (.ref x_NoRule)=some false){x_NoSign:Addr}(aX_NoSign:E2 K mainGlobals "NoSign"=some (some (.ref x_NoSign)))(X1NoName_NoSign:D8 K (.ref C_NoName) (.ref x_NoSign)=some false)(X1Ring_NoSign:D8 K (.ref C_Ring) (.ref x_NoSign)=some false){x_NotPlain:Addr}(aX_NotPlain:E2 K mainGlobals "NotPlain"=some (some (.ref x_NotPlain)))(X1NoName_NotPlain:D8 K (.ref C_NoName) (.ref x_NotPlain)=some false)(X1Ring_NotPlain:D8 K (.ref C_Ring) (.ref x_NotPlain)=some false){x_NoText:Addr}(aX_NoText:E2 K mainGlobals "NoText"=some (some (.ref x_NoText)))(X1NoName_NoText:D8 K (.ref C_NoName) (.ref x_NoText)=some false)(X1Ring_NoText:D8 K (.ref C_Ring) (.ref x_NoText)=some false){x_Round:Addr}(aX_Round:E2 K mainGlobals "Round"=some (some (.ref x_Round)))(X1NoName_Round:D8 K (.ref C_NoName) (.ref x_Round)=some false)(X1Ring_Round:D8 K (.ref C_Ring) (.ref x_Round)=some false){x_Twice:Addr}(aX_Twice:E2 K mainGlobals "Twice"=some (some (.ref x_Twice)))(X1NoName_Twice:D8 K (.ref C_NoName) (.ref x_Twice)=some false)(X1Ring_Twice:D8 K (.ref C_Ring) (.ref x_Twice)=some false){x_Ring:Addr}(aX_Ring:E2 K mainGlobals "Ring"=some (some (.ref x_Ring)))(X1NoName_Ring:D8 K (.ref C_NoName) (.ref x_Ring)=some false)(X1Ring_Ring:D8 K (.ref C_Ring) (.ref x_Ring)=some true){x_NoName:Addr}(aX_NoName:E2 K mainGlobals "NoName"=some (some (.ref x_NoName)))(X1NoName_NoName:D8 K (.ref C_NoName) (.ref x_NoName)=some true)(X1Ring_NoName:D8 K (.ref C_Ring) (.ref x_NoName)=some false)(Y1_ValueError:D8 K (.ref C_NoName) (.type "ValueError")=some true)(Y1_ValueError_Ring:D8 K (.ref C_Ring) (.type "ValueError")=some true)(aC:E2 K mainGlobals "Order"=some (some (.ref C)))(pgC:fG K C Str.empty=true)(hdC:bF K C=true)(poC:PySem.W.plainOver K C=true)(saC:F8 K (.ref C) "__setattr__"=some (some (.builtin "object.__setattr__")))(mkC:PySem.W.makesIn K C=true)(kcC:N4 K (.ref C)=true)(nC_figures:F8 K (.ref C) "figures"=some none)(nC_behind:F8 K (.ref C) "behind"=some none)(nC_jobs:F8 K (.ref C) "jobs"=some none)(nC_letter_line:F8 K (.ref C) "letter_line"=some none)(nC_mark_line:F8 K (.ref C) "mark_line"=some none)(nC_made:F8 K (.ref C) "made"=some none)(aC_Book:E2 K mainGlobals "Book"=some (some (.ref C_Book)))(pgC_Book:fG K C_Book Str.empty=true)(hdC_Book:bF K C_Book=true)(poC_Book:PySem.W.plainOver K C_Book=true)(saC_Book:F8 K (.ref C_Book) "__setattr__"=some (some (.builtin "object.__setattr__")))(mkC_Book:PySem.W.makesIn K C_Book=true)(kcC_Book:N4 K (.ref C_Book)=true)(nC_own:F8 K (.ref C_Book) "own"=some none)(nC_elders:F8 K (.ref C_Book) "elders"=some none)(nC_newest:F8 K (.ref C_Book) "newest"=some none)(nC_length:F8 K (.ref C_Book) "length"=some none)(z_ValueError:E2 K mainGlobals "ValueError"=some none)(z_all:E2 K mainGlobals "all"=some none)(z_any:E2 K mainGlobals "any"=some none)(z_dict:E2 K mainGlobals "dict"=some none)(z_enumerate:E2 K mainGlobals "enumerate"=some none)(z_isinstance:E2 K mainGlobals "isinstance"=some none)(z_len:E2 K mainGlobals "len"=some none)(z_list:E2 K mainGlobals "list"=some none)(z_min:E2 K mainGlobals "min"=some none)(z_ord:E2 K mainGlobals "ord"=some none)(z_range:E2 K mainGlobals "range"=some none)(z_reversed:E2 K mainGlobals "reversed"=some none)(z_str:E2 K mainGlobals "str"=some none)(z_tuple:E2 K mainGlobals "tuple"=some none)(z_zip:E2 K mainGlobals "zip"=some none){a_JOBS:Addr}{ep_JOBS:Nat}{h_JOBS_0:Int}{t_JOBS_0 u_JOBS_0:Tok}{h_JOBS_1:Int}{t_JOBS_1 u_JOBS_1:Tok}{h_JOBS_2:Int}{t_JOBS_2 u_JOBS_2:Tok}{h_JOBS_3:Int}{t_JOBS_3 u_JOBS_3:Tok}{h_JOBS_4:Int}{t_JOBS_4 u_JOBS_4:Tok}(y_JOBS:E2 K mainGlobals "JOBS"=some (some (.ref a_JOBS)))(d_JOBS:K.lookup a_JOBS=some { cls:=.type "dict",dict:=none,data:=.dict #[⟨h_JOBS_0,.str "row" t_JOBS_0,.str "letter" u_JOBS_0⟩,⟨h_JOBS_1,.str "marks" t_JOBS_1,.str "mark" u_JOBS_1⟩,⟨h_JOBS_2,.str "great" t_JOBS_2,.str "great" u_JOBS_2⟩,⟨h_JOBS_3,.str "as" t_JOBS_3,.str "as" u_JOBS_3⟩,⟨h_JOBS_4,.str "over" t_JOBS_4,.str "over" u_JOBS_4⟩] ep_JOBS,slots:=#[] })(s_JOBS:(a_JOBS==sysModules)=false)(e_JOBS_0:h_JOBS_0=keyH w (Sum.inr ("row" : Str)))(e_JOBS_1:h_JOBS_1=keyH w (Sum.inr ("marks" : Str)))(e_JOBS_2:h_JOBS_2=keyH w (Sum.inr ("great" : Str)))(e_JOBS_3:h_JOBS_3=keyH w (Sum.inr ("as" : Str)))(e_JOBS_4:h_JOBS_4=keyH w (Sum.inr ("over" : Str))){a_AGAIN:Addr}{n_AGAIN:Nat}{od_AGAIN:Option Addr}{sl_AGAIN:Array (Option Value)}{t_AGAIN_0:Tok}{t_AGAIN_1:Tok}{t_AGAIN_2:Tok}(y_AGAIN:E2 K mainGlobals "AGAIN"=some (some (.ref a_AGAIN)))(d_AGAIN:K.lookup a_AGAIN=some ⟨.type "tuple",od_AGAIN,.seq #[.str "letter" t_AGAIN_0,.str "mark" t_AGAIN_1,.str "over" t_AGAIN_2] n_AGAIN,sl_AGAIN⟩){a_FEWEST:Addr}{ep_FEWEST:Nat}{h_FEWEST_0:Int}{t_FEWEST_0 u_FEWEST_0:Tok}{h_FEWEST_1:Int}{t_FEWEST_1 u_FEWEST_1:Tok}{h_FEWEST_2:Int}{t_FEWEST_2 u_FEWEST_2:Tok}{h_FEWEST_3:Int}{t_FEWEST_3 u_FEWEST_3:Tok}{h_FEWEST_4:Int}{t_FEWEST_4 u_FEWEST_4:Tok}{h_FEWEST_5:Int}{t_FEWEST_5 u_FEWEST_5:Tok}(y_FEWEST:E2 K mainGlobals "FEWEST"=some (some (.ref a_FEWEST)))(d_FEWEST:K.lookup a_FEWEST=some { cls:=.type "dict",dict:=none,data:=.dict #[⟨h_FEWEST_0,.str "row" t_FEWEST_0,.int 1 u_FEWEST_0⟩,⟨h_FEWEST_1,.str "marks" t_FEWEST_1,.int 1 u_FEWEST_1⟩,⟨h_FEWEST_2,.str "great" t_FEWEST_2,.int 2 u_FEWEST_2⟩,⟨h_FEWEST_3,.str "as" t_FEWEST_3,.int 2 u_FEWEST_3⟩,⟨h_FEWEST_4,.str "over" t_FEWEST_4,.int 1 u_FEWEST_4⟩,⟨h_FEWEST_5,.str "forget" t_FEWEST_5,.int 1 u_FEWEST_5⟩] ep_FEWEST,slots:=#[] })(s_FEWEST:(a_FEWEST==sysModules)=false)(e_FEWEST_0:h_FEWEST_0=keyH w (Sum.inr ("row" : Str)))(e_FEWEST_1:h_FEWEST_1=keyH w (Sum.inr ("marks" : Str)))(e_FEWEST_2:h_FEWEST_2=keyH w (Sum.inr ("great" : Str)))(e_FEWEST_3:h_FEWEST_3=keyH w (Sum.inr ("as" : Str)))(e_FEWEST_4:h_FEWEST_4=keyH w (Sum.inr ("over" : Str)))(e_FEWEST_5:h_FEWEST_5=keyH w (Sum.inr ("forget" : Str))){a_BARE:Addr}{n_BARE:Nat}{od_BARE:Option Addr}{sl_BARE:Array (Option Value)}{t_BARE_0:Tok}{t_BARE_1:Tok}{t_BARE_2:Tok}(y_BARE:E2 K mainGlobals "BARE"=some (some (.ref a_BARE)))(d_BARE:K.lookup a_BARE=some ⟨.type "tuple",od_BARE,.seq #[.str "figures" t_BARE_0,.str "blanks" t_BARE_1,.str "behind" t_BARE_2] n_BARE,sl_BARE⟩){a_STAYING:Addr}{ep_STAYING:Nat}{h_STAYING_0:Int}{t_STAYING_0 u_STAYING_0:Tok}{h_STAYING_1:Int}{t_STAYING_1 u_STAYING_1:Tok}{h_STAYING_2:Int}{t_STAYING_2 u_STAYING_2:Tok}{h_STAYING_3:Int}{t_STAYING_3 u_STAYING_3:Tok}(y_STAYING:E2 K mainGlobals "STAYING"=some (some (.ref a_STAYING)))(d_STAYING:K.lookup a_STAYING=some { cls:=.type "dict",dict:=none,data:=.dict #[⟨h_STAYING_0,.str "row" t_STAYING_0,.int 1 u_STAYING_0⟩,⟨h_STAYING_1,.str "marks" t_STAYING_1,.int 1 u_STAYING_1⟩,⟨h_STAYING_2,.str "over" t_STAYING_2,.int 1 u_STAYING_2⟩,⟨h_STAYING_3,.str "great" t_STAYING_3,.int 2 u_STAYING_3⟩] ep_STAYING,slots:=#[] })(s_STAYING:(a_STAYING==sysModules)=false)(e_STAYING_0:h_STAYING_0=keyH w (Sum.inr ("row" : Str)))(e_STAYING_1:h_STAYING_1=keyH w (Sum.inr ("marks" : Str)))(e_STAYING_2:h_STAYING_2=keyH w (Sum.inr ("over" : Str)))(e_STAYING_3:h_STAYING_3=keyH w (Sum.inr ("great" : Str))){tMARK tLETTER:Tok}{tPER:Tok}(y_MARK:E2 K mainGlobals "MARK"=some (some (.int 0 tMARK)))(y_LETTER:E2 K mainGlobals "LETTER"=some (some (.int 2 tLETTER)))(y_PER:E2 K mainGlobals "PER_CENT"=some (some (.int 37 tPER)))
  : ∃ fd:FuncData,(∀ (s:Shared) (v:Value),BindsTo s fd ⟨[v],[]⟩ [("_law_script",v)])/\∀ base:Heap,K.In base->base.Ns mainGlobals mg->FnOk l.prog w K mg base D9 10 fa fd ["_law_script"] (spLaw K):=by
 have e:=hfa.symm.trans (L6 X G a41);cases e;have M_NoName:ErrC K C_NoName f0:=⟨⟨_,_,_,_,_,_,_,_,_,_,_,_,_,_,_,lE_NoName,t1_NoName,t2_NoName,t3_NoName,t4_NoName⟩,i0,sa_NoName,ga_NoName,gt_NoName,cl_NoName,bx_NoName,ob_NoName,kp_NoName⟩
 have M_Ring:ErrC K C_Ring f1:=⟨⟨_,_,_,_,_,_,_,_,_,_,_,_,_,_,_,lE_Ring,t1_Ring,t2_Ring,t3_Ring,t4_Ring⟩,i1,sa_Ring,ga_Ring,gt_Ring,cl_Ring,bx_Ring,ob_Ring,kp_Ring⟩
 have T:Txt l.prog w K mg C C_Book C_NoName C_Ring:=⟨⟨pgC,hdC,poC,saC⟩,nC_figures,nC_behind,nC_jobs,nC_letter_line,nC_mark_line,nC_made,⟨pgC_Book,hdC_Book,poC_Book,saC_Book⟩,nC_own,nC_elders,nC_newest,nC_length,⟨aL,L6 X G eL,⟨eL1,eL2,eL3⟩⟩,nE_NoName,⟨_,M_NoName⟩,nE_Ring,⟨_,M_Ring⟩,ecn,ect,⟨d_LoreError,L6 X G aD_LoreError,⟨⟨_,D1_LoreError⟩,D2_LoreError,D3_LoreError⟩,D4NoName_LoreError,D4Ring_LoreError⟩,⟨d_NoName,L6 X G aD_NoName,⟨⟨_,D1_NoName⟩,D2_NoName,D3_NoName⟩,D4NoName_NoName,D4Ring_NoName⟩,⟨d_Ring,L6 X G aD_Ring,⟨⟨_,D1_Ring⟩,D2_Ring,D3_Ring⟩,D4NoName_Ring,D4Ring_Ring⟩,⟨x_Clash,L6 X G aX_Clash,X1NoName_Clash,X1Ring_Clash⟩,⟨x_NoDeed,L6 X G aX_NoDeed,X1NoName_NoDeed,X1Ring_NoDeed⟩,⟨x_NoLetter,L6 X G aX_NoLetter,X1NoName_NoLetter,X1Ring_NoLetter⟩,⟨x_NoRule,L6 X G aX_NoRule,X1NoName_NoRule,X1Ring_NoRule⟩,⟨x_NoSign,L6 X G aX_NoSign,X1NoName_NoSign,X1Ring_NoSign⟩,⟨x_NotPlain,L6 X G aX_NotPlain,X1NoName_NotPlain,X1Ring_NotPlain⟩,⟨x_NoText,L6 X G aX_NoText,X1NoName_NoText,X1Ring_NoText⟩,⟨x_Round,L6 X G aX_Round,X1NoName_Round,X1Ring_Round⟩,⟨x_Twice,L6 X G aX_Twice,X1NoName_Twice,X1Ring_Twice⟩,⟨x_Ring,L6 X G aX_Ring,X1NoName_Ring,X1Ring_Ring⟩,⟨x_NoName,L6 X G aX_NoName,X1NoName_NoName,X1Ring_NoName⟩,Y1_ValueError,Y1_ValueError_Ring,U5 X G z_ValueError,U5 X G z_all,U5 X G z_any,U5 X G z_dict,U5 X G z_enumerate,U5 X G z_isinstance,U5 X G z_len,U5 X G z_list,U5 X G z_min,U5 X G z_ord,U5 X G z_range,U5 X G z_reversed,U5 X G z_str,U5 X G z_tuple,U5 X G z_zip,⟨_,L6 X G y_MARK⟩,⟨_,L6 X G y_LETTER⟩,⟨_,L6 X G y_PER⟩,⟨_,L6 X G y_JOBS,rY d_JOBS s_JOBS (.cons ⟨T9 _ _,e_JOBS_0,⟨_,rfl⟩⟩ ( .cons ⟨T9 _ _,e_JOBS_1,⟨_,rfl⟩⟩ ( .cons ⟨T9 _ _,e_JOBS_2,⟨_,rfl⟩⟩ ( .cons ⟨T9 _ _,e_JOBS_3,⟨_,rfl⟩⟩ ( .cons ⟨T9 _ _,e_JOBS_4,⟨_,rfl⟩⟩ ( .nil)))))) (by decide +kernel)⟩,⟨_,L6 X G y_AGAIN,fun H=>.inr ⟨_,_,_,d_AGAIN,rfl,rfl,(by show 3<=sizeLine;decide),.cons ⟨_,rfl⟩ ( .cons ⟨_,rfl⟩ ( .cons ⟨_,rfl⟩ ( .nil)))⟩⟩,⟨_,L6 X G y_FEWEST,rY d_FEWEST s_FEWEST (.cons ⟨T9 _ _,e_FEWEST_0,⟨_,rfl⟩⟩ ( .cons ⟨T9 _ _,e_FEWEST_1,⟨_,rfl⟩⟩ ( .cons ⟨T9 _ _,e_FEWEST_2,⟨_,rfl⟩⟩ ( .cons ⟨T9 _ _,e_FEWEST_3,⟨_,rfl⟩⟩ ( .cons ⟨T9 _ _,e_FEWEST_4,⟨_,rfl⟩⟩ ( .cons ⟨T9 _ _,e_FEWEST_5,⟨_,rfl⟩⟩ ( .nil))))))) (by decide +kernel)⟩,⟨_,L6 X G y_BARE,fun H=>.inr ⟨_,_,_,d_BARE,rfl,rfl,(by show 3<=sizeLine;decide),.cons ⟨_,rfl⟩ ( .cons ⟨_,rfl⟩ ( .cons ⟨_,rfl⟩ ( .nil)))⟩⟩,⟨_,L6 X G y_STAYING,rY d_STAYING s_STAYING (.cons ⟨T9 _ _,e_STAYING_0,⟨_,rfl⟩⟩ ( .cons ⟨T9 _ _,e_STAYING_1,⟨_,rfl⟩⟩ ( .cons ⟨T9 _ _,e_STAYING_2,⟨_,rfl⟩⟩ ( .cons ⟨T9 _ _,e_STAYING_3,⟨_,rfl⟩⟩ ( .nil))))) (by decide +kernel)⟩⟩
 have F0:=f7 (st:=bX) l0 c0;have F1:=f7 (st:=bY) l1 c1;have F16:=f7 (st:=cB) l16 c16;have F26:=f7 (st:=t8) l26 c26;have F27:=f7 (st:=t9) l27 c27;have F28:=f7 (st:=u0) l28 c28;have F29:=f7 (st:=u3) l29 c29;have F30:=f7 (st:=g6) l30 c30;have F31:=f7 (st:=g7) l31 c31;have F32:=f7 (st:=cC) l32 c32;have F41:=f7 (st:=s_law) l41 c41;refine ⟨O4 "law" "law" (Q7 s_law) (O5 s_law) (C3 s_law) .none kV41 dc41 pm41 an41 cd41 ct41,fun s v=>.of_eq rfl,fun base hb hn=>?_⟩;have G_NoName___init__:EO l.prog w K mg base 1 C_NoName "NoName" ["self", "name"] (tV K C_NoName "name"):=⟨_,_,adm F0 T,L6 X G aE_NoName,M_NoName,.all (len2 fun _ _=>rfl)⟩
 have G_Ring___init__:EO l.prog w K mg base 1 C_Ring "Ring" ["self", "around"] (tT K C_Ring "around"):=⟨_,_,adK F1 T,L6 X G aE_Ring,M_Ring,.all (len2 fun _ _=>rfl)⟩
 have G_told:=d2.go X G hb fun F=>aor F T
 have G_followers:=d3.go X G hb fun F=>agj F T G_told
 have G_count_ahead:=d4.go X G hb fun F=>aez F T
 have G_lined_up:=d5.go X G hb fun F=>agV F T G_followers G_count_ahead
 have G_is_figure:=d6.go X G hb fun F=>agl F T
 have G_has_rule:=d7.go X G hb fun F=>agY F T
 have G_pieces_told:=d8.go X G hb fun F=>aeB F T
 have G_is_clash:=d9.go X G hb fun F=>ag0 F T G_is_figure
 have G_jobs_of:=d10.go X G hb fun F=>aii F T G_has_rule G_pieces_told G_is_clash
 have G_misused:=d11.go X G hb fun F=>aij F T
 have G_check_letters:=d12.go X G hb fun F=>adL F T G_misused
 have G_line_of:=d13.go X G hb fun F=>ail F T G_lined_up
 have G_forms_of:=d14.go X G hb fun F=>ag1 F T
 have G_steps_of:=d15.go X G hb fun F=>ag2 F T G_forms_of
 have G_Order___init__:KO l.prog w K mg base 5 C "Order" ["self", "rules"] (tI C):=⟨_,_,adF F16 T G_has_rule G_jobs_of G_check_letters G_line_of G_steps_of,⟨mkC,a16,i16,kcC⟩,L6 X G aC,.all (len2 fun _ _=>rfl)⟩
 have G_is_sign:=d17.go X G hb fun F=>ain F T
 have G_is_piece:=d18.go X G hb fun F=>ag4 F T G_is_sign
 have G_is_rule:=d19.go X G hb fun F=>aip F T G_is_piece
 have G_read_rule:=d20.go X G hb fun F=>ago F T G_is_rule
 have G_forgotten:=d21.go X G hb fun F=>agp F T
 have G_without:=d22.go X G hb fun F=>aiq F T
 have G_changed:=d23.go X G hb fun F=>air F T G_forgotten G_without
 have G_is_name:=d24.go X G hb fun F=>ait F T
 have G_is_beginning:=d25.go X G hb fun F=>aeu F T G_is_name
 have G_Book_begin:MO l.prog w K mg base 1 C_Book "begin" ["self", "words"] (tN C_Book):=⟨_,_,afr F26 T,T.cl_Book,⟨a26,i26,k26⟩,.all (len2 fun _ _=>rfl)⟩
 have G_Book_add_rule:MO l.prog w K mg base 5 C_Book "add_rule" ["self", "line"] (tO C_Book):=⟨_,_,adM F27 T G_read_rule,T.cl_Book,⟨a27,i27,k27⟩,.all (len2 fun _ _=>rfl)⟩
 have G_Book_tell:MO l.prog w K mg base 6 C_Book "tell" ["self", "line"] (tP C_Book):=⟨_,_,agq F28 T G_is_beginning G_Book_begin G_Book_add_rule,T.cl_Book,⟨a28,i28,k28⟩,.all (len2 fun _ _=>rfl)⟩
 have G_Book___init__:KO l.prog w K mg base 7 C_Book "Book" ["self", "text"] (tQ C_Book):=⟨_,_,adN F29 T G_Book_tell,⟨mkC_Book,a29,i29,kcC_Book⟩,L6 X G aC_Book,.all (len2 fun _ _=>rfl)⟩
 have G_Book_elders_from:z9 l.prog w K mg base 3 C_Book "elders_from" ["self", "name"] (tX C_Book C_NoName C_Ring):=⟨_,_,ac3 F30 T G_NoName___init__ G_Ring___init__,T.cl_Book,⟨a30,i30,k30⟩,.all (len2 fun _ _=>rfl)⟩
 have G_Book_rules_of:z9 l.prog w K mg base 4 C_Book "rules_of" ["self", "name"] (nR C_Book C_NoName C_Ring):=⟨_,_,adO F31 T G_changed G_Book_elders_from,T.cl_Book,⟨a31,i31,k31⟩,.all (len2 fun _ _=>rfl)⟩
 have G_Book_order_of:z9 l.prog w K mg base 7 C_Book "order_of" ["self", "name"] (uD C C_Book C_NoName C_Ring):=⟨_,_,adQ F32 T G_Order___init__ G_Book_rules_of,T.cl_Book,⟨a32,i32,k32⟩,.all (len2 fun _ _=>rfl)⟩
 have G_l_cell_at:=d33.go X G hb fun F=>ags F T
 have G_l_names:=d34.go X G hb fun F=>aiu F T
 have G_l_elders:=d35.go X G hb fun F=>ag5 F T G_l_cell_at
 have G_l_text:=d36.go X G hb fun F=>akv F T
 have G_l_due:=d37.go X G hb fun F=>al2 F T
 have G_l_told:=d38.go X G hb fun F=>akw F T G_Book_rules_of
 have G_l_kinds:=d39.go X G hb fun F=>aiv F T G_Book_order_of
 have G_l_held:=d40.go X G hb fun F=>aky F T G_l_told G_l_kinds
 exact aq8 F41 T G_Book___init__ G_l_cell_at G_l_names G_l_elders G_l_text G_l_due G_l_told G_l_kinds G_l_held
theorem walk{l:PySem.W.OpenLaw}{q:Program}{XP:(Str->Option Value)->Heap->Prop}{YP:World->Heap->Prop}{d:DefRec}{K:Params->PySem.W.Frag}(hn:l.most=some 63)(v0:d.params.defaults=[])(hY:∀ (w:World) (h:Heap),YP w h->(K w.params).In h)(F:∀ (w:World) (mg:Str->Option Value) (fa:Addr) (h:Heap),(K w.params).In h->h.Ns mainGlobals mg->mg d.name=some (.ref fa)->
   ∃ fd:FuncData,(∀ (s:Shared) (u:Value),BindsTo s fd ⟨[u],[]⟩ [("_law_script",u)])/\∀ base:Heap,(K w.params).In base->base.Ns mainGlobals mg->FnOk l.prog w (K w.params) mg base D9 10 fa fd ["_law_script"] (spLaw (K w.params))) :
  PySem.W.WalkO q loose XP YP l.row.toRowW d [] (fun f vs=>PySem.call f vs):=
 L2.walk_of (n:=63) (k:=10) (x:="_law_script") (CX:=fun _=>D9) (sp:=fun w=>spLaw (K w.params)) hn (by decide) v0 ⟨rfl,by decide,by decide,rfl⟩ hY F (fun _ _ a ns hl _ hS=>⟨a,ns,rfl,hS,hl,fun _=>rfl⟩) fun _ _ _ _ _ z=>z
end K87
open PySem PySem.W PyProof.Rows
set_option maxRecDepth 100000 in
set_option maxHeartbeats 0 in
theorem PySem.Challenge.cw_sortlore_k87_rings_and_no_names_holds : PySem.Challenge.rw_sortlore_k87_rings_and_no_names.Holds := by
 w_on;o_law;k_head;(case hw=>w_witness2)
 k_fill
 refine K87.walk (l:=PySem.Challenge.rw_sortlore_k87_rings_and_no_names) rfl rfl (fun w h zy=>PySem.W.kIn_of zy) ?F
 case F=>
  intro w mg fa h KX G dW
  refine' K87.all_mk KX G dW ?i0 ?l0 ?c0 ?k0 ?i1 ?l1 ?c1 ?k1 ?d2 ?d3 ?d4 ?d5 ?d6 ?d7 ?d8 ?d9 ?d10 ?d11 ?d12 ?d13 ?d14 ?d15 ?a16 ?i16 ?l16 ?c16 ?k16 ?d17 ?d18 ?d19 ?d20 ?d21 ?d22 ?d23 ?d24 ?d25 ?a26 ?i26 ?l26 ?c26 ?k26 ?a27 ?i27 ?l27 ?c27 ?k27 ?a28 ?i28 ?l28 ?c28 ?k28 ?a29 ?i29 ?l29 ?c29 ?k29 ?a30 ?i30 ?l30 ?c30 ?k30 ?a31 ?i31 ?l31 ?c31 ?k31 ?a32 ?i32 ?l32 ?c32 ?k32 ?d33 ?d34 ?d35 ?d36 ?d37 ?d38 ?d39 ?d40 ?a41 ?l41 ?c41 ?k41 ?aE_NoName ?lE_NoName ?t1_NoName ?t2_NoName ?t3_NoName ?t4_NoName ?sa_NoName ?ga_NoName ?gt_NoName ?cl_NoName ?bx_NoName ?ob_NoName ?kp_NoName ?nE_NoName ?aE_Ring ?lE_Ring ?t1_Ring ?t2_Ring ?t3_Ring ?t4_Ring ?sa_Ring ?ga_Ring ?gt_Ring ?cl_Ring ?bx_Ring ?ob_Ring ?kp_Ring ?nE_Ring ?eL ?eL1 ?eL2 ?eL3 ?ecn ?ect ?aD_LoreError ?D1_LoreError ?D2_LoreError ?D3_LoreError ?D4NoName_LoreError ?D4Ring_LoreError ?aD_NoName ?D1_NoName ?D2_NoName ?D3_NoName ?D4NoName_NoName ?D4Ring_NoName ?aD_Ring ?D1_Ring ?D2_Ring ?D3_Ring ?D4NoName_Ring ?D4Ring_Ring ?aX_Clash ?X1NoName_Clash ?X1Ring_Clash ?aX_NoDeed ?X1NoName_NoDeed ?X1Ring_NoDeed ?aX_NoLetter ?X1NoName_NoLetter ?X1Ring_NoLetter ?aX_NoRule ?X1NoName_NoRule ?X1Ring_NoRule ?aX_NoSign ?X1NoName_NoSign ?X1Ring_NoSign ?aX_NotPlain ?X1NoName_NotPlain ?X1Ring_NotPlain ?aX_NoText ?X1NoName_NoText ?X1Ring_NoText ?aX_Round ?X1NoName_Round ?X1Ring_Round ?aX_Twice ?X1NoName_Twice ?X1Ring_Twice ?aX_Ring ?X1NoName_Ring ?X1Ring_Ring ?aX_NoName ?X1NoName_NoName ?X1Ring_NoName ?Y1_ValueError ?Y1_ValueError_Ring ?aC ?pgC ?hdC ?poC ?saC ?mkC ?kcC ?nC_figures ?nC_behind ?nC_jobs ?nC_letter_line ?nC_mark_line ?nC_made ?aC_Book ?pgC_Book ?hdC_Book ?poC_Book ?saC_Book ?mkC_Book ?kcC_Book ?nC_own ?nC_elders ?nC_newest ?nC_length ?z_ValueError ?z_all ?z_any ?z_dict ?z_enumerate ?z_isinstance ?z_len ?z_list ?z_min ?z_ord ?z_range ?z_reversed ?z_str ?z_tuple ?z_zip ?y_JOBS ?d_JOBS ?s_JOBS ?e_JOBS_0 ?e_JOBS_1 ?e_JOBS_2 ?e_JOBS_3 ?e_JOBS_4 ?y_AGAIN ?d_AGAIN ?y_FEWEST ?d_FEWEST ?s_FEWEST ?e_FEWEST_0 ?e_FEWEST_1 ?e_FEWEST_2 ?e_FEWEST_3 ?e_FEWEST_4 ?e_FEWEST_5 ?y_BARE ?d_BARE ?y_STAYING ?d_STAYING ?s_STAYING ?e_STAYING_0 ?e_STAYING_1 ?e_STAYING_2 ?e_STAYING_3 ?y_MARK ?y_LETTER ?y_PER
  any_goals (refine' K87.df_mk ?da ?dl ?dc ?dk;(case da=>k_is);(case dl=>k_is);(case dc=>k_is);(case dk=>k_is))
  (case aE_NoName=>k_is)
  (case lE_NoName=>k_is)
  (case t4_NoName=>k_is)
  (case aE_Ring=>k_is)
  (case lE_Ring=>k_is)
  (case t4_Ring=>k_is)
  (case aC=>k_is)
  (case aC_Book=>k_is)
  (case i0=>k_is)
  (case l0=>k_is)
  (case c0=>k_is)
  (case k0=>k_is)
  (case i1=>k_is)
  (case l1=>k_is)
  (case c1=>k_is)
  (case k1=>k_is)
  (case a16=>k_is)
  (case i16=>k_is)
  (case l16=>k_is)
  (case c16=>k_is)
  (case k16=>k_is)
  (case a26=>k_is)
  (case i26=>k_is)
  (case l26=>k_is)
  (case c26=>k_is)
  (case k26=>k_is)
  (case a27=>k_is)
  (case i27=>k_is)
  (case l27=>k_is)
  (case c27=>k_is)
  (case k27=>k_is)
  (case a28=>k_is)
  (case i28=>k_is)
  (case l28=>k_is)
  (case c28=>k_is)
  (case k28=>k_is)
  (case a29=>k_is)
  (case i29=>k_is)
  (case l29=>k_is)
  (case c29=>k_is)
  (case k29=>k_is)
  (case a30=>k_is)
  (case i30=>k_is)
  (case l30=>k_is)
  (case c30=>k_is)
  (case k30=>k_is)
  (case a31=>k_is)
  (case i31=>k_is)
  (case l31=>k_is)
  (case c31=>k_is)
  (case k31=>k_is)
  (case a32=>k_is)
  (case i32=>k_is)
  (case l32=>k_is)
  (case c32=>k_is)
  (case k32=>k_is)
  (case a41=>k_is)
  (case l41=>k_is)
  (case c41=>k_is)
  (case k41=>k_is)
  (case t1_NoName=>refine' L2.tail_one ?xX ?xY ?xZ;(case xX=>k_is);(case xZ=>k_is);(case xY=>refine' L2.nsOk_of ?eV ?eW;(case eV=>k_is);(case eW=>rfl)))
  (case t2_NoName=>rfl)
  (case t3_NoName=>refine' L2.nsOk_of ?eV ?eW;(case eV=>k_is);(case eW=>rfl))
  (case sa_NoName=>k_is)
  (case ga_NoName=>k_is)
  (case gt_NoName=>k_is)
  (case cl_NoName=>k_is)
  (case bx_NoName=>k_is)
  (case ob_NoName=>k_is)
  (case kp_NoName=>k_is)
  (case nE_NoName=>k_is)
  (case t1_Ring=>refine' L2.tail_one ?xX ?xY ?xZ;(case xX=>k_is);(case xZ=>k_is);(case xY=>refine' L2.nsOk_of ?eV ?eW;(case eV=>k_is);(case eW=>rfl)))
  (case t2_Ring=>rfl)
  (case t3_Ring=>refine' L2.nsOk_of ?eV ?eW;(case eV=>k_is);(case eW=>rfl))
  (case sa_Ring=>k_is)
  (case ga_Ring=>k_is)
  (case gt_Ring=>k_is)
  (case cl_Ring=>k_is)
  (case bx_Ring=>k_is)
  (case ob_Ring=>k_is)
  (case kp_Ring=>k_is)
  (case nE_Ring=>k_is)
  (case eL=>k_is)
  (case eL1=>k_is)
  (case eL2=>k_is)
  (case eL3=>k_is)
  (case ecn=>k_is)
  (case ect=>k_is)
  (case aD_LoreError=>k_is)
  (case D1_LoreError=>k_is)
  (case D2_LoreError=>k_is)
  (case D3_LoreError=>k_is)
  (case D4NoName_LoreError=>k_is)
  (case D4Ring_LoreError=>k_is)
  (case aD_NoName=>k_is)
  (case D1_NoName=>k_is)
  (case D2_NoName=>k_is)
  (case D3_NoName=>k_is)
  (case D4NoName_NoName=>k_is)
  (case D4Ring_NoName=>k_is)
  (case aD_Ring=>k_is)
  (case D1_Ring=>k_is)
  (case D2_Ring=>k_is)
  (case D3_Ring=>k_is)
  (case D4NoName_Ring=>k_is)
  (case D4Ring_Ring=>k_is)
  (case aX_Clash=>k_is)
  (case X1NoName_Clash=>kit_is)
  (case X1Ring_Clash=>kit_is)
  (case aX_NoDeed=>k_is)
  (case X1NoName_NoDeed=>kit_is)
  (case X1Ring_NoDeed=>kit_is)
  (case aX_NoLetter=>k_is)
  (case X1NoName_NoLetter=>kit_is)
  (case X1Ring_NoLetter=>kit_is)
  (case aX_NoRule=>k_is)
  (case X1NoName_NoRule=>kit_is)
  (case X1Ring_NoRule=>kit_is)
  (case aX_NoSign=>k_is)
  (case X1NoName_NoSign=>kit_is)
  (case X1Ring_NoSign=>kit_is)
  (case aX_NotPlain=>k_is)
  (case X1NoName_NotPlain=>kit_is)
  (case X1Ring_NotPlain=>kit_is)
  (case aX_NoText=>k_is)
  (case X1NoName_NoText=>kit_is)
  (case X1Ring_NoText=>kit_is)
  (case aX_Round=>k_is)
  (case X1NoName_Round=>kit_is)
  (case X1Ring_Round=>kit_is)
  (case aX_Twice=>k_is)
  (case X1NoName_Twice=>kit_is)
  (case X1Ring_Twice=>kit_is)
  (case aX_Ring=>k_is)
  (case X1NoName_Ring=>kit_is)
  (case X1Ring_Ring=>kit_is)
  (case aX_NoName=>k_is)
  (case X1NoName_NoName=>kit_is)
  (case X1Ring_NoName=>kit_is)
  (case Y1_ValueError=>kit_is)
  (case Y1_ValueError_Ring=>kit_is)
  (case pgC=>k_is)
  (case hdC=>k_is)
  (case poC=>k_is)
  (case saC=>k_is)
  (case mkC=>k_is)
  (case kcC=>k_is)
  (case nC_figures=>k_is)
  (case nC_behind=>k_is)
  (case nC_jobs=>k_is)
  (case nC_letter_line=>k_is)
  (case nC_mark_line=>k_is)
  (case nC_made=>k_is)
  (case pgC_Book=>k_is)
  (case hdC_Book=>k_is)
  (case poC_Book=>k_is)
  (case saC_Book=>k_is)
  (case mkC_Book=>k_is)
  (case kcC_Book=>k_is)
  (case nC_own=>k_is)
  (case nC_elders=>k_is)
  (case nC_newest=>k_is)
  (case nC_length=>k_is)
  (case z_ValueError=>k_is)
  (case z_all=>k_is)
  (case z_any=>k_is)
  (case z_dict=>k_is)
  (case z_enumerate=>k_is)
  (case z_isinstance=>k_is)
  (case z_len=>k_is)
  (case z_list=>k_is)
  (case z_min=>k_is)
  (case z_ord=>k_is)
  (case z_range=>k_is)
  (case z_reversed=>k_is)
  (case z_str=>k_is)
  (case z_tuple=>k_is)
  (case z_zip=>k_is)
  (case y_JOBS=>k_is)
  (case d_JOBS=>k_is)
  (case s_JOBS=>rfl)
  (case e_JOBS_0=>rfl)
  (case e_JOBS_1=>rfl)
  (case e_JOBS_2=>rfl)
  (case e_JOBS_3=>rfl)
  (case e_JOBS_4=>rfl)
  (case y_AGAIN=>k_is)
  (case d_AGAIN=>k_is)
  (case y_FEWEST=>k_is)
  (case d_FEWEST=>k_is)
  (case s_FEWEST=>rfl)
  (case e_FEWEST_0=>rfl)
  (case e_FEWEST_1=>rfl)
  (case e_FEWEST_2=>rfl)
  (case e_FEWEST_3=>rfl)
  (case e_FEWEST_4=>rfl)
  (case e_FEWEST_5=>rfl)
  (case y_BARE=>k_is)
  (case d_BARE=>k_is)
  (case y_STAYING=>k_is)
  (case d_STAYING=>k_is)
  (case s_STAYING=>rfl)
  (case e_STAYING_0=>rfl)
  (case e_STAYING_1=>rfl)
  (case e_STAYING_2=>rfl)
  (case e_STAYING_3=>rfl)
  (case y_MARK=>k_is)
  (case y_LETTER=>k_is)
  (case y_PER=>k_is)
